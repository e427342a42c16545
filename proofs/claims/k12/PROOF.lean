import PyProof.Rows.All
import Wide.All
import OpenK.AllK
import Wide.FinOn
import Lean
import PyProof.EqAt
import PyProof.EqKinds
import PyProof.TupleCall
import PyProof.LongRange
import PyProof.AttrMissSeq
import PyProof.DictUpdate
import PyProof.WalksS
import KE.KDictOf
import PyProof.ListRange
import KE.KEqDict
import KE.KDictList
import KE.KTurnsDict
import KE.KPairComp
import PyProof.Rows.SortShell
import PyProof.SumWalkG
import PySem.Challenge.RW_likehalves_k12_whole_small_frames
set_option compiler.extract_closed false
set_option genSizeOf false
set_option Elab.async false
set_option linter.all false
set_option maxRecDepth 100000
namespace L2
open PySem PySem.Spec PyProof.Rows

noncomputable abbrev Key := Sum Int Str
noncomputable def keyIs : Key → Value → Bool
  | .inl k, v => Value.isInt k v
  | .inr x, v => Value.isStrOf x v
noncomputable def keyH (w : World) : Key → Int
  | .inl k => hashInt k
  | .inr x => hashStr w x
theorem keyIs_shape : ∀ {k : Key} {v : Value}, keyIs k v = true → (∃ i t, k = Sum.inl i ∧ v = Value.int i t) ∨ (∃ x t, k = Sum.inr x ∧ v = Value.str x t)
  | .inl i, v, h => by
    obtain ⟨t, e⟩ := Value.isInt_shape (k := i) (v := v) h
    exact .inl ⟨i, t, rfl, e⟩
  | .inr x, v, h => by
    obtain ⟨t, e⟩ := Value.isStrOf_shape (x := x) (v := v) h
    exact .inr ⟨x, t, rfl, e⟩
theorem keyIs_int (i : Int) (t : Tok) : keyIs (.inl i) (.int i t) = true := by simp [keyIs, Value.isInt]
theorem keyIs_str (x : Str) (t : Tok) : keyIs (.inr x) (.str x t) = true := by simp [keyIs, Value.isStrOf]
theorem key_ll (a b : Int) : decide ((Sum.inl a : Key) = Sum.inl b) = (a == b) := by
  by_cases e : a = b
  · subst e; simp
  · have h : ¬ (Sum.inl a : Key) = Sum.inl b := fun q => e (Sum.inl.inj q)
    rw [decide_eq_false h]
    exact (beq_eq_false_iff_ne.mpr e).symm
theorem key_rr (a b : Str) : decide ((Sum.inr a : Key) = Sum.inr b) = decide (a = b) := by
  by_cases e : a = b
  · subst e; simp
  · have h : ¬ (Sum.inr a : Key) = Sum.inr b := fun q => e (Sum.inr.inj q)
    rw [decide_eq_false h, decide_eq_false e]
theorem key_lr (a : Int) (b : Str) : decide ((Sum.inl a : Key) = Sum.inr b) = false := decide_eq_false (fun q => nomatch q)
theorem key_rl (a : Str) (b : Int) : decide ((Sum.inr a : Key) = Sum.inl b) = false := decide_eq_false (fun q => nomatch q)

noncomputable def mixKind (prog : Program) (w : World) : PySem.KeyKind prog w Key where
  is := keyIs
  hash := keyH w
  inj := fun v a b ha hb => by
    rcases keyIs_shape ha with ⟨i, t, rfl, rfl⟩ | ⟨x, t, rfl, rfl⟩
    · rcases keyIs_shape hb with ⟨j, u, rfl, e⟩ | ⟨y, u, rfl, e⟩
      · injection e with e1 _; rw [e1]
      · exact nomatch e
    · rcases keyIs_shape hb with ⟨j, u, rfl, e⟩ | ⟨y, u, rfl, e⟩
      · exact nomatch e
      · injection e with e1 _; rw [e1]
  byValue := fun k v h => by
    rcases keyIs_shape h with ⟨i, t, rfl, rfl⟩ | ⟨x, t, rfl, rfl⟩ <;> rfl
  pyHash := fun hv h => by
    rcases keyIs_shape hv with ⟨i, t, rfl, rfl⟩ | ⟨x, t, rfl, rfl⟩
    · exact wpAny_pyHash_int h
    · exact wpAny_pyHash_str h
  eqBool := fun hu hv h => by
    rcases keyIs_shape hu with ⟨i, t, rfl, rfl⟩ | ⟨x, t, rfl, rfl⟩
    · rcases keyIs_shape hv with ⟨j, u, rfl, rfl⟩ | ⟨y, u, rfl, rfl⟩
      · rw [key_ll] at h; exact wpAny_eqBool_int h
      · rw [key_lr] at h; exact SeqAt.EqAt.int_str i t y u _ _ _ _ h
    · rcases keyIs_shape hv with ⟨j, u, rfl, rfl⟩ | ⟨y, u, rfl, rfl⟩
      · rw [key_rl] at h; exact SeqAt.EqAt.str_int x t j u _ _ _ _ h
      · rw [key_rr] at h; exact wpAny_eqBool_str h
  «strs» := fun k x t v h => by
    rcases keyIs_shape h with ⟨i, u, rfl, e⟩ | ⟨y, u, rfl, e⟩
    · exact nomatch e
    · injection e with e1 _
      subst e1
      cases v <;> rfl

theorem mixKind_int (prog : Program) (w : World) (i : Int) (t : Tok) : (mixKind prog w).is (.inl i) (.int i t) = true := keyIs_int i t
theorem mixKind_str (prog : Program) (w : World) (x : Str) (t : Tok) : (mixKind prog w).is (.inr x) (.str x t) = true := keyIs_str x t
end L2

namespace L2
open PySem PySem.Spec PyProof.Rows

inductive V where
  | non | bl (b : Bool) | int (i : Int) | str (x : Str) | byt (b : Array UInt8) | flt (b : UInt64) | ref (a : Addr) | ty (n : String)
  deriving DecidableEq

noncomputable def RelV : V → Value → Prop
  | .non, u => u = Value.none
  | .bl b, u => u = Value.bool b
  | .int i, u => ∃ t, u = Value.int i t
  | .str x, u => ∃ t, u = Value.str x t
  | .byt b, u => ∃ t, u = Value.bytes b t
  | .flt b, u => ∃ t, u = Value.float b t
  | .ref a, u => u = Value.ref a
  | .ty n, u => u = Value.type n

noncomputable abbrev Vals : List V → List Value → Prop := Paired RelV
theorem Vals.length {xs : List V} {us : List Value} (r : Vals xs us) : xs.length = us.length := Paired.length r
theorem Vals.get : ∀ {xs : List V} {us : List Value} {i : Nat} {x : V}, Vals xs us → xs[i]? = some x → ∃ u, us[i]? = some u ∧ RelV x u
  | _, _, _, _, .nil, e => by simp at e
  | _, _, 0, _, .cons r _, e => by simp at e; subst e; exact ⟨_, rfl, r⟩
  | _, _, i + 1, x, .cons _ t, e => by
    obtain ⟨u, h1, h2⟩ := Vals.get (i := i) (x := x) t (by simpa using e)
    exact ⟨u, by simpa using h1, h2⟩
theorem Vals.set {x : V} {u : Value} (r : RelV x u) : ∀ {xs : List V} {us : List Value} (i : Nat), Vals xs us → Vals (xs.set i x) (us.set i u)
  | _, _, _, .nil => .nil
  | _, _, 0, .cons _ t => .cons r t
  | _, _, i + 1, .cons q t => .cons q (Vals.set r i t)
theorem Vals.append {xs ys : List V} {us ws : List Value} (a : Vals xs us) (b : Vals ys ws) : Vals (xs ++ ys) (us ++ ws) := by
  induction a with
  | nil => exact b
  | cons r _ ih => exact .cons r ih
theorem Vals.take : ∀ {xs : List V} {us : List Value} (n : Nat), Vals xs us → Vals (xs.take n) (us.take n)
  | _, _, 0, _ => .nil
  | _, _, _ + 1, .nil => .nil
  | _, _, n + 1, .cons r t => .cons r (Vals.take n t)
theorem Vals.drop : ∀ {xs : List V} {us : List Value} (n : Nat), Vals xs us → Vals (xs.drop n) (us.drop n)
  | _, _, 0, r => r
  | _, _, _ + 1, .nil => .nil
  | _, _, n + 1, .cons _ t => Vals.drop n t
theorem Vals.none_of : ∀ {xs : List V} {us : List Value} {i : Nat}, Vals xs us → xs[i]? = none → us[i]? = none := fun {xs us i} r e => by
  have h1 := r.length
  have h2 : xs.length ≤ i := List.getElem?_eq_none_iff.mp e
  exact List.getElem?_eq_none_iff.mpr (by lia)

noncomputable def RelO : Option V → Option Value → Prop
  | some v, some u => RelV v u
  | none, none => True
  | _, _ => False
noncomputable def KV {κ : Type} : List (κ × V) → List (κ × Value) → Prop := Paired fun (p : κ × V) (q : κ × Value) => p.1 = q.1 ∧ RelV p.2 q.2

noncomputable def kV : Key → V
  | .inl i => .int i
  | .inr x => .str x

inductive HO where
  /-- a list -/
  | lst (xs : List V)
  /-- a tuple (never changes) -/
  | tup (xs : List V)
  /-- a dict whose keys are ints and texts; one whose keys are tuples of ints and texts (the empty one is both) -/
  | dK (kvs : List (Key × V)) | dT (kvs : List (List Key × V))
  /-- a set of ints: its members, its size -/
  | set (S : Int → Bool) (n : Nat)
  /-- an instance of the class at C, its dict at dx, its attributes -/
  | ins (C dx : Addr) (fs : List (Str × V))
  /-- the dict of the instance at x -/
  | own (x : Addr)
  /-- the dict of an exception -/
  | xd (fs : List (Str × V))
  /-- a bound method, f of x -/
  | met (f x : Addr)
  /-- a range object lo, lo + 1, .. below hi -/
  | rng (lo hi : Int)
  /-- a thing that is known to the object (the script; a dict while a loop walks it): read, never written while it is so -/
  | frz (o : Obj) (u : HO)
  /-- a code object's table -/
  | tbl (ps : Array Value)
  /-- any other thing, by what is true of its one object (a def of one's own: SetO a S n := HO.ext fun h => ..) -/
  | ext (φ : Heap → Prop)

noncomputable abbrev Hp := Addr → Option HO
noncomputable def upd (H : Hp) (a : Addr) (o : HO) : Hp := fun b => if b = a then some o else H b
theorem upd_same {H : Hp} {a : Addr} {o : HO} : upd H a o a = some o := by unfold upd; rw [if_pos rfl]
theorem upd_ne {H : Hp} {a b : Addr} {o : HO} (h : b ≠ a) : upd H a o b = H b := by unfold upd; rw [if_neg h]
theorem ne_of {H : Hp} {a b : Addr} {o u : HO} (h : H a = some o) (h' : H b = some u) (d : o ≠ u) : a ≠ b := by
  intro e; subst e; rw [h] at h'; exact d (Option.some.inj h')
theorem ne_of_none {H : Hp} {a b : Addr} {o : HO} (h : H a = some o) (h' : H b = none) : a ≠ b := by
  intro e; subst e; rw [h] at h'; cases h'

section
variable (P : Program) (w : World)
noncomputable def ObjOk (H : Hp) (h : Heap) (a : Addr) : HO → Prop
  | .lst xs => xs.length ≤ sizeLine ∧ ∃ (its : List Value) (n : Nat), Vals xs its ∧ h.get? a = some { cls := .type "list", data := .seq its.toArray n }
  | .tup xs => xs.length ≤ sizeLine ∧ ∃ its : List Value, Vals xs its ∧ IsTup h a its.toArray
  | .dK kvs => kvs.length ≤ sizeLine ∧ (a == sysModules) = false ∧ ∃ vs, KV kvs vs ∧ h.DictOf (mixKind P w) a vs
  | .dT kvs => kvs.length ≤ sizeLine ∧ (a == sysModules) = false ∧ ∃ xs : List (List Key × Addr × Value),
      Paired (fun (p : List Key × V) (q : List Key × Addr × Value) => p.1 = q.1 ∧ H q.2.1 = some (.tup (p.1.map kV)) ∧ RelV p.2 q.2.2) kvs xs ∧
      ∃ o es ep, h.get? a = some o ∧ o.ExactDict ∧ o.data = .dict es ep ∧ es.toList = xs.map (entryOfKey (tupleKind (mixKind P w))) ∧ (xs.map (·.1)).Nodup
  | .set S n => h.SetOf (intKind P w) a S n
  | .ins C dx fs => H dx = some (.own a) ∧ fs.length ≤ 1000 ∧ dx ≠ a ∧ h.get? a = some (PySem.W.instObj C dx) ∧
      ∃ mA, h.Ns1 dx mA ∧ (∀ f, RelO (fs.lookup f) (mA f)) ∧ PySem.Within mA (fs.map (·.1))
  | .own _ => ∃ o, h.get? a = some o
  | .xd fs => ∃ mA, h.Ns1 a mA ∧ ∀ f, RelO (fs.lookup f) (mA f)
  | .rng lo hi => ∃ t u v, h.get? a = some { cls := .type "range", data := .fields #[.int lo t, .int hi u, .int 1 v] }
  | .frz o u => h.get? a = some o ∧ ObjOk H h a u
  | .tbl ps => h.get? a = some { cls := .none, data := .fields ps }
  | .met f x => h.get? a = some (PySem.W.methodObj (.ref f) (.ref x))
  | .ext φ => φ h ∧ (∃ o, h.get? a = some o) ∧ ∀ h1 h2 : Heap, φ h1 → (∀ o, h1.get? a = some o → h2.get? a = some o) → φ h2
noncomputable def HOk (H : Hp) (h : Heap) : Prop := ∀ a o, H a = some o → ObjOk P w H h a o
end

section
variable {P : Program} {w : World} {H H' : Hp} {h h' : Heap} {a : Addr} {o : HO}
theorem ObjOk.lt (x : ObjOk P w H h a o) : a < h.objs.size := by
  cases o with
  | lst xs => obtain ⟨_, _, _, _, e⟩ := x; exact Heap.lt_size e
  | tup xs => obtain ⟨_, _, _, p⟩ := x; exact p.lt
  | dK kvs => obtain ⟨_, _, _, _, o, _, _, e, _⟩ := x; exact Heap.lt_size e
  | dT kvs => obtain ⟨_, _, _, _, o, _, _, e, _⟩ := x; exact Heap.lt_size e
  | set S n => obtain ⟨o, _, _, _, e, _⟩ := x; exact Heap.lt_size e
  | ins C dx fs => obtain ⟨_, _, _, e, _⟩ := x; exact Heap.lt_size e
  | own y => obtain ⟨_, e⟩ := x; exact Heap.lt_size e
  | xd fs => obtain ⟨_, ⟨_, _, _, e, _⟩, _⟩ := x; exact Heap.lt_size e
  | rng lo hi => obtain ⟨_, _, _, e⟩ := x; exact Heap.lt_size e
  | frz ob u => obtain ⟨e, _⟩ := x; exact Heap.lt_size e
  | tbl ps => exact Heap.lt_size (show h.get? a = some _ from x)
  | met f y => exact Heap.lt_size (show h.get? a = some _ from x)
  | ext φ => obtain ⟨_, ⟨_, e⟩, _⟩ := x; exact Heap.lt_size e
theorem Paired.mapP {α β : Type} {F G : α → β → Prop} {l₁ : List α} {l₂ : List β} (h : Paired F l₁ l₂) (f : ∀ a b, F a b → G a b) : Paired G l₁ l₂ := by
  induction h with
  | nil => exact .nil
  | cons r _ ih => exact .cons (f _ _ r) ih
theorem ObjOk.stay (x : ObjOk P w H h a o) (k : ∀ b u, (b = a ∨ H b = some (.own a)) → h.get? b = some u → h'.get? b = some u)
    (ho : ∀ b, H b = some (.own a) → H' b = some (.own a)) (ht : ∀ b xs, H b = some (.tup xs) → H' b = some (.tup xs)) : ObjOk P w H' h' a o := by
  induction o with
  | lst xs => obtain ⟨z, its, n, r, e⟩ := x; exact ⟨z, its, n, r, k _ _ (.inl rfl) e⟩
  | tup xs => obtain ⟨z, its, r, ob, e, c⟩ := x; exact ⟨z, its, r, ob, k _ _ (.inl rfl) e, c⟩
  | dK kvs => obtain ⟨z, y, vs, r, ob, es, ep, e, c⟩ := x; exact ⟨z, y, vs, r, ob, es, ep, k _ _ (.inl rfl) e, c⟩
  | dT kvs =>
    obtain ⟨z, y, xs, r, ob, es, ep, e, c⟩ := x
    exact ⟨z, y, xs, Paired.mapP r fun p q z => ⟨z.1, ht _ _ z.2.1, z.2.2⟩, ob, es, ep, k _ _ (.inl rfl) e, c⟩
  | set S n => obtain ⟨ob, es, ep, t, e, c⟩ := x; exact ⟨ob, es, ep, t, k _ _ (.inl rfl) e, c⟩
  | ins C dx fs =>
    obtain ⟨d, z, ne, e, mA, ⟨od, es, ep, e2, c⟩, r⟩ := x
    exact ⟨ho _ d, z, ne, k _ _ (.inl rfl) e, mA, ⟨od, es, ep, k _ _ (.inr d) e2, c⟩, r⟩
  | own y => obtain ⟨ob, e⟩ := x; exact ⟨ob, k _ _ (.inl rfl) e⟩
  | xd fs => obtain ⟨mA, ⟨od, es, ep, e, c⟩, r⟩ := x; exact ⟨mA, ⟨od, es, ep, k _ _ (.inl rfl) e, c⟩, r⟩
  | rng lo hi => obtain ⟨t, u, v, e⟩ := x; exact ⟨t, u, v, k _ _ (.inl rfl) e⟩
  | frz ob u ih => obtain ⟨e, q⟩ := x; exact ⟨k _ _ (.inl rfl) e, ih q⟩
  | tbl ps =>
    have e : h.get? a = some { cls := .none, data := .fields ps } := x
    show h'.get? a = some { cls := .none, data := .fields ps }
    exact k a _ (.inl rfl) e
  | met f y =>
    have e : h.get? a = some (PySem.W.methodObj (.ref f) (.ref y)) := x
    show h'.get? a = some (PySem.W.methodObj (.ref f) (.ref y))
    exact k a _ (.inl rfl) e
  | ext φ => obtain ⟨p, ⟨o, e⟩, st⟩ := x; exact ⟨st _ _ p fun o q => k _ _ (.inl rfl) q, ⟨o, k _ _ (.inl rfl) e⟩, st⟩
theorem HOk.lt (x : HOk P w H h) (e : H a = some o) : a < h.objs.size := (x a o e).lt
theorem HOk.fresh (x : HOk P w H h) (e : h.objs.size ≤ a) : H a = none := by
  cases q : H a with
  | none => rfl
  | some u => exact absurd (Nat.lt_of_lt_of_le (x.lt q) e) (Nat.lt_irrefl _)
theorem HOk.kept (x : HOk P w H h) (k : ∀ b u, h.get? b = some u → h'.get? b = some u) : HOk P w H h' := fun a o e =>
  (x a o e).stay (fun b u _ q => k b u q) (fun _ q => q) fun _ _ q => q
theorem HOk.laid (x : HOk P w H h) (k : ∀ b u, h.get? b = some u → h'.get? b = some u) (hp : h.objs.size ≤ a) (new : ObjOk P w (upd H a o) h' a o) : HOk P w (upd H a o) h' := fun b u e => by
  have hn := x.fresh hp
  by_cases hb : b = a
  · subst hb; rw [upd_same] at e; cases e; exact new
  · rw [upd_ne hb] at e
    exact (x b u e).stay (fun c v _ q => k c v q) (fun c q => by rw [upd_ne (ne_of_none q hn)]; exact q) fun c xs q => by rw [upd_ne (ne_of_none q hn)]; exact q
end

noncomputable def Rd (H : Hp) (a : Addr) (u : HO) : Prop := H a = some u ∨ ∃ o, H a = some (.frz o u)
theorem Rd.ok {P : Program} {w : World} {H : Hp} {h : Heap} {a : Addr} {u : HO} (r : Rd H a u) (x : HOk P w H h) : ObjOk P w H h a u := by
  rcases r with r | ⟨o, r⟩
  · exact x a u r
  · obtain ⟨_, q⟩ := x a _ r
    exact q
noncomputable def Mut : Option HO → Prop
  | some (.lst _) => True
  | some (.dK _) => True
  | some (.dT _) => True
  | some (.set _ _) => True
  | some (.ins _ _ _) => True
  | some (.ext _) => True
  | _ => False
section
variable {P : Program} {w : World} {H : Hp} {h h' : Heap} {x e : Addr} {o' : HO}
theorem HOk.write (ok : HOk P w H h) (mu : Mut (H x)) (he : e = x ∨ H e = some (.own x)) (k : ∀ b u, b ≠ e → h.get? b = some u → h'.get? b = some u) (heo : ∃ u, h'.get? e = some u)
    (new : ObjOk P w (upd H x o') h' x o') : HOk P w (upd H x o') h' := fun b u q => by
  have nown : ∀ c y, H c = some (.own y) → c ≠ x := fun c y r z => by subst z; rw [r] at mu; exact mu
  have ntup : ∀ c xs, H c = some (.tup xs) → c ≠ x := fun c xs r z => by subst z; rw [r] at mu; exact mu
  by_cases hb : b = x
  · subst hb; rw [upd_same] at q; cases q; exact new
  · rw [upd_ne hb] at q
    by_cases hbe : b = e
    · have q' : H b = some (.own x) := by
        rcases he with z | z
        · exact absurd (hbe.trans z) hb
        · rw [hbe]; exact z
      rw [q] at q'; cases q'
      obtain ⟨v, hv⟩ := heo
      exact ⟨v, by rw [hbe]; exact hv⟩
    · refine (ok b u q).stay (fun c v hc r => k c v ?_ r) (fun c r => by rw [upd_ne (nown c b r)]; exact r) fun c xs r => by rw [upd_ne (ntup c xs r)]; exact r
      rcases hc with rfl | hc
      · exact hbe
      · rintro rfl
        rcases he with z | z
        · exact nown c b hc z
        · rw [hc] at z; cases z; exact hb rfl
end

structure Un (fs ex : List Addr) (H H' : Hp) (h h' : Heap) : Prop where
  keep : ∀ b o, h.get? b = some o → H b = none → b ∉ fs → b ∉ ex → h'.get? b = some o
  slot : ∀ b o, h.get? b = some o → H b = none → b ∈ fs → b ∉ ex → ∃ sl, h'.get? b = some { o with slots := sl }
  free : ∀ b o, h.get? b = some o → H b = none → b ∉ ex → H' b = none
  there : ∀ b o, h.get? b = some o → b ∉ ex → ∃ o', h'.get? b = some o'
  tups : ∀ b xs, H b = some (.tup xs) → H' b = some (.tup xs)
  frzs : ∀ b o u, H b = some (.frz o u) → H' b = some (.frz o u)
  tbls : ∀ b ps, H b = some (.tbl ps) → ∃ more, H' b = some (.tbl (ps ++ more))
section
variable {fs fs' ex ex' : List Addr} {H H1 H2 : Hp} {h h1 h2 h' : Heap} {a x e : Addr} {o : HO}
theorem Un.any (u : Un fs ex H H1 h h1) {b : Addr} {ob : Obj} (q : h.get? b = some ob) (n : H b = none) (hx : b ∉ ex) : ∃ sl, h1.get? b = some { ob with slots := sl } := by
  by_cases hb : b ∈ fs
  · exact u.slot b ob q n hb hx
  · exact ⟨ob.slots, u.keep b ob q n hb hx⟩
theorem Un.kept (k : ∀ b u, h.get? b = some u → h'.get? b = some u) : Un fs ex H H h h' :=
  ⟨fun b ob q _ _ _ => k b ob q, fun b ob q _ _ _ => ⟨ob.slots, k b ob q⟩, fun _ _ _ n _ => n, fun b ob q _ => ⟨ob, k b ob q⟩, fun _ _ q => q, fun _ _ _ q => q, fun _ ps q => ⟨#[], by rw [q]; simp⟩⟩
theorem Un.refl : Un fs ex H H h h := Un.kept fun _ _ q => q
theorem Un.laid (k : ∀ b u, h.get? b = some u → h'.get? b = some u) (hp : h.objs.size ≤ a) (hn : H a = none) : Un fs ex H (upd H a o) h h' where
  keep := fun b u q _ _ _ => k b u q
  slot := fun b u q _ _ _ => ⟨u.slots, k b u q⟩
  free := fun b u q n _ => by rw [upd_ne (Nat.ne_of_lt (Nat.lt_of_lt_of_le (Heap.lt_size q) hp))]; exact n
  there := fun b u q _ => ⟨u, k b u q⟩
  tups := fun b xs q => by rw [upd_ne (ne_of_none q hn)]; exact q
  frzs := fun b u xs q => by rw [upd_ne (ne_of_none q hn)]; exact q
  tbls := fun b ps q => ⟨#[], by rw [upd_ne (ne_of_none q hn), q]; simp⟩
theorem Un.write (mu : Mut (H x)) (he : e = x ∨ H e = some (.own x)) (k : ∀ b u, b ≠ e → h.get? b = some u → h'.get? b = some u) (heo : ∃ u, h'.get? e = some u) : Un fs ex H (upd H x o) h h' := by
  have hx : ∀ b, H b = none → b ≠ x := fun b n z => by subst z; rw [n] at mu; exact mu
  have hb : ∀ b, H b = none → b ≠ e := fun b n z => by
    subst z
    rcases he with r | r
    · exact hx b n r
    · rw [n] at r; cases r
  have hm : ∀ b u, H b = some u → ¬ Mut (some u) → b ≠ x := fun b u q nm z => by subst z; rw [q] at mu; exact nm mu
  refine ⟨fun b u q n _ _ => k b u (hb b n) q, fun b u q n _ _ => ⟨u.slots, k b u (hb b n) q⟩, fun b u q n _ => by rw [upd_ne (hx b n)]; exact n, fun b u q _ => ?_,
    fun b xs q => by rw [upd_ne (hm b _ q fun z => z)]; exact q, fun b u xs q => by rw [upd_ne (hm b _ q fun z => z)]; exact q, fun b ps q => ⟨#[], by rw [upd_ne (hm b _ q fun z => z), q]; simp⟩⟩
  by_cases hbe : b = e
  · subst hbe; exact heo
  · exact ⟨u, k b u hbe q⟩
end

noncomputable def trk (h : Heap) (H : Hp) : List Addr := (List.range h.objs.size).filter fun a => (H a).isSome
noncomputable def hidT (h : Heap) (H : Hp) : Heap := PySem.W.hideAll h (trk h H)
theorem hidT_size (h : Heap) (H : Hp) : (hidT h H).objs.size = h.objs.size := PySem.W.hideAll_size _ _
theorem hidT_get {h : Heap} {H : Hp} {b : Addr} {o : Obj} (e : h.get? b = some o) (n : H b = none) : (hidT h H).get? b = some o :=
  PySem.W.hideAll_get _ e fun hm => by
    have q : (H b).isSome = true := (List.mem_filter.mp hm).2
    rw [n] at q; simp at q
theorem of_hidT {h : Heap} {H : Hp} {b : Addr} {o : Obj} (e : (hidT h H).get? b = some o) : h.get? b = some o ∧ H b = none := by
  have e' : h.get? b = some o := PySem.W.of_hideAll (trk h H) e
  refine ⟨e', ?_⟩
  cases q : H b with
  | none => rfl
  | some x =>
    have hm : b ∈ trk h H := List.mem_filter.mpr ⟨List.mem_range.mpr (Heap.lt_size e'), by simp [q]⟩
    have z : (hidT h H).get? b = none := PySem.W.hideAll_none (trk h H) hm
    rw [z] at e; cases e

noncomputable def allNews (g h : Heap) (L : Addr) : List (Addr × Obj) := (List.range h.objs.size).filterMap fun a => if a = L ∨ (g.get? a).isSome = true then none else (h.get? a).map fun o => (a, o)
noncomputable def rest (g h : Heap) (L d : Addr) : List (Addr × Obj) := (allNews g h L).filter fun p => decide (p.1 ≠ d)
end L2

namespace L2
open PySem PySem.Spec PyProof.Rows

structure Mod (K : PySem.W.Frag) (mg : Str → Option Value) (base : Heap) : Prop where
  kin : K.In base
  glob : base.Ns mainGlobals mg
  blt : ∃ mb, base.Ns builtinsNs mb ∧ ∀ x : Str, x ≠ "__name__" → mb x = bootBuiltins x
  nolimit : base.NoLimit

structure Cx where
  prog : Program
  w : World
  K : PySem.W.Frag
  mg : Str → Option Value
  base : Heap
  A : Around
  N : List Str
  s₀ : Shared
  H₀ : Hp
  env : Env
  outer : List Env
  stack : List Env
  ex : List Addr
  fn : Str → Bool
  calm : Bool
  pn : List (Addr × Obj)
  xe : Value → Shared → Prop
noncomputable def frs (l : List Env) : List Addr := l.filterMap (·.frame)
noncomputable abbrev Cx.fs (X : Cx) : List Addr := frs X.outer

noncomputable def Vis (sc : Scope) (x : Str) : Prop := sc.names.lookup x = some .local ∨ sc.names.lookup x = some .cell ∨ sc.names.lookup x = some .free
noncomputable def Loc (sc : Scope) (x : Str) : Prop := sc.names.lookup x = some .local ∨ sc.names.lookup x = some .cell
noncomputable def Look (env : Env) (h : Heap) (m : Str → Option Value) (x : Str) (u : Value) : Prop :=
  (env.kindOf x = some .local ∧ m x = some u) ∨ ((env.kindOf x = some .cell ∨ env.kindOf x = some .free) ∧ ∃ c, env.cells.lookup x = some c ∧ h.IsCell c (some u))

structure Cx.Ok (X : Cx) : Prop where
  mod : Mod X.K X.mg X.base
  kind : X.env.scope.kind = .function
  glob : X.env.globals = mainGlobals
  blt : X.env.builtins = builtinsNs
  above : X.s₀.heap.objs.size ≤ X.env.locals
  inj : ∀ x y c, X.env.cells.lookup x = some c → X.env.cells.lookup y = some c → x = y
  has : ∀ x, (X.env.kindOf x = some .cell ∨ X.env.kindOf x = some .free) → ∃ c, X.env.cells.lookup x = some c
  cab : ∀ x c, X.fn x = true → X.env.cells.lookup x = some c → X.s₀.heap.objs.size ≤ c
  hd : X.calm = true → X.A.handled = none
  frames : X.A.frames = some X.stack
  stk : X.stack = X.outer ∨ (X.stack = X.env :: X.outer ∧ X.env.frame = some X.env.locals)
  exf : ∀ b ∈ X.ex, b ≠ X.env.locals ∧ ∀ x c, X.env.cells.lookup x = some c → c ≠ b
  bs : ∀ b o, X.base.get? b = some o → X.s₀.heap.get? b = some o ∧ X.H₀ b = none
  bsz : X.base.objs.size ≤ X.s₀.heap.objs.size
  noex : ∀ b o, X.base.get? b = some o → b ∉ X.ex
  exfs : ∀ b ∈ X.ex, b ∉ X.fs
  funs : X.s₀.heap.FunFrames X.base X.outer
  frf : ∀ b ∈ X.fs, X.H₀ b = none

structure Inv (X : Cx) (pins : List (Addr × Obj)) (σ : List (Option V)) (H : Hp) (s : Shared) : Prop where
  ok : X.Ok
  os : s.os = X.s₀.os
  bare : AllBare s.gens
  base : Un X.fs X.ex X.H₀ H X.s₀.heap s.heap
  loc : ∃ m, s.heap.Ns X.env.locals m ∧ ∀ (i : Nat) (x : Str) (v : V), X.N[i]? = some x → σ[i]? = some (some v) → Vis X.env.scope x → ∃ u, RelV v u ∧ Look X.env s.heap m x u
  cell : ∀ x c, X.env.cells.lookup x = some c → ∃ v, s.heap.IsCell c v
  free : H X.env.locals = none
  freeC : ∀ x c, X.env.cells.lookup x = some c → H c = none
  pin : ∀ p ∈ X.pn ++ pins, s.heap.get? p.1 = some p.2 ∧ H p.1 = none ∧ p.1 ≠ X.env.locals ∧ p.1 ∉ X.fs ∧ ∀ v, p.2.data ≠ .cell v
  hok : HOk X.prog X.w H s.heap
  len : σ.length = X.N.length

section
variable {X : Cx} {pins : List (Addr × Obj)} {σ : List (Option V)} {H H' : Hp} {s : Shared} {h' : Heap}

theorem Cx.Ok.nofr (ok : X.Ok) {b : Addr} {o : Obj} (e : X.base.get? b = some o) : b ∉ X.fs := fun hb => by
  have := (ok.funs.mem hb).1
  rw [e] at this; cases this
theorem Inv.bs (I : Inv X pins σ H s) : ∀ b o, X.base.get? b = some o → s.heap.get? b = some o ∧ H b = none := fun b o e =>
  ⟨I.base.keep b o (I.ok.bs b o e).1 (I.ok.bs b o e).2 (I.ok.nofr e) (I.ok.noex b o e), I.base.free b o (I.ok.bs b o e).1 (I.ok.bs b o e).2 (I.ok.noex b o e)⟩
theorem Inv.bk (I : Inv X pins σ H s) : ∀ b o, X.base.get? b = some o → s.heap.get? b = some o := fun b o e => (I.bs b o e).1
theorem Inv.mod (I : Inv X pins σ H s) : Mod X.K X.mg X.base := I.ok.mod
theorem Inv.kIn (I : Inv X pins σ H s) : X.K.In s.heap := I.ok.mod.kin.keeps I.bk
theorem Inv.fr (I : Inv X pins σ H s) : ∃ m, Fr X.base X.env.locals s.heap m :=
  let ⟨m, hn, _⟩ := I.loc
  ⟨m, hn, I.bk, Nat.le_trans I.ok.bsz I.ok.above⟩
theorem Inv.lt (I : Inv X pins σ H s) : X.env.locals < s.heap.objs.size := let ⟨_, hn, _⟩ := I.loc; hn.lt
theorem Inv.sz (I : Inv X pins σ H s) : X.s₀.heap.objs.size ≤ s.heap.objs.size := Nat.le_trans I.ok.above (Nat.le_of_lt I.lt)
theorem Inv.nofs (I : Inv X pins σ H s) {a : Addr} (h : s.heap.objs.size ≤ a) : a ∉ X.fs := fun hb => by
  obtain ⟨_, o, ho, _⟩ := I.ok.funs.mem hb
  exact absurd (Nat.lt_of_lt_of_le (Heap.lt_size ho) (Nat.le_trans I.sz h)) (Nat.lt_irrefl _)
theorem Inv.cne (I : Inv X pins σ H s) : ∀ x c, X.env.cells.lookup x = some c → c ≠ X.env.locals := fun x c e z => by
  obtain ⟨v, o, ho, hd⟩ := I.cell x c e
  obtain ⟨m, ⟨o', es, ep, ho', hd', _⟩, _⟩ := I.loc
  rw [z, ho'] at ho; cases ho; rw [hd'] at hd; cases hd
theorem Inv.funs (I : Inv X pins σ H s) : s.heap.FunFrames X.base X.outer := by
  have all : ∀ (l : List Env), (∀ b ∈ frs l, b ∈ X.fs) → X.s₀.heap.FunFrames X.base l → s.heap.FunFrames X.base l := by
    intro l
    induction l with
    | nil => intro _ _; trivial
    | cons env r ih =>
      intro hs hl
      obtain ⟨hk, ⟨L, o, hf, hn, ho, hd⟩, hr⟩ := hl
      have hL : L ∈ X.fs := hs L (by unfold frs; rw [List.filterMap_cons, hf]; exact List.mem_cons_self)
      obtain ⟨sl, e⟩ := I.base.slot L o ho (I.ok.frf L hL) hL fun z => I.ok.exfs L z hL
      exact ⟨hk, ⟨L, _, hf, hn, e, hd⟩, ih (fun b hb => hs b (by unfold frs; rw [List.filterMap_cons, hf]; exact List.mem_cons_of_mem _ hb)) hr⟩
  exact all X.outer (fun _ hb => hb) I.ok.funs

theorem Inv.stack (I : Inv X pins σ H s) : s.heap.FunFrames X.base X.stack := by
  rcases I.ok.stk with e | ⟨e, hf⟩
  · rw [e]; exact I.funs
  · rw [e]
    obtain ⟨m, hn, _⟩ := I.loc
    refine .cons (by rw [I.ok.kind]; decide) hf hn ?_ I.funs
    exact Heap.get?_none_of_le (Nat.le_trans I.ok.bsz I.ok.above)
theorem Inv.stkSub (I : Inv X pins σ H s) : ∀ b ∈ frs X.stack, b ∈ X.env.locals :: X.fs := fun b hb => by
  rcases I.ok.stk with e | ⟨e, hf⟩
  · rw [e] at hb; exact List.mem_cons_of_mem _ hb
  · rw [e] at hb
    unfold frs at hb
    rw [List.filterMap_cons, hf] at hb
    exact hb
theorem Inv.stkFree (I : Inv X pins σ H s) : ∀ b ∈ frs X.stack, H b = none := fun b hb => by
  rcases List.mem_cons.mp (I.stkSub b hb) with e | hb
  · rw [e]; exact I.free
  · obtain ⟨_, o, ho, _⟩ := I.ok.funs.mem hb
    exact I.base.free b o ho (I.ok.frf b hb) fun z => I.ok.exfs b z hb

theorem Inv.step {g' : Array GenState} {t' : Nat} {d' : Drawn} {ch : List Addr} (I : Inv X pins σ H s)
    (hch : ∀ b ∈ ch, (b ∈ X.ex ∨ X.s₀.heap.objs.size ≤ b) ∧ b ≠ X.env.locals ∧ (∀ x c, X.env.cells.lookup x = some c → c ≠ b) ∧ ∀ p ∈ X.pn ++ pins, p.1 ≠ b)
    (keep : ∀ b o, b ≠ X.env.locals → b ∉ X.fs → b ∉ ch → s.heap.get? b = some o → H b = none → h'.get? b = some o)
    (slot : ∀ b o, b ≠ X.env.locals → b ∈ X.fs → b ∉ ch → s.heap.get? b = some o → H b = none → ∃ sl, h'.get? b = some { o with slots := sl }) (free : ∀ b o, b ∉ ch → s.heap.get? b = some o → H b = none → H' b = none)
    (there : ∀ b o, b ∉ ch → s.heap.get? b = some o → ∃ o', h'.get? b = some o')
    (tups : ∀ b xs, H b = some (.tup xs) → H' b = some (.tup xs)) (frzs : ∀ b o u, H b = some (.frz o u) → H' b = some (.frz o u)) (tbls : ∀ b ps, H b = some (.tbl ps) → ∃ more, H' b = some (.tbl (ps ++ more)))
    (ns : ∀ m, s.heap.Ns X.env.locals m → h'.Ns X.env.locals m) (hok : HOk X.prog X.w H' h') (hg : AllBare g') :
    Inv X pins σ H' { s with heap := h', gens := g', drawn := d', toks := t' } := by
  have neL : ∀ b o, X.s₀.heap.get? b = some o → b ≠ X.env.locals := fun b o e => Nat.ne_of_lt (Nat.lt_of_lt_of_le (Heap.lt_size e) I.ok.above)
  have neC : ∀ b o, X.s₀.heap.get? b = some o → b ∉ X.ex → b ∉ ch := fun b o e hx hb => by
    rcases (hch b hb).1 with z | z
    · exact hx z
    · exact absurd (Nat.lt_of_lt_of_le (Heap.lt_size e) z) (Nat.lt_irrefl _)
  have cellK : ∀ x c, X.env.cells.lookup x = some c → ∀ v, s.heap.IsCell c v → h'.IsCell c v := fun x c e v ⟨o, ho, hd⟩ => by
    have nch : c ∉ ch := fun z => (hch c z).2.2.1 x c e rfl
    by_cases hc : c ∈ X.fs
    · obtain ⟨sl, q⟩ := slot c o (I.cne x c e) hc nch ho (I.freeC x c e)
      exact ⟨_, q, hd⟩
    · exact ⟨o, keep c o (I.cne x c e) hc nch ho (I.freeC x c e), hd⟩
  refine ⟨I.ok, I.os, hg, ⟨fun b o e n hb hx => ?_, fun b o e n hb hx => ?_, fun b o e n hx => ?_, fun b o e hx => ?_, fun b xs e => tups b xs (I.base.tups b xs e), fun b o xs e => frzs b o xs (I.base.frzs b o xs e), fun b ps e => ?_⟩, ?_, fun x c e => ?_, ?_, fun x c e => ?_, fun p hp => ?_, hok, I.len⟩
  · exact keep b o (neL b o e) hb (neC b o e hx) (I.base.keep b o e n hb hx) (I.base.free b o e n hx)
  · obtain ⟨sl, e1⟩ := I.base.slot b o e n hb hx
    obtain ⟨sl', e2⟩ := slot b _ (neL b o e) hb (neC b o e hx) e1 (I.base.free b o e n hx)
    exact ⟨sl', e2⟩
  · obtain ⟨o', e1⟩ := I.base.there b o e hx
    exact free b o' (neC b o e hx) e1 (I.base.free b o e n hx)
  · obtain ⟨o', e1⟩ := I.base.there b o e hx
    exact there b o' (neC b o e hx) e1
  · obtain ⟨m1, e1⟩ := I.base.tbls b ps e
    obtain ⟨m2, e2⟩ := tbls b _ e1
    exact ⟨m1 ++ m2, by rw [e2, Array.append_assoc]⟩
  · obtain ⟨m, hn, hl⟩ := I.loc
    refine ⟨m, ns m hn, fun i x v e1 e2 e3 => ?_⟩
    obtain ⟨u, r, l⟩ := hl i x v e1 e2 e3
    refine ⟨u, r, ?_⟩
    rcases l with l | ⟨k, c, e, z⟩
    · exact .inl l
    · exact .inr ⟨k, c, e, cellK x c e _ z⟩
  · obtain ⟨v, z⟩ := I.cell x c e
    exact ⟨v, cellK x c e v z⟩
  · obtain ⟨m, ⟨o, _, _, ho, _⟩, _⟩ := I.loc
    exact free _ o (fun z => (hch _ z).2.1 rfl) ho I.free
  · obtain ⟨v, o, ho, hd⟩ := I.cell x c e
    exact free c o (fun z => (hch c z).2.2.1 x c e rfl) ho (I.freeC x c e)
  · obtain ⟨e, n, ne, nf, d⟩ := I.pin p hp
    have nch : p.1 ∉ ch := fun z => (hch p.1 z).2.2.2 p hp rfl
    exact ⟨keep p.1 p.2 ne nf nch e n, free p.1 p.2 nch e n, ne, nf, d⟩
theorem Inv.un {t' : Nat} (I : Inv X pins σ H s) (u : Un X.fs [] H H' s.heap h') (hok : HOk X.prog X.w H' h') : Inv X pins σ H' { s with heap := h', toks := t' } := by
  obtain ⟨m, ⟨o, es, ep, ho, r⟩, _⟩ := id I.loc
  obtain ⟨sl, hL⟩ := u.any ho I.free (by simp)
  exact I.step (g' := s.gens) (d' := s.drawn) (ch := []) (fun _ z => nomatch z) (fun b o _ hb _ e n => u.keep b o e n hb (by simp)) (fun b o _ hb _ e n => u.slot b o e n hb (by simp)) (fun b o _ e n => u.free b o e n (by simp)) (fun b o _ e => u.there b o e (by simp)) u.tups u.frzs u.tbls (fun m' hm => by
    obtain ⟨o', es', ep', ho', r'⟩ := hm
    rw [ho] at ho'; cases ho'
    exact ⟨_, es', ep', hL, r'⟩) hok I.bare
theorem Inv.call {g' : Array GenState} {t' : Nat} {d' : Drawn} {ch : List Addr} (I : Inv X pins σ H s) (u : Un (frs X.stack) ch H H' s.heap h') (hok : HOk X.prog X.w H' h') (hg : AllBare g')
    (hch : ∀ b ∈ ch, (b ∈ X.ex ∨ X.s₀.heap.objs.size ≤ b) ∧ b ≠ X.env.locals ∧ (∀ x c, X.env.cells.lookup x = some c → c ≠ b) ∧ ∀ p ∈ X.pn ++ pins, p.1 ≠ b) :
    Inv X pins σ H' { s with heap := h', gens := g', drawn := d', toks := t' } := by
  obtain ⟨m, ⟨o, es, ep, ho, r⟩, _⟩ := id I.loc
  obtain ⟨sl, hL⟩ := u.any ho I.free fun z => (hch _ z).2.1 rfl
  exact I.step (ch := ch) hch (fun b o hL hb hc e n => u.keep b o e n (fun z => (List.mem_cons.mp (I.stkSub b z)).elim hL hb) hc) (fun b o _ _ hc e n => u.any e n hc) (fun b o hc e n => u.free b o e n hc) (fun b o hc e => u.there b o e hc) u.tups u.frzs u.tbls (fun m' hm => by
    obtain ⟨o', es', ep', ho', r'⟩ := hm
    rw [ho] at ho'; cases ho'
    exact ⟨_, es', ep', hL, r'⟩) hok hg
theorem Inv.turned {t' : Nat} {it : Addr} (I : Inv X pins σ H s) (k : ∀ b o, b ≠ it → s.heap.get? b = some o → h'.get? b = some o) (hn : H it = none) (hL : it ≠ X.env.locals)
    (h1 : it ∈ X.ex ∨ X.s₀.heap.objs.size ≤ it) (h2 : ∀ x c, X.env.cells.lookup x = some c → c ≠ it) (h3 : ∀ p ∈ X.pn ++ pins, p.1 ≠ it) : Inv X pins σ H { s with heap := h', toks := t' } := by
  have nit : ∀ b u, H b = some u → b ≠ it := fun b u e z => by rw [z, hn] at e; cases e
  refine I.step (g' := s.gens) (d' := s.drawn) (ch := [it]) (fun b hb => ?_) (fun b o _ _ hc e _ => k b o (fun z => hc (by simp [z])) e) (fun b o _ _ hc e _ => ⟨o.slots, k b o (fun z => hc (by simp [z])) e⟩) (fun _ _ _ _ n => n)
    (fun b o hc e => ⟨o, k b o (fun z => hc (by simp [z])) e⟩) (fun _ _ e => e) (fun _ _ _ e => e) (fun b ps e => ⟨#[], by rw [e]; simp⟩) (fun m hm => ?_) (fun b u e => ?_) I.bare
  · have e : b = it := by simpa using hb
    subst e
    exact ⟨h1, hL, h2, h3⟩
  · obtain ⟨o, es, ep, ho, r⟩ := hm
    exact ⟨o, es, ep, k _ o (Ne.symm hL) ho, r⟩
  · refine (I.hok b u e).stay (fun c v hc q => k c v ?_ q) (fun _ q => q) fun _ _ q => q
    rcases hc with z | z
    · rw [z]; exact nit b u e
    · exact nit c _ z
theorem Inv.tok (I : Inv X pins σ H s) (t : Nat) : Inv X pins σ H { s with toks := t } := I.un (h' := s.heap) (t' := t) Un.refl I.hok
theorem Inv.kept {t' : Nat} (I : Inv X pins σ H s) (k : ∀ b u, s.heap.get? b = some u → h'.get? b = some u) : Inv X pins σ H { s with heap := h', toks := t' } := I.un (Un.kept k) (I.hok.kept k)
theorem Inv.laid {a : Addr} {o : HO} {t' : Nat} (I : Inv X pins σ H s) (k : ∀ b u, s.heap.get? b = some u → h'.get? b = some u) (hp : s.heap.objs.size ≤ a) (new : ObjOk X.prog X.w (upd H a o) h' a o) :
    Inv X pins σ (upd H a o) { s with heap := h', toks := t' } := I.un (Un.laid k hp (I.hok.fresh hp)) (I.hok.laid k hp new)
theorem Inv.write {x e : Addr} {o : HO} {t' : Nat} (I : Inv X pins σ H s) (mu : Mut (H x)) (he : e = x ∨ H e = some (.own x)) (k : ∀ b u, b ≠ e → s.heap.get? b = some u → h'.get? b = some u) (heo : ∃ u, h'.get? e = some u)
    (new : ObjOk X.prog X.w (upd H x o) h' x o) : Inv X pins σ (upd H x o) { s with heap := h', toks := t' } := I.un (Un.write mu he k heo) (I.hok.write mu he k heo new)
theorem Inv.weak {σ' : List (Option V)} (I : Inv X pins σ H s) (hl : σ'.length = σ.length) (w : ∀ (i : Nat) v, σ'[i]? = some (some v) → σ[i]? = some (some v)) : Inv X pins σ' H s :=
  ⟨I.ok, I.os, I.bare, I.base, let ⟨m, hn, hl'⟩ := I.loc; ⟨m, hn, fun i x v e1 e2 e3 => hl' i x v e1 (w i v e2) e3⟩, I.cell, I.free, I.freeC, I.pin, I.hok, hl.trans I.len⟩
theorem Inv.pins_of {pins' : List (Addr × Obj)} (I : Inv X pins σ H s) (h : ∀ p ∈ pins', s.heap.get? p.1 = some p.2 ∧ H p.1 = none ∧ p.1 ≠ X.env.locals ∧ p.1 ∉ X.fs ∧ ∀ v, p.2.data ≠ .cell v) : Inv X pins' σ H s :=
  ⟨I.ok, I.os, I.bare, I.base, I.loc, I.cell, I.free, I.freeC, fun p hp => (List.mem_append.mp hp).elim (fun z => I.pin p (List.mem_append_left _ z)) (h p), I.hok, I.len⟩

theorem nodup_ix {N : List Str} (hN : N.Nodup) {i j : Nat} {x : Str} (a : N[i]? = some x) (b : N[j]? = some x) : i = j := by
  obtain ⟨h1, e1⟩ := List.getElem?_eq_some_iff.mp a
  obtain ⟨h2, e2⟩ := List.getElem?_eq_some_iff.mp b
  exact (List.getElem_inj hN).mp (e1.trans e2.symm)

theorem store_ok2 {M : Model} {A : Around} {E : Value → Shared → Prop} {i : Nat} {x : Str} {v : V} {u : Value} {Q : Unit → Shared → Prop} (I : Inv X pins σ H s) (hN : X.N.Nodup) (hi : X.N[i]? = some x) (hx : Loc X.env.scope x) (r : RelV v u)
    (h : ∀ s', Inv X pins (σ.set i (some v)) H s' → (∃ a, Heap.SameBut a s.heap s'.heap ∧ (a = X.env.locals ∨ X.env.cells.lookup x = some a)) → Q () s') (hf : X.fn x = true ∨ X.env.scope.names.lookup x = some .local := by first | exact .inl rfl | exact .inr rfl | assumption) : wpAny M A (storeName X.env x u) Q E s := by
  obtain ⟨m, hn, hl⟩ := id I.loc
  have hcls : (X.env.scope.kind == .class || (X.env.scope.kind == .module && X.env.locals != X.env.globals)) = false := by rw [I.ok.kind]; rfl
  have hiσ : i < σ.length := by rw [I.len]; exact (List.getElem?_eq_some_iff.mp hi).1
  have cne := I.cne
  have tracked : ∀ {a : Addr} {h' : Heap}, (∃ o, s.heap.get? a = some o ∧ H a = none) → Heap.SameBut a s.heap h' → HOk X.prog X.w H h' := fun {a h'} ha hs b ob e => by
    obtain ⟨_, _, hfree⟩ := ha
    refine (I.hok b ob e).stay (fun c w' hc q => (hs.2 c ?_).trans q) (fun _ q => q) fun _ _ q => q
    rintro rfl
    rcases hc with rfl | hc
    · rw [hfree] at e; cases e
    · rw [hfree] at hc; cases hc
  rcases hx with hk | hk
  · refine wpAny_storeName_local hk hn (fun h' hn' hs => ?_) hcls
    obtain ⟨oL, _, _, hoL, _⟩ := id hn
    refine h _ ⟨I.ok, I.os, I.bare, ⟨fun b o e n hb hx => ?_, fun b o e n hb hx => ?_, I.base.free, fun b o e hx => ?_, I.base.tups, I.base.frzs, I.base.tbls⟩, ⟨_, hn', fun j y v' e1 e2 e3 => ?_⟩, fun y c e => ?_, I.free, I.freeC, fun p hp => ?_, tracked ⟨oL, hoL, I.free⟩ hs, by simpa using I.len⟩ ⟨_, hs, .inl rfl⟩
    · exact (hs.2 b (Nat.ne_of_lt (Nat.lt_of_lt_of_le (Heap.lt_size e) I.ok.above))).trans (I.base.keep b o e n hb hx)
    · obtain ⟨sl, e1⟩ := I.base.slot b o e n hb hx
      exact ⟨sl, (hs.2 b (Nat.ne_of_lt (Nat.lt_of_lt_of_le (Heap.lt_size e) I.ok.above))).trans e1⟩
    · obtain ⟨o', e1⟩ := I.base.there b o e hx
      exact ⟨o', (hs.2 b (Nat.ne_of_lt (Nat.lt_of_lt_of_le (Heap.lt_size e) I.ok.above))).trans e1⟩
    · by_cases hj : j = i
      · subst hj
        rw [hi] at e1; cases e1
        rw [List.getElem?_set_self hiσ] at e2
        cases e2
        exact ⟨u, r, .inl ⟨hk, by simp⟩⟩
      · rw [List.getElem?_set_ne (Ne.symm hj)] at e2
        obtain ⟨u', r', q⟩ := hl j y v' e1 e2 e3
        refine ⟨u', r', ?_⟩
        rcases q with ⟨k, e⟩ | ⟨k, c, e, z⟩
        · refine .inl ⟨k, ?_⟩
          have : y ≠ x := fun e => hj (nodup_ix hN e1 (e ▸ hi))
          simp [this, e]
        · exact .inr ⟨k, c, e, z.sameBut hs (cne y c e)⟩
    · obtain ⟨w', z⟩ := I.cell y c e
      exact ⟨w', z.sameBut hs (cne y c e)⟩
    · obtain ⟨e, n, ne, nf, d⟩ := I.pin p hp
      exact ⟨(hs.2 p.1 ne).trans e, n, ne, nf, d⟩
  · have hfn : X.fn x = true := by
      rcases hf with z | z
      · exact z
      · rw [z] at hk; cases hk
    obtain ⟨c, hc⟩ := I.ok.has x (.inl hk)
    obtain ⟨w', z⟩ := I.cell x c hc
    refine wpAny_storeName_cell I.ok.kind hk hc z (fun h' hc' hs => ?_)
    obtain ⟨oc, hoc, hocd⟩ := id z
    refine h { s with heap := h' } ⟨I.ok, I.os, I.bare, ⟨fun b o e n hb hx => ?_, fun b o e n hb hx => ?_, I.base.free, fun b o e hx => ?_, I.base.tups, I.base.frzs, I.base.tbls⟩, ⟨m, hn.sameBut hs (Ne.symm (cne x c hc)), fun j y v' e1 e2 e3 => ?_⟩, fun y c' e => ?_, I.free, I.freeC, fun p hp => ?_, tracked ⟨oc, hoc, I.freeC x c hc⟩ hs, by simpa using I.len⟩ ⟨c, hs, .inr hc⟩
    · exact (hs.2 b (Nat.ne_of_lt (Nat.lt_of_lt_of_le (Heap.lt_size e) (I.ok.cab x c hfn hc)))).trans (I.base.keep b o e n hb hx)
    · obtain ⟨sl, e1⟩ := I.base.slot b o e n hb hx
      exact ⟨sl, (hs.2 b (Nat.ne_of_lt (Nat.lt_of_lt_of_le (Heap.lt_size e) (I.ok.cab x c hfn hc)))).trans e1⟩
    · obtain ⟨o', e1⟩ := I.base.there b o e hx
      exact ⟨o', (hs.2 b (Nat.ne_of_lt (Nat.lt_of_lt_of_le (Heap.lt_size e) (I.ok.cab x c hfn hc)))).trans e1⟩
    · by_cases hj : j = i
      · subst hj
        rw [hi] at e1; cases e1
        rw [List.getElem?_set_self hiσ] at e2
        cases e2
        exact ⟨u, r, .inr ⟨.inl hk, c, hc, hc'⟩⟩
      · rw [List.getElem?_set_ne (Ne.symm hj)] at e2
        obtain ⟨u', r', q⟩ := hl j y v' e1 e2 e3
        refine ⟨u', r', ?_⟩
        rcases q with q | ⟨k, c', e, z'⟩
        · exact .inl q
        · refine .inr ⟨k, c', e, z'.sameBut hs ?_⟩
          rintro rfl
          exact hj (nodup_ix hN e1 (I.ok.inj _ _ _ e hc ▸ hi))
    · by_cases hcc : c' = c
      · subst hcc; exact ⟨_, hc'⟩
      · obtain ⟨w2, z2⟩ := I.cell y c' e
        exact ⟨w2, z2.sameBut hs hcc⟩
    · obtain ⟨e, n, ne, nf, d⟩ := I.pin p hp
      refine ⟨(hs.2 p.1 ?_).trans e, n, ne, nf, d⟩
      intro q
      rw [q, hoc] at e
      have q' : oc = p.2 := Option.some.inj e
      exact d w' (by rw [← q']; exact hocd)
theorem store_ok {M : Model} {A : Around} {E : Value → Shared → Prop} {i : Nat} {x : Str} {v : V} {u : Value} {Q : Unit → Shared → Prop} (I : Inv X pins σ H s) (hN : X.N.Nodup) (hi : X.N[i]? = some x) (hx : Loc X.env.scope x) (r : RelV v u)
    (h : ∀ s', Inv X pins (σ.set i (some v)) H s' → Q () s') (hf : X.fn x = true ∨ X.env.scope.names.lookup x = some .local := by first | exact .inl rfl | exact .inr rfl | assumption) : wpAny M A (storeName X.env x u) Q E s :=
  store_ok2 I hN hi hx r (fun s' I' _ => h s' I') hf
end

noncomputable abbrev XK := Value → Option Addr → Hp → Prop
noncomputable abbrev St := List (Option V)
noncomputable abbrev VK := V → Hp → Prop
noncomputable abbrev TE := St → Hp → VK → Prop
noncomputable abbrev TT := St → Hp → (Bool → Hp → Prop) → Prop
noncomputable abbrev TA := St → Hp → (List V → Hp → Prop) → Prop
structure Ends where
  nx : St → Hp → Prop
  rt : VK
  bk : St → Hp → Prop := fun _ _ => False
  ct : St → Hp → Prop := fun _ _ => False
noncomputable abbrev TS := Ends → St → Hp → Prop

noncomputable def EP (X : Cx) (pins : List (Addr × Obj)) (σ : St) (Q : VK) (u : Value) (s' : Shared) : Prop := ∃ v H', Inv X pins σ H' s' ∧ RelV v u ∧ Q v H'
noncomputable def TP (X : Cx) (pins : List (Addr × Obj)) (σ : St) (Q : Bool → Hp → Prop) (b : Bool) (s' : Shared) : Prop := ∃ H', Inv X pins σ H' s' ∧ Q b H'
noncomputable def AP (X : Cx) (pins : List (Addr × Obj)) (σ : St) (Q : List V → Hp → Prop) (us : List Value) (s' : Shared) : Prop := ∃ vs H', Inv X pins σ H' s' ∧ Vals vs us ∧ Q vs H'
noncomputable def SP (X : Cx) (pins : List (Addr × Obj)) (D : Ends) (f : Flow) (s' : Shared) : Prop :=
  match f with
  | .next => ∃ σ' H', Inv X pins σ' H' s' ∧ D.nx σ' H'
  | .brk => ∃ σ' H', Inv X pins σ' H' s' ∧ D.bk σ' H'
  | .cont => ∃ σ' H', Inv X pins σ' H' s' ∧ D.ct σ' H'
  | .ret u => ∃ v σ' H', Inv X pins σ' H' s' ∧ RelV v u ∧ D.rt v H'

noncomputable def PE (X : Cx) (e : Expr) (t : TE) : Prop :=
  ∀ (pins : List (Addr × Obj)) (s : Shared) (σ : St) (H : Hp) (Q : VK), Inv X pins σ H s → t σ H Q → wpAny (model X.prog X.w) X.A (eval e X.env) (EP X pins σ Q) X.xe s
noncomputable def PT (X : Cx) (e : Expr) (t : TT) : Prop :=
  ∀ (pins : List (Addr × Obj)) (s : Shared) (σ : St) (H : Hp) (Q : Bool → Hp → Prop), Inv X pins σ H s → t σ H Q → wpAny (model X.prog X.w) X.A (isTrue e X.env (eval e X.env)) (TP X pins σ Q) X.xe s
noncomputable def PW (X : Cx) (e : Expr) (t : TT) : Prop :=
  ∀ (whole : Sem Value) (pins : List (Addr × Obj)) (s : Shared) (σ : St) (H : Hp) (Q : Bool → Hp → Prop), Inv X pins σ H s → t σ H Q → wpAny (model X.prog X.w) X.A (isTrue e X.env whole) (TP X pins σ Q) X.xe s
theorem PW.pt {X : Cx} {e : Expr} {t : TT} (h : PW X e t) : PT X e t := h _
noncomputable def PA (X : Cx) (es : List Expr) (t : TA) : Prop :=
  ∀ (pos : Pos) (pins : List (Addr × Obj)) (s : Shared) (σ : St) (H : Hp) (Q : List V → Hp → Prop), Inv X pins σ H s → t σ H Q → wpAny (model X.prog X.w) X.A (spliced (backTo pos (starEach es X.env))) (AP X pins σ Q) X.xe s
noncomputable def PS (X : Cx) (st : Stmt) (t : TS) : Prop :=
  ∀ (pins : List (Addr × Obj)) (s : Shared) (σ : St) (H : Hp) (D : Ends), Inv X pins σ H s → t D σ H → wpAny (model X.prog X.w) X.A (exec st X.env) (SP X pins D) X.xe s
noncomputable def PSs (X : Cx) (st : List Stmt) (t : TS) : Prop :=
  ∀ (pins : List (Addr × Obj)) (s : Shared) (σ : St) (H : Hp) (D : Ends), Inv X pins σ H s → t D σ H → wpAny (model X.prog X.w) X.A (execs st X.env) (SP X pins D) X.xe s
theorem thn {α : Type} {t : Sem α} {Q Q' : α → Shared → Prop} {M : Model} {A : Around} {E : Value → Shared → Prop} {s : Shared} (h : wpAny M A t Q E s) (hQ : ∀ a s, Q a s → Q' a s) : wpAny M A t Q' E s := wpAny_mono h hQ fun _ _ x => x
theorem thnE {α β : Type} {t : Sem α} {X : Cx} {pins : List (Addr × Obj)} {σ : St} {R : β → α → Prop} {Q : β → Hp → Prop} {Q' : α → Shared → Prop} {M : Model} {A : Around} {E : Value → Shared → Prop} {s : Shared} (h : wpAny M A t (fun a s => ∃ x H, Inv X pins σ H s ∧ R x a ∧ Q x H) E s) (hQ : ∀ a s x H, Inv X pins σ H s → R x a → Q x H → Q' a s) : wpAny M A t Q' E s := thn h fun a s z => z.elim fun x z => z.elim fun H z => hQ a s x H z.1 z.2.1 z.2.2
end L2

namespace L2
open PySem PySem.Spec PyProof.Rows
section
variable {X : Cx}

theorem bin {a b : Expr} {ta tb : TE} (ha : PE X a ta) (hb : PE X b tb) {pins : List (Addr × Obj)} {s : Shared} {σ : St} {H : Hp} {R : V → V → Hp → Prop} (I : Inv X pins σ H s) (h : ta σ H fun x H1 => tb σ H1 fun y H2 => R x y H2)
    {α : Type} {Q : α → Shared → Prop} {f : Value → Value → Sem α}
    (hf : ∀ v u s2 x y H2, Inv X pins σ H2 s2 → RelV x v → RelV y u → R x y H2 → wpAny (model X.prog X.w) X.A (f v u) Q X.xe s2) :
    wpAny (model X.prog X.w) X.A (eval a X.env) (fun v s₁ => wpAny (model X.prog X.w) X.A (eval b X.env) (fun u s₂ => wpAny (model X.prog X.w) X.A (f v u) Q X.xe s₂) X.xe s₁) X.xe s := by
  refine thnE (ha pins s σ H _ I h) fun v s1 x H1 I1 r1 q1 => ?_
  refine thnE (hb pins s1 σ H1 _ I1 q1) fun u s2 y H2 I2 r2 q2 => ?_
  exact hf v u s2 x y H2 I2 r1 r2 q2

inductive tVar (i : Nat) (σ : St) (H : Hp) (Q : VK) : Prop
  | mk (v : V) : σ[i]? = some (some v) → Q v H → tVar i σ H Q
noncomputable def tC (v : V) : TE := fun _ H Q => Q v H
theorem pe_var {i : Nat} {x : Str} {pos : Pos} (hN : X.N[i]? = some x) (hv : Vis X.env.scope x) (hd : (x == ("__debug__" : Str)) = false := by decide) (hcd : (x == ("__classdict__" : Str)) = false := by decide) : PE X (.Name x pos) (tVar i) := by
  intro pins s σ H Q I h
  obtain ⟨v, e, h⟩ := h
  obtain ⟨m, hn, hl⟩ := I.loc
  obtain ⟨u, r, l⟩ := hl i x v hN e hv
  have fin : EP X pins σ Q u s := ⟨v, H, I, r, h⟩
  rcases l with ⟨hk, hm⟩ | ⟨hk, c, hc, hcell⟩
  · exact wpAny_Name (wpAny_loadName_local I.ok.kind hk hn hm fin) hd
  · rcases hk with hk | hk
    · exact wpAny_Name (wpAny_loadName_cell I.ok.kind hk hc hcell fin) hd
    · exact wpAny_Name (wpAny_loadName_free I.ok.kind hk hc hcell fin hcd) hd
theorem pe_int {i j pos} : PE X (.Constant (.int i) j pos) (tC (.int i)) := fun _ _ _ H _ I h => wpAny_Constant_int ⟨.int i, H, I.tok _, ⟨_, rfl⟩, h⟩
theorem pe_bl {b j pos} : PE X (.Constant (.bool b) j pos) (tC (.bl b)) := fun _ _ _ H _ I h => Constant_bool ⟨.bl b, H, I, rfl, h⟩
noncomputable def Gl (X : Cx) (x : Str) : Prop := X.env.kindOf x = some .globalImplicit
theorem ld_glob {E : Value → Shared → Prop} {pins : List (Addr × Obj)} {s : Shared} {σ : St} {H : Hp} {x : Str} {u : Value} {pos : Pos} {Q : Value → Shared → Prop} (I : Inv X pins σ H s) (hg : Gl X x) (hm : X.mg x = some u) (h : Q u s)
    (hd : (x == ("__debug__" : Str)) = false := by decide) : wpAny (model X.prog X.w) X.A (eval (.Name x pos) X.env) Q E s :=
  Calls.Name_function_global I.ok.kind hg (Calls.loadGlobal_global (by rw [I.ok.glob]; exact I.mod.glob.keeps I.bk) hm h) hd
theorem ld_blt {E : Value → Shared → Prop} {pins : List (Addr × Obj)} {s : Shared} {σ : St} {H : Hp} {x : Str} {u : Value} {pos : Pos} {Q : Value → Shared → Prop} (I : Inv X pins σ H s) (hg : Gl X x) (hm : X.mg x = none) (hv : bootBuiltins x = some u) (h : Q u s)
    (hn : x ≠ "__name__" := by decide) (hd : (x == ("__debug__" : Str)) = false := by decide) : wpAny (model X.prog X.w) X.A (eval (.Name x pos) X.env) Q E s := by
  obtain ⟨mb, h1, h2⟩ := I.mod.blt
  exact Calls.Name_function_global I.ok.kind hg (Calls.loadGlobal_builtin (by rw [I.ok.glob]; exact I.mod.glob.keeps I.bk) hm (by rw [I.ok.blt]; exact h1.keeps I.bk) ((h2 x hn).trans hv) h) hd
theorem pe_bltn {x : Str} {v : V} {u : Value} {pos : Pos} (hg : Gl X x) (hm : X.mg x = none) (hv : bootBuiltins x = some u) (r : RelV v u) (hn : x ≠ "__name__" := by decide) (hd : (x == ("__debug__" : Str)) = false := by decide) : PE X (.Name x pos) (tC v) :=
  fun _ _ _ H _ I h => ld_blt I hg hm hv ⟨v, H, I, r, h⟩ hn hd

noncomputable def t2I (ta tb : TE) (k : Int → Int → Hp → Prop) : St → Hp → Prop := fun σ H => ta σ H fun x H1 => tb σ H1 fun y H2 => ∃ i j, x = .int i ∧ y = .int j ∧ k i j H2
variable {a b : Expr} {ta tb : TE} {pos : Pos}
noncomputable def PC (X : Cx) (op : CmpOp) (a b : Expr) (t : TE) : Prop :=
  ∀ (pins : List (Addr × Obj)) (s : Shared) (σ : St) (H : Hp) (Q : VK), Inv X pins σ H s → t σ H Q →
    wpAny (model X.prog X.w) X.A (eval a X.env) (fun v s₁ => wpAny (model X.prog X.w) X.A (eval b X.env) (fun u s₂ => wpAny (model X.prog X.w) X.A (compareOp op v u) (EP X pins σ Q) X.xe s₂) X.xe s₁) X.xe s
noncomputable def tCmp (p : Int → Int → Bool) (ta tb : TE) : TE := fun σ H Q => t2I ta tb (fun i j H2 => Q (.bl (p i j)) H2) σ H
noncomputable abbrev tLt : TE → TE → TE := tCmp fun i j => decide (i < j)
noncomputable abbrev tLe : TE → TE → TE := tCmp fun i j => decide (i ≤ j)
noncomputable abbrev tGt : TE → TE → TE := tCmp fun i j => decide (j < i)
noncomputable abbrev tGe : TE → TE → TE := tCmp fun i j => decide (j ≤ i)
noncomputable abbrev tEqI : TE → TE → TE := tCmp fun i j => decide (i = j)
noncomputable abbrev tNeI : TE → TE → TE := tCmp fun i j => !decide (i = j)
noncomputable def tB (t : TE) : TT := fun σ H Q => t σ H fun x H1 => ∃ c, x = .bl c ∧ Q c H1
theorem pt_cmp {op : CmpOp} {t : TE} (h : PC X op a b t) (h1 : behindInMarks op b = false := by first | exact nobehind _ (by decide) (by decide) | rfl) : PT X (.Compare a [op] [b] pos) (tB t) := by
  intro pins s σ H Q I hw
  refine wpAny_isTrue_Compare1 (thn (h pins s σ H _ I hw) fun v s1 h1 => thn h1 fun u s2 h2 => thn h2 fun c s3 ⟨x, H1, I1, r1, q1⟩ => ?_) h1
  obtain ⟨d, rfl, q⟩ := q1
  cases r1
  exact wpAny_truthy_bool ⟨H1, I1, q⟩
theorem pt_val {e : Expr} {t : TE} (h : PE X e t) (he : ∀ whole, isTrue e X.env whole = (do let v ← whole; standAt e.pos; holding [v] (truthy v)) := by intro _; rfl) : PT X e (tB t) := by
  intro pins s σ H Q I hw
  refine isTrue_plain (thnE (h pins s σ H _ I hw) fun v s1 x H1 I1 r1 q1 => ?_) (he _)
  obtain ⟨d, rfl, q⟩ := q1
  cases r1
  exact wpAny_truthy_bool ⟨H1, I1, q⟩

variable {tA tB' : TT} {rest : List Expr}
noncomputable def tAnd (t u : TT) : TT := fun σ H Q => t σ H fun c H1 => if c = true then u σ H1 Q else Q false H1
noncomputable def tOr (t u : TT) : TT := fun σ H Q => t σ H fun c H1 => if c = true then Q true H1 else u σ H1 Q
noncomputable def tNot (t : TT) : TT := fun σ H Q => t σ H fun c H1 => Q (!c) H1
theorem pw_and1 (ha : PT X a tA) : PW X (.BoolOp .And [a] pos) tA := by
  intro wh pins s σ H Q I h
  refine isTrue_and (thn (ha pins s σ H Q I h) fun c s1 e => ?_)
  cases c with
  | true => exact isTrue_and_nil e
  | false => exact e
theorem pw_or1 (ha : PT X a tA) : PW X (.BoolOp .Or [a] pos) tA := by
  intro wh pins s σ H Q I h
  refine isTrue_or (thn (ha pins s σ H Q I h) fun c s1 e => ?_)
  cases c with
  | false => exact isTrue_or_nil e
  | true => exact e
theorem pw_and (ha : PT X a tA) (hb : PW X (.BoolOp .And (b :: rest) pos) tB') : PW X (.BoolOp .And (a :: b :: rest) pos) (tAnd tA tB') := by
  intro wh pins s σ H Q I h
  refine isTrue_and (thn (ha pins s σ H _ I h) fun c s1 ⟨H1, I1, q1⟩ => ?_)
  cases c with
  | true => exact hb wh pins s1 σ H1 Q I1 q1
  | false => exact ⟨H1, I1, q1⟩
theorem pw_or (ha : PT X a tA) (hb : PW X (.BoolOp .Or (b :: rest) pos) tB') : PW X (.BoolOp .Or (a :: b :: rest) pos) (tOr tA tB') := by
  intro wh pins s σ H Q I h
  refine isTrue_or (thn (ha pins s σ H _ I h) fun c s1 ⟨H1, I1, q1⟩ => ?_)
  cases c with
  | true => exact ⟨H1, I1, q1⟩
  | false => exact hb wh pins s1 σ H1 Q I1 q1
theorem pt_not (ha : PT X a tA) : PT X (.UnaryOp .Not a pos) (tNot tA) := by
  intro pins s σ H Q I h
  exact isTrue_not (ha pins s σ H (fun c H1 => Q (!c) H1) I h)
noncomputable def tAndV (ta tb : TE) : TE := fun σ H Q => ta σ H fun x H1 => ∃ c, x = .bl c ∧ if c = true then tb σ H1 Q else Q (.bl false) H1
noncomputable def tNotV (ta : TE) : TE := fun σ H Q => ta σ H fun x H1 => ∃ c, x = .bl c ∧ Q (.bl (!c)) H1
theorem pe_one {op} {t : TE} (h : PE X a t) : PE X (.BoolOp op [a] pos) t := fun pins s σ H Q I hw => BoolOp_one (h pins s σ H Q I hw)
theorem pe_and (ha : PE X a ta) (hb : PE X (.BoolOp .And (b :: rest) pos) tb) : PE X (.BoolOp .And (a :: b :: rest) pos) (tAndV ta tb) := by
  intro pins s σ H Q I h
  refine BoolOp_and (thnE (ha pins s σ H _ I h) fun v s1 x H1 I1 r1 q1 => ?_)
  obtain ⟨c, rfl, q1⟩ := q1
  cases r1
  refine wpAny_truthy_bool ?_
  cases c with
  | true => exact hb pins s1 σ H1 Q I1 q1
  | false => exact ⟨.bl false, H1, I1, rfl, q1⟩
theorem pe_not (ha : PE X a ta) : PE X (.UnaryOp .Not a pos) (tNotV ta) := by
  intro pins s σ H Q I h
  refine UnaryOp_ (thnE (ha pins s σ H _ I h) fun v s1 x H1 I1 r1 q1 => ?_)
  obtain ⟨c, rfl, q1⟩ := q1
  cases r1
  exact not_of (wpAny_truthy_bool ⟨.bl (!c), H1, I1, rfl, q1⟩)
end
end L2

namespace L2
open PySem PySem.Spec PyProof.Rows

noncomputable def SqL (K : PySem.W.Frag) (H : Hp) (a : Addr) (xs : List V) : Prop :=
  Rd H a (.lst xs) ∨
    ∃ (o : Obj) (its : Array Value) (n : Nat), K.lookup a = some o ∧ o.cls = .type "list" ∧ o.dict = none ∧ o.data = .seq its n ∧ its.size ≤ sizeLine ∧ Vals xs its.toList
noncomputable def SqT (K : PySem.W.Frag) (H : Hp) (a : Addr) (xs : List V) : Prop :=
  Rd H a (.tup xs) ∨
    ∃ (o : Obj) (its : Array Value) (n : Nat), K.lookup a = some o ∧ o.cls = .type "tuple" ∧ o.data = .seq its n ∧ its.size ≤ sizeLine ∧ Vals xs its.toList
noncomputable def absV : Value → Option V
  | .none => some .non
  | .bool b => some (.bl b)
  | .int i _ => some (.int i)
  | .str x _ => some (.str x)
  | .bytes b _ => some (.byt b)
  | .float b _ => some (.flt b)
  | .ref a => some (.ref a)
  | .type n => some (.ty n)
  | _ => none
theorem RelV.abs {x : V} {u : Value} (r : RelV x u) : absV u = some x := by
  cases x with
  | non => cases r; rfl
  | bl _ => cases r; rfl
  | int _ => obtain ⟨t, rfl⟩ := r; rfl
  | str _ => obtain ⟨t, rfl⟩ := r; rfl
  | byt _ => obtain ⟨t, rfl⟩ := r; rfl
  | flt _ => obtain ⟨t, rfl⟩ := r; rfl
  | ref _ => cases r; rfl
  | ty _ => cases r; rfl
theorem RelV.inj {x y : V} {u : Value} (r : RelV x u) (q : RelV y u) : x = y := Option.some.inj (r.abs.symm.trans q.abs)
theorem Vals.inj {xs ys : List V} {us : List Value} (a : Vals xs us) (b : Vals ys us) : xs = ys := by
  induction a generalizing ys with
  | nil => cases b; rfl
  | cons r t ih =>
    cases b with
    | cons r' t' => rw [r.inj r', ih t']
section
variable {X : Cx} {pins : List (Addr × Obj)} {σ : St} {H : Hp} {s : Shared} {a : Addr} {xs ys : List V}
theorem SqL.of {K : PySem.W.Frag} (h : H a = some (.lst xs)) : SqL K H a xs := .inl (.inl h)
theorem SqT.of {K : PySem.W.Frag} (h : H a = some (.tup xs)) : SqT K H a xs := .inl (.inl h)
theorem Inv.list (I : Inv X pins σ H s) (h : SqL X.K H a xs) : ∃ its : List Value, Vals xs its ∧ PlainL s.heap a its.toArray ∧ xs.length ≤ sizeLine := by
  rcases h with h | ⟨o, its, n, hk, hc, hd, hs, hz, r⟩
  · obtain ⟨z, its, n, r, e⟩ := h.ok I.hok
    exact ⟨its, r, ⟨_, n, e, rfl, rfl, rfl⟩, z⟩
  · refine ⟨its.toList, r, ⟨o, n, I.kIn a o hk, hc, hd, by simpa using hs⟩, ?_⟩
    have e := r.length
    simp only [Array.length_toList] at e
    lia
theorem Inv.tuple (I : Inv X pins σ H s) (h : SqT X.K H a xs) : ∃ its : List Value, Vals xs its ∧ IsTup s.heap a its.toArray ∧ xs.length ≤ sizeLine := by
  rcases h with h | ⟨o, its, n, hk, hc, hs, hz, r⟩
  · obtain ⟨z, its, r, p⟩ := h.ok I.hok
    exact ⟨its, r, p, z⟩
  · refine ⟨its.toList, r, ⟨o, I.kIn a o hk, hc, n, by simpa using hs⟩, ?_⟩
    have e := r.length
    simp only [Array.length_toList] at e
    lia
theorem Inv.list_inj (I : Inv X pins σ H s) (h : SqL X.K H a xs) (h' : SqL X.K H a ys) : xs = ys := by
  obtain ⟨its, r, ⟨o, n, e, _, _, d⟩, _⟩ := I.list h
  obtain ⟨its', r', ⟨o', n', e', _, _, d'⟩, _⟩ := I.list h'
  rw [e] at e'; cases e'
  rw [d] at d'
  injection d' with d1 _
  have : its = its' := by simpa using congrArg Array.toList d1
  subst this
  exact r.inj r'
end

noncomputable abbrev Cx.wish (X : Cx) (E : Value → Shared → Prop) : Cx := { X with xe := E }
noncomputable abbrev Cx.nox (X : Cx) : Cx := X.wish fun _ _ => False
theorem Cx.Ok.wish {X : Cx} (ok : X.Ok) (E : Value → Shared → Prop) : (X.wish E).Ok :=
  ⟨ok.mod, ok.kind, ok.glob, ok.blt, ok.above, ok.inj, ok.has, ok.cab, ok.hd, ok.frames, ok.stk, ok.exf, ok.bs, ok.bsz, ok.noex, ok.exfs, ok.funs, ok.frf⟩
theorem Cx.Ok.unwish {X : Cx} {E : Value → Shared → Prop} (ok : (X.wish E).Ok) : X.Ok :=
  ⟨ok.mod, ok.kind, ok.glob, ok.blt, ok.above, ok.inj, ok.has, ok.cab, ok.hd, ok.frames, ok.stk, ok.exf, ok.bs, ok.bsz, ok.noex, ok.exfs, ok.funs, ok.frf⟩
section
variable {X : Cx} {pins : List (Addr × Obj)} {σ : St} {H : Hp} {s : Shared} {E : Value → Shared → Prop}
theorem Inv.wish (I : Inv X pins σ H s) (E : Value → Shared → Prop) : Inv (X.wish E) pins σ H s := ⟨I.ok.wish E, I.os, I.bare, I.base, I.loc, I.cell, I.free, I.freeC, I.pin, I.hok, I.len⟩
theorem Inv.unwish (I : Inv (X.wish E) pins σ H s) : Inv X pins σ H s := ⟨I.ok.unwish, I.os, I.bare, I.base, I.loc, I.cell, I.free, I.freeC, I.pin, I.hok, I.len⟩
theorem SP.unwish {D : Ends} {f : Flow} {s' : Shared} (h : SP (X.wish E) pins D f s') : SP X pins D f s' := by
  cases f with
  | next => obtain ⟨σ', H', I, q⟩ := h; exact ⟨σ', H', I.unwish, q⟩
  | brk => obtain ⟨σ', H', I, q⟩ := h; exact ⟨σ', H', I.unwish, q⟩
  | cont => obtain ⟨σ', H', I, q⟩ := h; exact ⟨σ', H', I.unwish, q⟩
  | ret u => obtain ⟨v, σ', H', I, r, q⟩ := h; exact ⟨v, σ', H', I.unwish, r, q⟩
theorem PSs.nox {st : List Stmt} {t : TS} (h : PSs X.nox st t) : PSs X st t := fun pins s σ H D I hw =>
  wpAny_mono (h pins s σ H D (I.wish _) hw) (fun _ _ q => q.unwish) fun _ _ z => False.elim z
end

section
variable {X : Cx} {st : Stmt} {rest : List Stmt} {t u : TS} {e : Expr} {te : TE} {pos : Pos}
noncomputable def tNext : TS := fun D σ H => D.nx σ H
noncomputable def tSeq (t u : TS) : TS := fun D σ H => t { D with nx := u D } σ H
theorem pss_nil : PSs X [] tNext := fun _ _ σ H _ I h => wpAny_execs_nil ⟨σ, H, I, h⟩
theorem pss_cons (h1 : PS X st t) (h2 : PSs X rest u) : PSs X (st :: rest) (tSeq t u) := by
  intro pins s σ H D I h
  refine wpAny_execs_cons (thn (h1 pins s σ H { D with nx := u D } I h) fun f s1 q => ?_)
  cases f with
  | next =>
    obtain ⟨σ', H', I', q⟩ := q
    exact h2 pins s1 σ' H' D I' q
  | ret v => exact q
  | brk => exact q
  | cont => exact q
theorem pss_one (h1 : PS X st t) : PSs X [st] t := by
  intro pins s σ H D I h
  refine wpAny_execs_cons (thn (h1 pins s σ H D I h) fun f s1 q => ?_)
  cases f with
  | next => exact wpAny_execs_nil q
  | ret v => exact q
  | brk => exact q
  | cont => exact q
theorem Inv.quiet {pins : List (Addr × Obj)} {σ : St} {H : Hp} {s : Shared} (I : Inv X pins σ H s) : interactive X.env = false := by simp [interactive, I.ok.kind]
noncomputable def tDrop (te : TE) : TS := fun D σ H => te σ H fun _ H1 => D.nx σ H1
theorem ps_expr (he : PE X e te) (hs : swapsWith e none pos.line X.env = pure false := by rfl) : PS X (.Expr e pos) (tDrop te) := by
  intro pins s σ H D I h
  exact wpAny_Expr_any (thnE (he pins s σ H _ I h) fun v s1 x H1 I1 r1 q1 => ⟨σ, H1, I1, q1⟩) I.quiet hs
noncomputable def tRet (te : TE) : TS := fun D σ H => te σ H D.rt
theorem ps_ret (he : PE X e te) : PS X (.Return (some e) pos) (tRet te) := by
  intro pins s σ H D I h
  exact wpAny_Return_some (thnE (he pins s σ H _ I h) fun v s1 x H1 I1 r1 q1 => ⟨x, σ, H1, I1, r1, q1⟩)
noncomputable def tIfS (c : TT) (t u : TS) : TS := fun D σ H => c σ H fun b H1 => if b = true then t D σ H1 else u D σ H1
theorem ps_if {c : Expr} {a b : List Stmt} {tc : TT} (hc : PT X c tc) (ha : PSs X a t) (hb : PSs X b u) : PS X (.If c a b pos) (tIfS tc t u) := by
  intro pins s σ H D I h
  refine wpAny_If (thn (hc pins s σ H _ I h) fun d s1 ⟨H1, I1, q1⟩ => ?_)
  cases d with
  | true => exact ha pins s1 σ H1 D I1 q1
  | false => exact hb pins s1 σ H1 D I1 q1
noncomputable def tNever : TS := fun _ _ _ => False
theorem pss_never {sts : List Stmt} : PSs X sts tNever := fun _ _ _ _ _ _ h => h.elim
end

noncomputable abbrev TG := V → St → Hp → (St → Hp → Prop) → Prop
noncomputable abbrev TGs := List V → St → Hp → (St → Hp → Prop) → Prop
noncomputable def PG (X : Cx) (target : Expr) (t : TG) : Prop :=
  ∀ (pins : List (Addr × Obj)) (s : Shared) (σ : St) (H : Hp) (v : V) (u : Value) (Q : St → Hp → Prop), Inv X pins σ H s → RelV v u → t v σ H Q →
    wpAny (model X.prog X.w) X.A (assign target X.env u) (fun _ s' => ∃ σ' H', Inv X pins σ' H' s' ∧ Q σ' H') X.xe s
noncomputable def PGs (X : Cx) (ts : List Expr) (t : TGs) : Prop :=
  ∀ (pins : List (Addr × Obj)) (s : Shared) (σ : St) (H : Hp) (vs : List V) (us : List Value) (Q : St → Hp → Prop), Inv X pins σ H s → Vals vs us → t vs σ H Q →
    wpAny (model X.prog X.w) X.A (assignInOrder ((assignEach ts X.env).map (·.2)) us) (fun _ s' => ∃ σ' H', Inv X pins σ' H' s' ∧ Q σ' H') X.xe s
noncomputable abbrev TSet := V → V → V → Hp → (Hp → Prop) → Prop
noncomputable def PSet (X : Cx) (t : TSet) : Prop :=
  ∀ (pins : List (Addr × Obj)) (s : Shared) (σ : St) (H : Hp) (o i v : V) (ov iv u : Value) (Q : Hp → Prop), Inv X pins σ H s → RelV o ov → RelV i iv → RelV v u → t o i v H Q →
    wpAny (model X.prog X.w) X.A (setItem ov iv u) (fun _ s' => ∃ H', Inv X pins σ H' s' ∧ Q H') X.xe s
noncomputable abbrev TIp := V → V → Hp → VK → Prop
noncomputable def PIp (X : Cx) (op : Operator) (t : TIp) : Prop :=
  ∀ (pins : List (Addr × Obj)) (s : Shared) (σ : St) (H : Hp) (x y : V) (v u : Value) (Q : VK), Inv X pins σ H s → RelV x v → RelV y u → t x y H Q →
    wpAny (model X.prog X.w) X.A (inplaceOp op v u) (EP X pins σ Q) X.xe s
section
variable {X : Cx} {pos : Pos}
noncomputable def gName (i : Nat) : TG := fun v σ H Q => Q (σ.set i (some v)) H
theorem pg_name {i : Nat} {x : Str} (hN : X.N.Nodup) (hi : X.N[i]? = some x) (hx : Loc X.env.scope x) (hf : X.fn x = true ∨ X.env.scope.names.lookup x = some .local := by first | exact .inl rfl | exact .inr rfl | assumption) : PG X (.Name x pos) (gName i) := by
  intro pins s σ H v u Q I r h
  exact wpAny_assign_Name (store_ok I hN hi hx r (fun s' I' => ⟨_, H, I', h⟩) hf)
noncomputable def gNil : TGs := fun vs σ H Q => vs = [] ∧ Q σ H
inductive gCons (t : TG) (u : TGs) (vs : List V) (σ : St) (H : Hp) (Q : St → Hp → Prop) : Prop
  | mk (v : V) (r : List V) : vs = v :: r → (t v σ H fun σ' H' => u r σ' H' Q) → gCons t u vs σ H Q
theorem pgs_nil : PGs X [] gNil := by
  intro pins s σ H vs us Q I r h
  obtain ⟨e, h⟩ := h
  subst e
  cases r
  exact assignInOrder_nil ⟨σ, H, I, h⟩
theorem pgs_cons {e : Expr} {es : List Expr} {t : TG} {u : TGs} (h1 : PG X e t) (h2 : PGs X es u)
    (hs : (assignEach (e :: es) X.env).map (·.2) = assign e X.env :: (assignEach es X.env).map (·.2) := by rfl) : PGs X (e :: es) (gCons t u) := by
  intro pins s σ H vs us Q I r h
  obtain ⟨v, vr, e1, h⟩ := h
  subst e1
  cases r with
  | cons r rr =>
    rw [hs]
    refine assignInOrder_cons (thn (h1 pins s σ H _ _ _ I r h) fun _ s1 ⟨σ1, H1, I1, q1⟩ => ?_)
    exact h2 pins s1 σ1 H1 _ _ Q I1 rr q1
inductive gTup (K : PySem.W.Frag) (n : Nat) (t : TGs) (v : V) (σ : St) (H : Hp) (Q : St → Hp → Prop) : Prop
  | mk (a : Addr) (xs : List V) : v = .ref a → SqT K H a xs → xs.length = n → t xs σ H Q → gTup K n t v σ H Q
theorem pg_tup {es : List Expr} {k : Nat} {t : TGs} {n : Nat} (hc : X.calm = true) (h : PGs X es t)
    (hn : (assignEach es X.env).length = n := by rfl) (hst : (assignEach es X.env).findIdx? (·.1) = none := by rfl) : PG X (.Tuple es k pos) (gTup X.K n t) := by
  intro pins s σ H v u Q I r hw
  obtain ⟨a, xs, e1, hq, hl, hw⟩ := hw
  subst e1
  cases r
  obtain ⟨its, rv, ht, hz⟩ := I.tuple hq
  refine assign_Tuple_tuple (I.ok.hd hc) ht (by simp [hn, ← hl, rv.length]) hst fun h' hx => ?_
  have I1 : Inv X pins σ H { s with heap := h' } := I.kept (t' := s.toks) fun b o e => hx b o (Nat.ne_of_lt (Heap.lt_size e)) e
  exact h pins _ σ H xs _ Q I1 (by simpa using rv) hw
noncomputable def gSub (to ti : TE) (t : TSet) : TG := fun v σ H Q => to σ H fun o H1 => ti σ H1 fun i H2 => t o i v H2 fun H3 => Q σ H3
theorem pg_sub {o i : Expr} {to ti : TE} {t : TSet} (ho : PE X o to) (hi : PE X i ti) (hs : PSet X t)
    (ha : ∀ v, assign (.Subscript o i pos) X.env v = (do
      let ov ← holding [v] (eval o X.env)
      let iv ← holding [v, ov] (eval i X.env)
      standAt pos
      holding [v, ov, iv] (setItem ov iv v)
      release [v, ov, iv] []) := by intro _; rfl) : PG X (.Subscript o i pos) (gSub to ti t) := by
  intro pins s σ H v u Q I r h
  rw [ha]
  refine wpAny_bind (wpAny_holding (thnE (ho pins s σ H _ I h) fun ov s1 x H1 I1 r1 q1 => ?_))
  refine wpAny_bind (wpAny_holding (thnE (hi pins s1 σ H1 _ I1 q1) fun iv s2 y H2 I2 r2 q2 => ?_))
  refine wpAny_bind (wpAny_standAt (wpAny_bind (wpAny_holding (thn (hs pins s2 σ H2 x y v ov iv u _ I2 r1 r2 r q2) fun _ s3 ⟨H3, I3, q3⟩ => ?_))))
  exact wpAny_release ⟨σ, H3, I3, q3⟩
noncomputable def tAsg (te : TE) (g : TG) : TS := fun D σ H => te σ H fun x H1 => g x σ H1 D.nx
theorem ps_asg {tg e : Expr} {te : TE} {g : TG} (he : PE X e te) (hg : PG X tg g) (hs : swapsWithSole [tg] e pos.line X.env = pure false := by rfl) (hw : swappedStores [tg] e X.env = pure none := by rfl)
    (h1 : (assignEach [tg] X.env).map (·.2) = [assign tg X.env] := by rfl) : PS X (.Assign [tg] e pos) (tAsg te g) := by
  intro pins s σ H D I h
  refine wpAny_Assign_stores (thnE (he pins s σ H _ I h) fun v s1 x H1 I1 r1 q1 => ?_) hs hw
  rw [h1]
  exact thn (hg pins s1 σ H1 x v _ I1 r1 q1) fun _ s2 q => q
theorem ps_set {i : Nat} {x : Str} {e : Expr} {te : TE} {pos' : Pos} (hN : X.N.Nodup) (hi : X.N[i]? = some x) (hx : Loc X.env.scope x) (he : PE X e te) (hs : swapsWith e (some (.Name x pos')) pos.line X.env = pure false := by rfl) (hf : X.fn x = true ∨ X.env.scope.names.lookup x = some .local := by first | exact .inl rfl | exact .inr rfl | assumption) :
    PS X (.Assign [.Name x pos'] e pos) (tAsg te (gName i)) := by
  intro pins s σ H D I h
  refine wpAny_Assign_Name (thnE (he pins s σ H _ I h) fun v s1 y H1 I1 r1 q1 => ?_) hs
  exact store_ok I1 hN hi hx r1 (fun s2 I2 => ⟨_, H1, I2, q1⟩) hf
noncomputable def tAug (i : Nat) (te : TE) (ti : TIp) : TS := fun D σ H => ∃ x, σ[i]? = some (some x) ∧ te σ H fun y H1 => ti x y H1 fun z H2 => D.nx (σ.set i (some z)) H2
theorem ps_aug {i : Nat} {x : Str} {e : Expr} {te : TE} {op : Operator} {ti : TIp} {pos' : Pos} (hN : X.N.Nodup) (hi : X.N[i]? = some x) (hx : Loc X.env.scope x) (he : PE X e te) (ho : PIp X op ti) (hf : X.fn x = true ∨ X.env.scope.names.lookup x = some .local := by first | exact .inl rfl | exact .inr rfl | assumption) :
    PS X (.AugAssign (.Name x pos') op e pos) (tAug i te ti) := by
  intro pins s σ H D I h
  obtain ⟨v, e1, h⟩ := h
  obtain ⟨m, hn, hl⟩ := I.loc
  have vis : Vis X.env.scope x := by rcases hx with k | k; exact .inl k; exact .inr (.inl k)
  obtain ⟨u, r, l⟩ := hl i x v hi e1 vis
  refine wpAny_AugAssign_Name ?_
  have go : wpAny (model X.prog X.w) X.A (eval e X.env) (fun w s₂ => wpAny (model X.prog X.w) X.A (inplaceOp op u w) (fun r s₃ => wpAny (model X.prog X.w) X.A (storeName X.env x r) (fun _ => SP X pins D .next) X.xe s₃) X.xe s₂) X.xe s := by
    refine thnE (he pins s σ H _ I h) fun w s1 y H1 I1 r1 q1 => ?_
    refine thnE (ho pins s1 σ H1 v y u w _ I1 r r1 q1) fun z s2 zv H2 I2 r2 q2 => ?_
    exact store_ok I2 hN hi hx r2 (fun s3 I3 => ⟨_, H2, I3, q2⟩) hf
  rcases l with ⟨hk, hm⟩ | ⟨hk, c, hc, hcell⟩
  · exact wpAny_loadName_local I.ok.kind hk hn hm go
  · rcases hk with hk | hk
    · exact wpAny_loadName_cell I.ok.kind hk hc hcell go
    · rcases hx with k | k
      · have : X.env.scope.names.lookup x = some .free := hk
        rw [k] at this; cases this
      · have : X.env.scope.names.lookup x = some .free := hk
        rw [k] at this; cases this
inductive ipI (f : Int → Int → Int) (x : V) (y : V) (H : Hp) (Q : VK) : Prop
  | mk : ∀ i j, (x = .int i) → (y = .int j) → (Q (.int (f i j)) H) → ipI f x y H Q
theorem ip_add : PIp X .Add (ipI fun i j => i + j) := by
  intro pins s σ H x y v u Q I r1 r2 h
  obtain ⟨i, j, e1, e2, q⟩ := h
  subst e1; subst e2
  obtain ⟨t, rfl⟩ := r1
  obtain ⟨t', rfl⟩ := r2
  exact iadd_int ⟨.int _, H, I.tok _, ⟨_, rfl⟩, q⟩
end

section
variable {X : Cx} {pos : Pos}
noncomputable def tWhile (c : TT) (tb : TS) : TS := fun D σ H => ∃ W : Nat → St → Hp → Prop, (∃ m, W m σ H) ∧ ∀ m σ H, W m σ H →
  c σ H fun b H1 => if b = true then ∃ N : St → Hp → Prop, (∀ σ' H', N σ' H' → ∃ m', m' < m ∧ W m' σ' H') ∧ tb { D with nx := N, ct := N, bk := D.nx } σ H1 else D.nx σ H1
theorem ps_while {c : Expr} {body : List Stmt} {tc : TT} {tb : TS} (hp : PassesOwn (model X.prog X.w) X.A X.env X.xe) (hc : PT X c tc) (hb : PSs X body tb) : PS X (.While c body [] pos) (tWhile tc tb) := by
  intro pins s σ H D I h
  obtain ⟨W, ⟨m0, w0⟩, turn⟩ := h
  refine wpAny_While (codeAny_whileLoop (fun n s' => ∃ σ' H', Inv X pins σ' H' s' ∧ W n σ' H') ?_ m0 ⟨σ, H, I, w0⟩)
  rintro n s1 ⟨σ1, H1, I1, w1⟩
  refine wpAny_passesOwn hp (thn (hc pins s1 σ1 H1 _ I1 (turn n σ1 H1 w1)) fun b s2 ⟨H2, I2, q2⟩ => ?_)
  cases b with
  | true =>
    obtain ⟨N, hN, q2⟩ := q2
    rw [if_pos rfl]
    refine wpAny_passesOwn hp (thn (hb pins s2 σ1 H2 _ I2 q2) fun f s3 q3 => ?_)
    cases f with
    | next =>
      obtain ⟨σ3, H3, I3, n3⟩ := q3
      obtain ⟨m', hm, w3⟩ := hN σ3 H3 n3
      exact ⟨m', hm, σ3, H3, I3, w3⟩
    | cont =>
      obtain ⟨σ3, H3, I3, n3⟩ := q3
      obtain ⟨m', hm, w3⟩ := hN σ3 H3 n3
      exact ⟨m', hm, σ3, H3, I3, w3⟩
    | brk => exact q3
    | ret v => exact q3
  | false =>
    rw [if_neg Bool.false_ne_true]
    exact wpAny_execs_nil ⟨σ1, H2, I2, q2⟩
end

structure It where
  go : Nat → Hp → Prop
  yld : Nat → Hp → V → Hp → Prop
  stop : Nat → Hp → Prop
noncomputable def FpOk (X : Cx) (pins : List (Addr × Obj)) (H : Hp) (b : Addr) : Prop :=
  H b = none ∧ b ≠ X.env.locals ∧ b ∉ X.fs ∧ (b ∈ X.ex ∨ X.s₀.heap.objs.size ≤ b) ∧ (∀ x c, X.env.cells.lookup x = some c → c ≠ b) ∧ ∀ p ∈ X.pn ++ pins, p.1 ≠ b
theorem Inv.fpOk {X : Cx} {pins : List (Addr × Obj)} {σ : St} {H H' : Hp} {s : Shared} {b : Addr} (I : Inv X pins σ H s) (hb : s.heap.objs.size ≤ b) (hn : H' b = none) : FpOk X pins H' b := by
  refine ⟨hn, Nat.ne_of_gt (Nat.lt_of_lt_of_le I.lt hb), I.nofs hb, .inr (Nat.le_trans I.sz hb), fun x c e z => ?_, fun p hp z => ?_⟩
  · obtain ⟨v, q⟩ := I.cell x c e
    exact absurd (Nat.lt_of_lt_of_le q.lt (by rw [z]; exact hb)) (Nat.lt_irrefl _)
  · exact absurd (Nat.lt_of_lt_of_le (Heap.lt_size (I.pin p hp).1) (by rw [z]; exact hb)) (Nat.lt_irrefl _)
structure Turn (P : Program) (w : World) (K : PySem.W.Frag) (tg : Expr) (J : It) (fp : List Addr) (it : Addr) (tn : Nat → Heap → Prop) : Prop where
  mem : it ∈ fp
  obj : ∀ i h, tn i h → ∀ b ∈ fp, ∃ o, h.get? b = some o ∧ ∀ v, o.data ≠ .cell v
  keep : ∀ i h h', tn i h → (∀ b ∈ fp, ∀ o, h.get? b = some o → h'.get? b = some o) → tn i h'
  item : ∀ (X : Cx), X.prog = P → X.w = w → X.K = K → X.calm = true → ∀ (i : Nat) (pins : List (Addr × Obj)) (s : Shared) (σ : St) (H : Hp) (E : Value → Shared → Prop), Inv X pins σ H s → (∀ b ∈ fp, FpOk X pins H b) → tn i s.heap → J.go i H →
    wpAny (model P w) X.A (pyNext (.ref it)) (fun r s1 => ∃ u, r = some u ∧
      wpAny (model P w) X.A (letOwnedTupleGo tg (.ref it) u) (fun _ s2 => ∃ x H', Inv X pins σ H' s2 ∧ RelV x u ∧ J.yld i H x H' ∧ tn (i + 1) s2.heap ∧ ∀ b ∈ fp, H' b = none) E s1) E s
  done : ∀ (X : Cx), X.prog = P → X.w = w → X.K = K → X.calm = true → ∀ (i : Nat) (pins : List (Addr × Obj)) (s : Shared) (σ : St) (H : Hp) (E : Value → Shared → Prop), Inv X pins σ H s → (∀ b ∈ fp, FpOk X pins H b) → tn i s.heap → J.stop i H →
    wpAny (model P w) X.A (pyNext (.ref it)) (fun r s1 => r = none ∧ Inv X pins σ H s1) E s
  self : ∀ (A : Around) (i : Nat) (s : Shared) (Q : Value → Shared → Prop) (E : Value → Shared → Prop), tn i s.heap → Q (.ref it) s → wpAny (model P w) A (pyIter (.ref it)) Q E s
noncomputable abbrev TI := St → Hp → (It → Hp → Prop) → Prop
noncomputable def PIE (X : Cx) (pins : List (Addr × Obj)) (σ : St) (tg : Expr) (R : It → Hp → Prop) (itv : Value) (s2 : Shared) : Prop :=
  ∃ (it : Addr) (fp : List Addr) (tn : Nat → Heap → Prop) (J : It) (H' : Hp), itv = .ref it ∧ Inv X pins σ H' s2 ∧ Turn X.prog X.w X.K tg J fp it tn ∧ tn 0 s2.heap ∧ (∀ b ∈ fp, FpOk X pins H' b) ∧ R J H'
noncomputable def PI (X : Cx) (tg iter : Expr) (wi : TI) : Prop :=
  ∀ (pins : List (Addr × Obj)) (s : Shared) (σ : St) (H : Hp) (R : It → Hp → Prop), Inv X pins σ H s → wi σ H R →
    wpAny (model X.prog X.w) X.A (eval iter X.env) (fun v s1 => wpAny (model X.prog X.w) X.A (pyIter v) (PIE X pins σ tg R) X.xe s1) X.xe s

theorem go_of {M : Model} {A : Around} {E : Value → Shared → Prop} {s : Shared} {tg : Expr} {it : Addr} {u : Value} {o : Obj} {n : String} {vs : Array Value} {Q : Unit → Shared → Prop} (ho : s.heap.get? it = some o) (hc : o.cls = .type n) (hd : o.data = .fields vs)
    (hn : ["enumerate", "zip", "dict_itemiterator", "dict_reverseitemiterator", "odict_iterator", "itertools.zip_longest", "itertools.pairwise"].contains n = false) (hQ : Q () s) : wpAny M A (letOwnedTupleGo tg (.ref it) u) Q E s := by
  unfold letOwnedTupleGo
  cases tg <;> first
    | exact wpAny_pure hQ
    | (cases u <;> first
        | exact wpAny_pure hQ
        | (refine wpAny_bind (wpAny_load ho ?_)
           rw [hc, hd]
           show wpAny M A (if (["enumerate", "zip", "dict_itemiterator", "dict_reverseitemiterator", "odict_iterator", "itertools.zip_longest", "itertools.pairwise"].contains n && vs[0]? == some (rawInt _)) = true then _ else _) Q E s
           rw [if_neg (by intro h; rw [hn, Bool.false_and] at h; cases h)]
           exact wpAny_pure hQ))

noncomputable def Itl (K : PySem.W.Frag) (a : Addr) : It :=
  ⟨fun i H => ∃ xs x, SqL K H a xs ∧ xs[i]? = some x, fun i H x H' => H' = H ∧ ∀ xs, SqL K H a xs → xs[i]? = some x, fun i H => ∃ xs, SqL K H a xs ∧ xs.length ≤ i⟩
noncomputable def Itr (lo : Int) (n : Nat) : It := ⟨fun i _ => i < n, fun i H x H' => H' = H ∧ x = .int (lo + i), fun i _ => n ≤ i⟩
theorem turn_list {P : Program} {w : World} {K : PySem.W.Frag} {tg : Expr} (a it : Addr) : Turn P w K tg (Itl K a) [it] it (fun i h => h.IsListIter it a i) where
  mem := by simp
  obj := fun i h st b hb => by
    have e : b = it := by simpa using hb
    subst e
    obtain ⟨o, e, c, d⟩ := st
    exact ⟨o, e, fun v z => by rw [d] at z; cases z⟩
  keep := fun i h h' st k => st.at fun o e => k it (by simp) o e
  item := by
    intro X hP hw hK hc i pins s σ H E I hf st hg
    subst hP hw hK
    obtain ⟨xs, x, hq, hx⟩ := hg
    obtain ⟨its, rv, p, hz⟩ := I.list hq
    obtain ⟨u, hu, ru⟩ := rv.get hx
    obtain ⟨f0, f1, f2, f3, f4, f5⟩ := hf it (by simp)
    refine wpAny_pyNext_list_item st p.isList (x := u) (by simpa using hu) fun h' st' sb => ?_
    have I1 : Inv X pins σ H { s with heap := h' } := I.turned (t' := s.toks) (fun b o hb e => (sb.2 b hb).trans e) f0 f1 f3 f4 f5
    obtain ⟨o, e, c, d⟩ := id st'
    exact ⟨u, rfl, go_of (s := { s with heap := h' }) e c d (by decide) ⟨x, H, I1, ru, ⟨rfl, fun ys hy => by rw [I.list_inj hy hq]; exact hx⟩, st', fun b hb => (hf b hb).1⟩⟩
  done := by
    intro X hP hw hK hc i pins s σ H E I hf st hg
    subst hP hw hK
    obtain ⟨xs, hq, hx⟩ := hg
    obtain ⟨its, rv, p, hz⟩ := I.list hq
    obtain ⟨f0, f1, f2, f3, f4, f5⟩ := hf it (by simp)
    have hl := rv.length
    exact wpAny_pyNext_list_end (I.ok.hd hc) st p.isList (by simp; lia) fun h' eb => ⟨rfl, I.turned (t' := s.toks) (fun b o hb e => eb b o hb e) f0 f1 f3 f4 f5⟩
  self := fun _ _ _ _ _ st h => wpAny_pyIter_listiter st h
theorem turn_range {P : Program} {w : World} {K : PySem.W.Frag} {tg : Expr} (it : Addr) (lo : Int) (n : Nat) : Turn P w K tg (Itr lo n) [it] it (fun i h => IsRangeIter h it (lo + (i : Nat) * 1) ((n : Int) - (i : Nat)) 1) where
  mem := by simp
  obj := fun i h st b hb => by
    have e : b = it := by simpa using hb
    subst e
    exact ⟨_, st, fun v z => by
      have z' : Data.fields _ = Data.cell v := z
      cases z'⟩
  keep := fun i h h' st k => k it (by simp) _ st
  item := by
    intro X hP hw hK hc i pins s σ H E I hf st hg
    subst hP hw hK
    obtain ⟨f0, f1, f2, f3, f4, f5⟩ := hf it (by simp)
    have W := Walks.range (prog := X.prog) (w := X.w) (I.ok.hd hc) it lo 1 n
    refine W.item i s _ _ hg st fun v h' tk hv st' kk => ?_
    obtain ⟨t, rfl⟩ := hv
    have I1 : Inv X pins σ H { s with heap := h', toks := tk } := I.turned (fun b o hb e => kk b o (by simpa using hb) e) f0 f1 f3 f4 f5
    refine ⟨_, rfl, go_of (s := { s with heap := h', toks := tk }) (n := "range_iterator") st' rfl rfl (by decide) ⟨.int (lo + i), H, I1, ⟨t, ?_⟩, ⟨rfl, rfl⟩, st', fun b hb => (hf b hb).1⟩⟩
    rw [Int.mul_one]
  done := by
    intro X hP hw hK hc i pins s σ H E I hf st hg
    subst hP hw hK
    obtain ⟨f0, f1, f2, f3, f4, f5⟩ := hf it (by simp)
    exact wpAny_pyNext_range_end (I.ok.hd hc) st (by have : n ≤ i := hg; lia) fun h' eb => ⟨rfl, I.turned (t' := s.toks) (fun b o hb e => eb b o hb e) f0 f1 f3 f4 f5⟩
  self := fun _ _ _ _ _ st h => wpAny_pyIter_rangeiter st h
end L2

namespace L2
open PySem PySem.Spec PyProof.Rows
section
variable {X : Cx} {tg : Expr}
noncomputable def iList (K : PySem.W.Frag) (tl : TE) : TI := fun σ H R => tl σ H fun x H1 => ∃ a, x = .ref a ∧ (∃ xs, SqL K H1 a xs) ∧ R (Itl K a) H1
theorem pi_list {l : Expr} {tl : TE} (hl : PE X l tl) : PI X tg l (iList X.K tl) := by
  intro pins s σ H R I h
  refine thnE (hl pins s σ H _ I h) fun v s1 x H1 I1 r1 q1 => ?_
  obtain ⟨a, e, ⟨xs, hq⟩, q⟩ := q1
  subst e
  cases r1
  obtain ⟨its, rv, p, hz⟩ := I1.list hq
  refine wpAny_pyIter_list p.isList ?_
  refine ⟨s1.heap.objs.size, [s1.heap.objs.size], _, _, H1, rfl, I1.kept (t' := s1.toks) fun b o e => Heap.get?_push_of_some _ e, turn_list a _, ⟨_, Heap.get?_push_size _ rfl, rfl, rfl⟩, fun b hb => ?_, q⟩
  have e : b = s1.heap.objs.size := by simpa using hb
  subst e
  exact I1.fpOk (Nat.le_refl _) (I1.hok.fresh (Nat.le_refl _))
theorem range_it {pins : List (Addr × Obj)} {σ : St} {H : Hp} {s : Shared} {R : It → Hp → Prop} {E : Value → Shared → Prop} {lo hi : Int} {t u v : Tok} {tk : Nat} (I : Inv X pins σ H s) (h1 : -(2 ^ 62) ≤ lo) (h2 : lo < 2 ^ 62) (h3 : -(2 ^ 62) ≤ hi) (h4 : hi < 2 ^ 62)
    (q : R (Itr lo (hi - lo).toNat) H) : wpAny (model X.prog X.w) X.A (pyIter (.ref s.heap.objs.size)) (PIE X pins σ tg R) E { s with heap := s.heap.push { cls := .type "range", data := .fields #[.int lo t, .int hi u, .int 1 v] }, toks := tk } := by
  refine wpAny_pyIter_range (IsRange.new ..) (small_one h1 h2 h3 h4) ?_
  have I1 : Inv X pins σ H { s with heap := s.heap.push { cls := .type "range", data := .fields #[.int lo t, .int hi u, .int 1 v] }, toks := tk } := I.kept fun b o e => Heap.get?_push_of_some _ e
  refine ⟨(s.heap.push { cls := .type "range", data := .fields #[.int lo t, .int hi u, .int 1 v] }).objs.size, [(s.heap.push { cls := .type "range", data := .fields #[.int lo t, .int hi u, .int 1 v] }).objs.size], _, _, H, rfl,
    I1.kept (t' := tk) fun b o e => Heap.get?_push_of_some _ e, turn_range _ lo (hi - lo).toNat, ?_, fun b hb => ?_, q⟩
  · have e1 : lo + ((0 : Nat) : Int) * 1 = lo := by simp
    have e2 : (((hi - lo).toNat : Nat) : Int) - ((0 : Nat) : Int) = Builtin.Range.rangeSize lo hi 1 := by rw [rangeSize_one]; split <;> lia
    show IsRangeIter _ _ (lo + ((0 : Nat) : Int) * 1) ((((hi - lo).toNat : Nat) : Int) - ((0 : Nat) : Int)) 1
    rw [e1, e2]
    exact Heap.get?_push_size _ rfl
  · have e : b = (s.heap.push { cls := .type "range", data := .fields #[.int lo t, .int hi u, .int 1 v] }).objs.size := by simpa using hb
    subst e
    exact I1.fpOk (Nat.le_refl _) (I1.hok.fresh (Nat.le_refl _))
noncomputable def iRng1 (ta : TA) : TI := fun σ H R => ta σ H fun vs H1 => ∃ j : Int, vs = [.int j] ∧ -(2 ^ 62) ≤ j ∧ j < 2 ^ 62 ∧ R (Itr 0 j.toNat) H1
noncomputable def iRng2 (ta : TA) : TI := fun σ H R => ta σ H fun vs H1 => ∃ i j : Int, vs = [.int i, .int j] ∧ (-(2 ^ 62) ≤ i ∧ i < 2 ^ 62 ∧ -(2 ^ 62) ≤ j ∧ j < 2 ^ 62) ∧ R (Itr i (j - i).toNat) H1
theorem pi_range1 {a : Expr} {ta : TA} {p pos : Pos} (hg : Gl X "range") (hm : X.mg "range" = none) (ha : PA X [a] ta) (hs : starEach [a] X.env = [(false, eval a X.env)] := by rfl) : PI X tg (.Call (.Name "range" p) [a] [] pos) (iRng1 ta) := by
  intro pins s σ H R I h
  refine Call_ (ld_blt I hg hm boot_range (PyProof.Rows.callWith_type1 (thnE (ha pos pins s σ H _ I h) fun us s1 vs H1 I1 r1 q1 => ?_) hs rfl))
  obtain ⟨j, e, q1, q2, q⟩ := q1
  subst e
  cases r1 with
  | cons r rr =>
    cases rr
    obtain ⟨t, rfl⟩ := r
    exact call_range_1 (range_it I1 (by lia) (by lia) q1 q2 (by simpa using q))
theorem pi_range2 {a b : Expr} {ta : TA} {p pos : Pos} (hg : Gl X "range") (hm : X.mg "range" = none) (ha : PA X [a, b] ta) (hs : starEach [a, b] X.env = [(false, eval a X.env), (false, eval b X.env)] := by rfl) (hs2 : starEach [b] X.env = [(false, eval b X.env)] := by rfl) :
    PI X tg (.Call (.Name "range" p) [a, b] [] pos) (iRng2 ta) := by
  intro pins s σ H R I h
  refine Call_ (ld_blt I hg hm boot_range (PyProof.Rows.callWith_type1 (thnE (ha pos pins s σ H _ I h) fun us s1 vs H1 I1 r1 q1 => ?_) (by rw [hs, hs2]) (by rw [hs2]; rfl)))
  obtain ⟨i, j, e, ⟨q1, q2, q3, q4⟩, q⟩ := q1
  subst e
  cases r1 with
  | cons r rr =>
    cases rr with
    | cons r' rr =>
      cases rr
      obtain ⟨t, rfl⟩ := r
      obtain ⟨t', rfl⟩ := r'
      exact call_range_2 (range_it I1 q1 q2 q3 q4 q)

noncomputable def tFor (wi : TI) (g : TG) (tb : TS) : TS := fun D σ H => wi σ H fun J H1 => ∃ W : Nat → Nat → St → Hp → Prop, (∃ m, W 0 m σ H1) ∧ ∀ i m σ H, W i m σ H →
  (J.stop i H ∧ D.nx σ H) ∨ (J.go i H ∧ ∃ N : St → Hp → Prop, (∀ σ' H', N σ' H' → ∃ m', m' < m ∧ W (i + 1) m' σ' H') ∧ ∀ x H', J.yld i H x H' → g x σ H' fun σ2 H2 => tb { D with nx := N, ct := N, bk := D.nx } σ2 H2)
noncomputable def pinsAt (fp : List Addr) (h : Heap) : List (Addr × Obj) := fp.filterMap fun b => (h.get? b).map fun o => (b, o)
theorem mem_pinsAt {fp : List Addr} {h : Heap} {b : Addr} {o : Obj} (hb : b ∈ fp) (e : h.get? b = some o) : (b, o) ∈ pinsAt fp h := List.mem_filterMap.mpr ⟨b, hb, by rw [e]; rfl⟩
theorem of_pinsAt {fp : List Addr} {h : Heap} {p : Addr × Obj} (hp : p ∈ pinsAt fp h) : p.1 ∈ fp ∧ h.get? p.1 = some p.2 := by
  obtain ⟨b, hb, e⟩ := List.mem_filterMap.mp hp
  cases q : h.get? b with
  | none => rw [q] at e; cases e
  | some o =>
    rw [q] at e
    have e' : (b, o) = p := Option.some.inj e
    subst e'
    exact ⟨hb, q⟩
theorem Inv.pinned {pins : List (Addr × Obj)} {σ : St} {H : Hp} {s : Shared} {fp : List Addr} (I : Inv X pins σ H s) (hf : ∀ b ∈ fp, FpOk X pins H b) (ho : ∀ b ∈ fp, ∃ o, s.heap.get? b = some o ∧ ∀ v, o.data ≠ .cell v) : Inv X (pins ++ pinsAt fp s.heap) σ H s :=
  I.pins_of fun p hp => (List.mem_append.mp hp).elim (fun z => I.pin p (List.mem_append_right _ z)) fun z => by
    obtain ⟨hb, e⟩ := of_pinsAt z
    obtain ⟨f0, f1, f2, _⟩ := hf p.1 hb
    obtain ⟨o, e', d⟩ := ho p.1 hb
    rw [e] at e'; cases e'
    exact ⟨e, f0, f1, f2, d⟩
theorem Inv.unpinned {pins pl : List (Addr × Obj)} {σ : St} {H : Hp} {s : Shared} (I : Inv X (pins ++ pl) σ H s) : Inv X pins σ H s := I.pins_of fun p hp => I.pin p (List.mem_append_right _ (List.mem_append_left _ hp))
theorem ps_for {iter : Expr} {body : List Stmt} {wi : TI} {g : TG} {tb : TS} {pos : Pos} (hp : PassesOwn (model X.prog X.w) X.A X.env X.xe) (hc : X.calm = true) (hi : PI X tg iter wi) (hg : PG X tg g) (hb : PSs X body tb)
    (hs : ∀ x, foldedSetIterable iter X.env x = pure x := by intro _; rfl) : PS X (.For tg iter body [] pos) (tFor wi g tb) := by
  intro pins s σ H D I h
  refine wpAny_For (thn (hi pins s σ H _ I h) fun v s1 h1 => thn h1 fun itv s2 h2 => ?_) hs
  obtain ⟨it, fp, tn, J, H2, e, I2, T, st2, f2, W, ⟨m0, w0⟩, turn⟩ := h2
  subst e
  -- what stays true of the iterator's objects through the loop
  have stat : ∀ {H' : Hp}, (∀ b ∈ fp, H' b = none) → ∀ b ∈ fp, FpOk X pins H' b := fun hn b hb => ⟨hn b hb, (f2 b hb).2⟩
  refine codeAny_forLoop_any (fun n s' => ∃ i σ' H', Inv X pins σ' H' s' ∧ tn i s'.heap ∧ (∀ b ∈ fp, H' b = none) ∧ W i n σ' H') ?_ m0 ⟨0, σ, H2, I2, st2, fun b hb => (f2 b hb).1, w0⟩
  rintro n s3 ⟨i, σ3, H3, I3, st3, fr3, w3⟩
  rcases turn i n σ3 H3 w3 with ⟨stop, qn⟩ | ⟨go, N, hN, step⟩
  · refine wpAny_passesOwn hp (thn (T.done X rfl rfl rfl hc i pins s3 σ3 H3 X.xe I3 (stat fr3) st3 stop) fun r s4 ⟨hr, I4⟩ => ?_)
    subst hr
    exact wpAny_execs_nil ⟨σ3, H3, I4, qn⟩
  · refine wpAny_passesOwn hp (thn (T.item X rfl rfl rfl hc i pins s3 σ3 H3 X.xe I3 (stat fr3) st3 go) fun r s4 ⟨u, hr, h4⟩ => ?_)
    subst hr
    refine wpAny_passesOwn hp (thn h4 fun _ s5 ⟨x, H5, I5, r5, y5, st5, fr5⟩ => ?_)
    have I5' := I5.pinned (stat fr5) (T.obj _ _ st5)
    refine wpAny_passesOwn hp (thn (hg _ s5 σ3 H5 x u _ I5' r5 (step x H5 y5)) fun _ s6 ⟨σ6, H6, I6, q6⟩ => ?_)
    refine wpAny_passesOwn hp (thn (hb _ s6 σ6 H6 _ I6 q6) fun f s7 q7 => ?_)
    have again : ∀ {σ7 : St} {H7 : Hp}, Inv X (pins ++ pinsAt fp s5.heap) σ7 H7 s7 → N σ7 H7 → ∃ m, m < n ∧ ∃ i σ' H', Inv X pins σ' H' s7 ∧ tn i s7.heap ∧ (∀ b ∈ fp, H' b = none) ∧ W i m σ' H' := fun {σ7 H7} I7 n7 => by
      obtain ⟨m', hm, w7⟩ := hN σ7 H7 n7
      refine ⟨m', hm, i + 1, σ7, H7, I7.unpinned, T.keep _ _ _ st5 fun b hb o e => (I7.pin (b, o) (List.mem_append_right _ (List.mem_append_right _ (mem_pinsAt hb e)))).1, fun b hb => ?_, w7⟩
      obtain ⟨o, e, d⟩ := T.obj _ _ st5 b hb
      exact (I7.pin (b, o) (List.mem_append_right _ (List.mem_append_right _ (mem_pinsAt hb e)))).2.1
    cases f with
    | next => obtain ⟨σ7, H7, I7, n7⟩ := q7; exact again I7 n7
    | cont => obtain ⟨σ7, H7, I7, n7⟩ := q7; exact again I7 n7
    | brk => obtain ⟨σ7, H7, I7, q7⟩ := q7; exact ⟨σ7, H7, I7.unpinned, q7⟩
    | ret v => obtain ⟨x7, σ7, H7, I7, r7, q7⟩ := q7; exact ⟨x7, σ7, H7, I7.unpinned, r7, q7⟩
end

theorem for_list {K : PySem.W.Frag} {a : Addr} {xs : List V} {g : TG} {tb : TS} {D : Ends} {σ : St} {H : Hp} (Pv : Nat → St → Hp → Prop) (h0 : Pv 0 σ H) (hl : ∀ i σ H, i ≤ xs.length → Pv i σ H → SqL K H a xs)
    (hs : ∀ i x σ H, xs[i]? = some x → Pv i σ H → g x σ H fun σ2 H2 => tb { D with nx := Pv (i + 1), ct := Pv (i + 1), bk := D.nx } σ2 H2) (hd : ∀ σ H, Pv xs.length σ H → D.nx σ H) :
    ∃ W : Nat → Nat → St → Hp → Prop, (∃ m, W 0 m σ H) ∧ ∀ i m σ H, W i m σ H →
      ((Itl K a).stop i H ∧ D.nx σ H) ∨ ((Itl K a).go i H ∧ ∃ N : St → Hp → Prop, (∀ σ' H', N σ' H' → ∃ m', m' < m ∧ W (i + 1) m' σ' H') ∧ ∀ x H', (Itl K a).yld i H x H' → g x σ H' fun σ2 H2 => tb { D with nx := N, ct := N, bk := D.nx } σ2 H2) := by
  refine ⟨fun i m σ H => m = xs.length - i ∧ i ≤ xs.length ∧ Pv i σ H, ⟨xs.length, by simp, Nat.zero_le _, h0⟩, ?_⟩
  rintro i m σ H ⟨rfl, hi, p⟩
  have q := hl i σ H hi p
  by_cases hlt : i < xs.length
  · refine .inr ⟨⟨xs, xs[i], q, by simp [hlt]⟩, Pv (i + 1), fun σ' H' p' => ⟨xs.length - (i + 1), by lia, rfl, hlt, p'⟩, fun x H' y => ?_⟩
    obtain ⟨e, y⟩ := y
    subst e
    exact hs i x σ _ (y xs q) p
  · have e : i = xs.length := by lia
    subst e
    exact .inl ⟨⟨xs, q, Nat.le_refl _⟩, hd σ H p⟩
theorem for_range {lo : Int} {n : Nat} {g : TG} {tb : TS} {D : Ends} {σ : St} {H : Hp} (Pv : Nat → St → Hp → Prop) (h0 : Pv 0 σ H)
    (hs : ∀ i σ H, i < n → Pv i σ H → g (.int (lo + i)) σ H fun σ2 H2 => tb { D with nx := Pv (i + 1), ct := Pv (i + 1), bk := D.nx } σ2 H2) (hd : ∀ σ H, Pv n σ H → D.nx σ H) :
    ∃ W : Nat → Nat → St → Hp → Prop, (∃ m, W 0 m σ H) ∧ ∀ i m σ H, W i m σ H →
      ((Itr lo n).stop i H ∧ D.nx σ H) ∨ ((Itr lo n).go i H ∧ ∃ N : St → Hp → Prop, (∀ σ' H', N σ' H' → ∃ m', m' < m ∧ W (i + 1) m' σ' H') ∧ ∀ x H', (Itr lo n).yld i H x H' → g x σ H' fun σ2 H2 => tb { D with nx := N, ct := N, bk := D.nx } σ2 H2) := by
  refine ⟨fun i m σ H => m = n - i ∧ i ≤ n ∧ Pv i σ H, ⟨n, by simp, Nat.zero_le _, h0⟩, ?_⟩
  rintro i m σ H ⟨rfl, hi, p⟩
  by_cases hlt : i < n
  · refine .inr ⟨hlt, Pv (i + 1), fun σ' H' p' => ⟨n - (i + 1), by lia, rfl, hlt, p'⟩, fun x H' y => ?_⟩
    obtain ⟨e, y⟩ := y
    subst e y
    exact hs i σ _ hlt p
  · have e : i = n := by lia
    subst e
    exact .inl ⟨Nat.le_refl _, hd σ H p⟩
end L2

namespace L2
open PySem PySem.Spec PyProof.Rows

noncomputable abbrev R2 := V → V → Hp → VK → Prop
noncomputable def OpR (X : Cx) (f : Value → Value → Sem Value) (r : R2) : Prop :=
  ∀ (pins : List (Addr × Obj)) (s : Shared) (σ : St) (H : Hp) (x y : V) (v u : Value) (Q : VK), Inv X pins σ H s → RelV x v → RelV y u → r x y H Q →
    wpAny (model X.prog X.w) X.A (f v u) (EP X pins σ Q) X.xe s
noncomputable def UnR (X : Cx) (f : Value → Sem Value) (r : V → Hp → VK → Prop) : Prop :=
  ∀ (pins : List (Addr × Obj)) (s : Shared) (σ : St) (H : Hp) (x : V) (v : Value) (Q : VK), Inv X pins σ H s → RelV x v → r x H Q →
    wpAny (model X.prog X.w) X.A (f v) (EP X pins σ Q) X.xe s
noncomputable def CallR (X : Cx) (f : Value) (r : List V → Hp → VK → Prop) : Prop :=
  ∀ (pins : List (Addr × Obj)) (s : Shared) (σ : St) (H : Hp) (xs : List V) (us : List Value) (Q : VK), Inv X pins σ H s → Vals xs us → r xs H Q →
    wpAny (model X.prog X.w) X.A (call f us) (EP X pins σ Q) X.xe s
noncomputable def tOp (r : R2) (ta tb : TE) : TE := fun σ H Q => ta σ H fun x H1 => tb σ H1 fun y H2 => r x y H2 Q
noncomputable def tUn (r : V → Hp → VK → Prop) (ta : TE) : TE := fun σ H Q => ta σ H fun x H1 => r x H1 Q
inductive rI (C : Int → Int → Prop) (g : Int → Int → V) (x y : V) (H : Hp) (Q : VK) : Prop
  | mk (i j : Int) : x = .int i → y = .int j → C i j → Q (g i j) H → rI C g x y H Q
inductive rI0 (g : Int → Int → V) (x y : V) (H : Hp) (Q : VK) : Prop
  | mk (i j : Int) : x = .int i → y = .int j → Q (g i j) H → rI0 g x y H Q
inductive rU (g : Int → V) (x : V) (H : Hp) (Q : VK) : Prop
  | mk : ∀ i, (x = .int i) → (Q (g i) H) → rU g x H Q

section
variable {X : Cx} {a b c : Expr} {ta tb tc : TE} {pos : Pos}

theorem binT (ha : PE X a ta) (hb : PE X b tb) {pins : List (Addr × Obj)} {s : Shared} {σ : St} {H : Hp} {R : V → V → Hp → Prop} (I : Inv X pins σ H s)
    (h : ta σ H fun x H1 => tb σ H1 fun y H2 => R x y H2) {Q : Value → Shared → Prop} {f : Value → Value → Sem Value}
    (hf : ∀ v u s2 x y H2, Inv X pins σ H2 s2 → RelV x v → RelV y u → R x y H2 → wpAny (model X.prog X.w) X.A (f v u) Q X.xe s2) :
    wpAny (model X.prog X.w) X.A (eval a X.env) (fun v s₁ => wpAny (model X.prog X.w) X.A (eval b X.env) (fun u s₂ => wpAny (model X.prog X.w) X.A (f v u) Q X.xe s₂) X.xe s₁) X.xe s := by
  refine thnE (ha pins s σ H _ I h) fun v s1 x H1 I1 r1 q1 => ?_
  refine thnE (hb pins s1 σ H1 _ I1 q1) fun u s2 y H2 I2 r2 q2 => ?_
  exact hf v u s2 x y H2 I2 r1 r2 q2

theorem pe_op {op : Operator} {r : R2} (ho : OpR X (binaryOp op) r) (ha : PE X a ta) (hb : PE X b tb) : PE X (.BinOp a op b pos) (tOp r ta tb) := by
  intro pins s σ H Q I h
  exact wpAny_BinOp (binT ha hb I h fun v u s2 x y H2 I2 rx ry q => ho pins s2 σ H2 x y v u Q I2 rx ry q)
theorem pe_un {op : UnaryOp} {r : V → Hp → VK → Prop} (ho : UnR X (unaryOp op) r) (ha : PE X a ta) : PE X (.UnaryOp op a pos) (tUn r ta) := by
  intro pins s σ H Q I h
  exact UnaryOp_ (thnE (ha pins s σ H _ I h) fun v s1 x H1 I1 r1 q1 => ho pins s1 σ H1 x v Q I1 r1 q1)
theorem opI {f : Value → Value → Sem Value} {C : Int → Int → Prop} {g : Int → Int → Int}
    (rule : ∀ (i j : Int) (t u : Tok) (s : Shared) (Q : Value → Shared → Prop) (E : Value → Shared → Prop), C i j → Q (.int (g i j) s.toks) { s with toks := s.toks + 1 } → wpAny (model X.prog X.w) X.A (f (.int i t) (.int j u)) Q E s) :
    OpR X f (rI C fun i j => .int (g i j)) := by
  intro pins s σ H x y v u Q I rx ry h
  obtain ⟨i, j, rfl, rfl, hc, q⟩ := h
  obtain ⟨t, rfl⟩ := rx
  obtain ⟨t', rfl⟩ := ry
  exact rule i j t t' s _ _ hc ⟨.int (g i j), H, I.tok _, ⟨_, rfl⟩, q⟩
theorem opI0 {f : Value → Value → Sem Value} {g : Int → Int → Int}
    (rule : ∀ (i j : Int) (t u : Tok) (s : Shared) (Q : Value → Shared → Prop) (E : Value → Shared → Prop), Q (.int (g i j) s.toks) { s with toks := s.toks + 1 } → wpAny (model X.prog X.w) X.A (f (.int i t) (.int j u)) Q E s) :
    OpR X f (rI0 fun i j => .int (g i j)) := by
  intro pins s σ H x y v u Q I rx ry h
  obtain ⟨i, j, rfl, rfl, q⟩ := h
  obtain ⟨t, rfl⟩ := rx
  obtain ⟨t', rfl⟩ := ry
  exact rule i j t t' s _ _ ⟨.int (g i j), H, I.tok _, ⟨_, rfl⟩, q⟩
theorem opB0 {f : Value → Value → Sem Value} {g : Int → Int → Bool}
    (rule : ∀ (i j : Int) (t u : Tok) (s : Shared) (Q : Value → Shared → Prop) (E : Value → Shared → Prop), Q (.bool (g i j)) s → wpAny (model X.prog X.w) X.A (f (.int i t) (.int j u)) Q E s) :
    OpR X f (rI0 fun i j => .bl (g i j)) := by
  intro pins s σ H x y v u Q I rx ry h
  obtain ⟨i, j, rfl, rfl, q⟩ := h
  obtain ⟨t, rfl⟩ := rx
  obtain ⟨t', rfl⟩ := ry
  exact rule i j t t' s _ _ ⟨.bl (g i j), H, I, rfl, q⟩

noncomputable def CDiv (i j : Int) : Prop := 0 < j ∧ j < 1073741824
noncomputable def CPow (i j : Int) : Prop := 0 ≤ j ∧ j ≤ 1000000 ∧ i.natAbs < 2 ^ 64
noncomputable def CMul (i j : Int) : Prop := (-(2 ^ 64) < i ∧ i < 2 ^ 64) ∨ (-(2 ^ 64) < j ∧ j < 2 ^ 64)
theorem CMul.ok {i j : Int} (h : CMul i j) : IntMulOk i j := by
  rcases h with ⟨h1, h2⟩ | ⟨h1, h2⟩
  · exact .of_left (intBits_le_64 h1 h2)
  · exact .of_right (intBits_le_64 h1 h2)
theorem op_add : OpR X (binaryOp .Add) (rI0 fun i j => .int (i + j)) := opI0 fun _ _ _ _ _ _ _ q => add_int q
theorem op_sub : OpR X (binaryOp .Sub) (rI0 fun i j => .int (i - j)) := opI0 fun _ _ _ _ _ _ _ q => sub_int q
theorem op_mul : OpR X (binaryOp .Mult) (rI CMul fun i j => .int (i * j)) := opI fun _ _ _ _ _ _ _ hc q => mul_int q hc.ok
theorem op_fdiv : OpR X (binaryOp .FloorDiv) (rI CDiv fun i j => .int (i / j)) := opI fun i j _ _ _ _ _ hc q => by
  have h1 : (0 : Int) < j := hc.1
  have h2 : j < 1073741824 := hc.2
  exact floordiv_int (by lia) (by rw [Int.fdiv_eq_ediv_of_nonneg i (by lia)]; exact q) (.inl (PyProof.noPylong_small (by lia)))
theorem op_mod : OpR X (binaryOp .Mod) (rI (fun _ j => 0 < j) fun i j => .int (i % j)) := opI fun i j _ _ _ _ _ hc q => by
  have h1 : (0 : Int) < j := hc
  exact mod_int' (by lia) (by rw [Int.fmod_eq_emod_of_nonneg i (by lia)]; exact q)
theorem op_pow : OpR X (binaryOp .Pow) (rI CPow fun i j => .int (i ^ j.toNat)) := opI fun _ _ _ _ _ _ _ hc q => pow_int_small hc.1 hc.2.1 hc.2.2 q
theorem unI {f : Value → Sem Value} {g : Int → Int}
    (rule : ∀ (i : Int) (t : Tok) (s : Shared) (Q : Value → Shared → Prop) (E : Value → Shared → Prop), Q (.int (g i) s.toks) { s with toks := s.toks + 1 } → wpAny (model X.prog X.w) X.A (f (.int i t)) Q E s) :
    UnR X f (rU fun i => .int (g i)) := by
  intro pins s σ H x v Q I rx h
  obtain ⟨i, rfl, q⟩ := h
  obtain ⟨t, rfl⟩ := rx
  exact rule i t s _ _ ⟨.int (g i), H, I.tok _, ⟨_, rfl⟩, q⟩
theorem un_neg : UnR X (unaryOp .USub) (rU fun i => .int (-i)) := unI fun _ _ _ _ _ q => neg_int q
end

noncomputable def scal : V → V → Bool
  | .non, .non => true | .non, .int _ => true | .int _, .non => true | .non, .bl _ => true | .bl _, .non => true | .non, .str _ => true | .str _, .non => true
  | .int _, .int _ => true | .bl _, .bl _ => true | .str _, .str _ => true | .byt _, .byt _ => true
  | .int _, .str _ => true | .str _, .int _ => true | .bl _, .str _ => true | .str _, .bl _ => true
  | _, _ => false
noncomputable def rEq : R2 := fun x y H Q => scal x y = true ∧ Q (.bl (decide (x = y))) H
noncomputable def rNe : R2 := fun x y H Q => scal x y = true ∧ Q (.bl (!decide (x = y))) H

theorem dec_int {i j : Int} : decide (V.int i = V.int j) = (i == j) := by
  rw [Bool.eq_iff_iff]
  simp
theorem dec_bl {i j : Bool} : decide (V.bl i = V.bl j) = (i == j) := by
  rw [Bool.eq_iff_iff]
  simp
theorem dec_str {i j : Str} : decide (V.str i = V.str j) = (i == j) := by
  rw [Bool.eq_iff_iff]
  simp
theorem dec_byt {i j : Array UInt8} : decide (V.byt i = V.byt j) = (i.toList == j.toList) := by
  rw [Bool.eq_iff_iff]
  cases i
  cases j
  simp

section
variable {X : Cx} {a b c : Expr} {ta tb tc : TE} {pos : Pos}
theorem fin_bl {pins : List (Addr × Obj)} {σ : St} {H : Hp} {s : Shared} {Q : VK} {k k' : Bool} (I : Inv X pins σ H s) (q : Q (.bl k) H) (e : k = k') : EP X pins σ Q (.bool k') s := by
  subst e
  exact ⟨.bl k, H, I, rfl, q⟩
theorem op_eq : OpR X (compareOp .Eq) rEq := by
  intro pins s σ H x y v u Q I rx ry h
  obtain ⟨hs, q⟩ := h
  cases x with
  | non =>
    cases rx
    cases y with
    | non => cases ry; exact PySem.EqNone.eq_none_none (fin_bl I q (by simp))
    | bl j => cases ry; exact PySem.EqNone.eq_none_bool (fin_bl I q (by simp))
    | int j => obtain ⟨t', rfl⟩ := ry; exact PySem.EqNone.eq_none_int (fin_bl I q (by simp))
    | str j => obtain ⟨t', rfl⟩ := ry; exact PySem.EqNone.eq_none_str (fin_bl I q (by simp))
    | _ => exact absurd (show false = true from hs) Bool.false_ne_true
  | bl i =>
    cases rx
    cases y with
    | non => cases ry; exact PySem.EqNone.eq_bool_none (fin_bl I q (by simp))
    | bl j => cases ry; exact eq_bool (fin_bl I q dec_bl)
    | str j => obtain ⟨t', rfl⟩ := ry; exact PySem.EqMixed.eq_bool_str (fin_bl I q (by simp))
    | _ => exact absurd (show false = true from hs) Bool.false_ne_true
  | int i =>
    obtain ⟨t, rfl⟩ := rx
    cases y with
    | non => cases ry; exact PySem.EqNone.eq_int_none (fin_bl I q (by simp))
    | int j => obtain ⟨t', rfl⟩ := ry; exact eq_int (fin_bl I q dec_int)
    | str j => obtain ⟨t', rfl⟩ := ry; exact PySem.EqMixed.eq_int_str (fin_bl I q (by simp))
    | _ => exact absurd (show false = true from hs) Bool.false_ne_true
  | str i =>
    obtain ⟨t, rfl⟩ := rx
    cases y with
    | non => cases ry; exact PySem.EqNone.eq_str_none (fin_bl I q (by simp))
    | bl j => cases ry; exact PySem.EqMixed.eq_str_bool (fin_bl I q (by simp))
    | int j => obtain ⟨t', rfl⟩ := ry; exact PySem.EqMixed.eq_str_int (fin_bl I q (by simp))
    | str j => obtain ⟨t', rfl⟩ := ry; exact eq_str (fin_bl I q dec_str)
    | _ => exact absurd (show false = true from hs) Bool.false_ne_true
  | byt i =>
    obtain ⟨t, rfl⟩ := rx
    cases y with
    | byt j => obtain ⟨t', rfl⟩ := ry; exact PySem.W.eq_bytes (fin_bl I q dec_byt)
    | _ => exact absurd (show false = true from hs) Bool.false_ne_true
  | _ => cases y <;> exact absurd (show false = true from hs) Bool.false_ne_true
theorem op_ne : OpR X (compareOp .NotEq) rNe := by
  intro pins s σ H x y v u Q I rx ry h
  obtain ⟨hs, q⟩ := h
  cases x with
  | non =>
    cases rx
    cases y with
    | non => cases ry; exact PySem.EqNone.ne_none_none (fin_bl I q (by simp))
    | bl j => cases ry; exact PySem.EqNone.ne_none_bool (fin_bl I q (by simp))
    | int j => obtain ⟨t', rfl⟩ := ry; exact PySem.EqNone.ne_none_int (fin_bl I q (by simp))
    | str j => obtain ⟨t', rfl⟩ := ry; exact PySem.EqNone.ne_none_str (fin_bl I q (by simp))
    | _ => exact absurd (show false = true from hs) Bool.false_ne_true
  | bl i =>
    cases rx
    cases y with
    | non => cases ry; exact PySem.EqNone.ne_bool_none (fin_bl I q (by simp))
    | bl j => cases ry; exact ne_bool (fin_bl I q (congrArg not dec_bl))
    | str j => obtain ⟨t', rfl⟩ := ry; exact PySem.EqMixed.ne_bool_str (fin_bl I q (by simp))
    | _ => exact absurd (show false = true from hs) Bool.false_ne_true
  | int i =>
    obtain ⟨t, rfl⟩ := rx
    cases y with
    | non => cases ry; exact PySem.EqNone.ne_int_none (fin_bl I q (by simp))
    | int j => obtain ⟨t', rfl⟩ := ry; exact ne_int (fin_bl I q (congrArg not dec_int))
    | str j => obtain ⟨t', rfl⟩ := ry; exact PySem.EqMixed.ne_int_str (fin_bl I q (by simp))
    | _ => exact absurd (show false = true from hs) Bool.false_ne_true
  | str i =>
    obtain ⟨t, rfl⟩ := rx
    cases y with
    | non => cases ry; exact PySem.EqNone.ne_str_none (fin_bl I q (by simp))
    | bl j => cases ry; exact PySem.EqMixed.ne_str_bool (fin_bl I q (by simp))
    | int j => obtain ⟨t', rfl⟩ := ry; exact PySem.EqMixed.ne_str_int (fin_bl I q (by simp))
    | str j => obtain ⟨t', rfl⟩ := ry; exact ne_str (fin_bl I q (congrArg not dec_str))
    | _ => exact absurd (show false = true from hs) Bool.false_ne_true
  | byt i =>
    obtain ⟨t, rfl⟩ := rx
    cases y with
    | byt j => obtain ⟨t', rfl⟩ := ry; exact PySem.W.ne_bytes (fin_bl I q (congrArg not dec_byt))
    | _ => exact absurd (show false = true from hs) Bool.false_ne_true
  | _ => cases y <;> exact absurd (show false = true from hs) Bool.false_ne_true

theorem op_lt : OpR X (compareOp .Lt) (rI0 fun i j => .bl (decide (i < j))) := opB0 fun _ _ _ _ _ _ _ q => lt_int q
theorem op_le : OpR X (compareOp .LtE) (rI0 fun i j => .bl (decide (i ≤ j))) := opB0 fun _ _ _ _ _ _ _ q => le_int q
theorem op_gt : OpR X (compareOp .Gt) (rI0 fun i j => .bl (decide (j < i))) := opB0 fun _ _ _ _ _ _ _ q => gt_int q
theorem op_ge : OpR X (compareOp .GtE) (rI0 fun i j => .bl (decide (j ≤ i))) := opB0 fun _ _ _ _ _ _ _ q => ge_int q
theorem nomark (b : Expr) {op : CmpOp} (h : op ≠ .In := by decide) (h2 : op ≠ .NotIn := by decide) : behindInMarks op b = false := by
  have e1 : (op == CmpOp.In) = false := by cases op <;> first | rfl | exact absurd rfl h
  have e2 : (op == CmpOp.NotIn) = false := by cases op <;> first | rfl | exact absurd rfl h2
  cases b <;> simp [behindInMarks, e1, e2]
theorem pe_cmpR {op : CmpOp} {r : R2} (ho : OpR X (compareOp op) r) (ha : PE X a ta) (hb : PE X b tb) (hm : behindInMarks op b = false) : PE X (.Compare a [op] [b] pos) (tOp r ta tb) := by
  intro pins s σ H Q I h
  exact wpAny_Compare1 (binT ha hb I h fun v u s2 x y H2 I2 rx ry q => ho pins s2 σ H2 x y v u Q I2 rx ry q) hm
inductive IsBl (Q : Bool → Hp → Prop) (x : V) (H : Hp) : Prop
  | mk (k : Bool) : x = .bl k → Q k H → IsBl Q x H
noncomputable def tTest (t : TE) : TT := fun σ H Q => t σ H (IsBl Q)
theorem pt_cmpR {op : CmpOp} {r : R2} (ho : OpR X (compareOp op) r) (ha : PE X a ta) (hb : PE X b tb) (hm : behindInMarks op b = false) : PT X (.Compare a [op] [b] pos) (tTest (tOp r ta tb)) := by
  intro pins s σ H Q I h
  refine wpAny_isTrue_Compare1 (thnE (ha pins s σ H _ I h) fun v s1 x H1 I1 r1 q1 => thnE (hb pins s1 σ H1 _ I1 q1) fun u s2 y H2 I2 r2 q2 =>
    thnE (ho pins s2 σ H2 x y v u _ I2 r1 r2 q2) fun c s3 z H3 I3 r3 ⟨k, e, q3⟩ => ?_) hm
  subst e
  cases r3
  exact wpAny_truthy_bool ⟨H3, I3, q3⟩
noncomputable def tChain (r r' : R2) (ta tb tc : TE) : TE := fun σ H Q => ta σ H fun x H1 => tb σ H1 fun y H2 => r x y H2 fun z H3 => ∃ k, z = .bl k ∧
  (if k = true then tc σ H3 fun w' H4 => r' y w' H4 Q else Q (.bl false) H3)
theorem pe_chain {op op' : CmpOp} {r r' : R2} (ho : OpR X (compareOp op) r) (ho' : OpR X (compareOp op') r') (ha : PE X a ta) (hb : PE X b tb) (hc : PE X c tc)
    (hm : lastMarks [op, op'] [b, c] = false := by with_unfolding_all rfl) : PE X (.Compare a [op, op'] [b, c] pos) (tChain r r' ta tb tc) := by
  intro pins s σ H Q I h
  refine Compare_chain (thnE (ha pins s σ H _ I h) fun v s1 x H1 I1 r1 q1 => chain_link (thnE (hb pins s1 σ H1 _ I1 q1) fun u s2 y H2 I2 r2 q2 =>
    thnE (ho pins s2 σ H2 x y v u _ I2 r1 r2 q2) fun d s3 z H3 I3 r3 ⟨k, e, q3⟩ => ?_)) hm
  subst e
  cases r3
  refine wpAny_truthy_bool ?_
  cases k with
  | false => exact ite_ff ⟨.bl false, H3, I3, rfl, q3⟩
  | true => exact ite_tt (chain_last (thnE (hc pins s3 σ H3 _ I3 q3) fun w' s4 z' H4 I4 r4 q4 => ho' pins s4 σ H4 y z' u w' Q I4 r2 r4 q4))
theorem pt_chain {op op' : CmpOp} {r r' : R2} (ho : OpR X (compareOp op) r) (ho' : OpR X (compareOp op') r') (ha : PE X a ta) (hb : PE X b tb) (hc : PE X c tc)
    (hm : lastMarks [op, op'] [b, c] = false := by with_unfolding_all rfl) : PT X (.Compare a [op, op'] [b, c] pos) (tTest (tChain r r' ta tb tc)) := by
  intro pins s σ H Q I h
  refine isTrue_chain (thnE (ha pins s σ H _ I h) fun v s1 x H1 I1 r1 q1 => test_link (thnE (hb pins s1 σ H1 _ I1 q1) fun u s2 y H2 I2 r2 q2 =>
    thnE (ho pins s2 σ H2 x y v u _ I2 r1 r2 q2) fun d s3 z H3 I3 r3 ⟨k, e, q3⟩ => ?_)) hm
  subst e
  cases r3
  refine wpAny_truthy_bool ?_
  cases k with
  | false =>
    obtain ⟨k', e', q'⟩ := q3
    cases e'
    exact ite_ff ⟨H3, I3, q'⟩
  | true =>
    refine ite_tt (test_last (thnE (hc pins s3 σ H3 _ I3 q3) fun w' s4 z' H4 I4 r4 q4 => thnE (ho' pins s4 σ H4 y z' u w' _ I4 r2 r4 q4) fun d' s5 z2 H5 I5 r5 ⟨k2, e2, q5⟩ => ?_))
    subst e2
    cases r5
    exact wpAny_truthy_bool ⟨H5, I5, q5⟩

theorem line63 : (sizeLine : Nat) < 2 ^ 63 := by rw [sizeLine_eq]; decide
theorem vals1 {x : V} {us : List Value} (r : Vals [x] us) : ∃ u, us = [u] ∧ RelV x u := by
  cases r with
  | cons r1 r2 => cases r2; exact ⟨_, rfl, r1⟩
theorem vals2 {x y : V} {us : List Value} (r : Vals [x, y] us) : ∃ u w', us = [u, w'] ∧ RelV x u ∧ RelV y w' := by
  cases r with
  | cons r1 r2 =>
    cases r2 with
    | cons r3 r4 => cases r4; exact ⟨_, _, rfl, r1, r3⟩
theorem call_abs : CallR X (.builtin "abs") (fun xs H Q => ∃ i, xs = [.int i] ∧ Q (.int (if i < 0 then -i else i)) H) := by
  intro pins s σ H xs us Q I r h
  obtain ⟨i, rfl, q⟩ := h
  obtain ⟨u, rfl, t, rfl⟩ := vals1 r
  exact call_abs_int fun u tk => ⟨.int (if i < 0 then -i else i), H, I.tok _, ⟨_, rfl⟩, q⟩
theorem call_max2 (hc : X.calm = true) : CallR X (.builtin "max") (fun xs H Q => ∃ i j, xs = [.int i, .int j] ∧ Q (.int (if j > i then j else i)) H) := by
  intro pins s σ H xs us Q I r h
  obtain ⟨i, j, rfl, q⟩ := h
  obtain ⟨u, w', rfl, ⟨t, rfl⟩, ⟨t', rfl⟩⟩ := vals2 r
  refine max_two_ints (I.ok.hd hc) fun h' tk k => ⟨_, H, I.kept k, ?_, q⟩
  by_cases hj : j > i
  · rw [if_pos hj, if_pos hj]; exact ⟨_, rfl⟩
  · rw [if_neg hj, if_neg hj]; exact ⟨_, rfl⟩
theorem call_min2 (hc : X.calm = true) : CallR X (.builtin "min") (fun xs H Q => ∃ i j, xs = [.int i, .int j] ∧ Q (.int (if j < i then j else i)) H) := by
  intro pins s σ H xs us Q I r h
  obtain ⟨i, j, rfl, q⟩ := h
  obtain ⟨u, w', rfl, ⟨t, rfl⟩, ⟨t', rfl⟩⟩ := vals2 r
  refine min_two_ints (I.ok.hd hc) fun h' tk k => ⟨_, H, I.kept k, ?_, q⟩
  by_cases hj : j < i
  · rw [if_pos hj, if_pos hj]; exact ⟨_, rfl⟩
  · rw [if_neg hj, if_neg hj]; exact ⟨_, rfl⟩
end
end L2

namespace L2
open PySem PySem.Spec PyProof.Rows

structure ObjM (h : Heap) (x dx C : Addr) (mA : Str → Option Value) : Prop where
  obj : h.get? x = some (PySem.W.instObj C dx)
  ns : h.Ns1 dx mA
  ne : dx ≠ x

theorem lookIn_ns {h : Heap} {dx : Addr} {mA : Str → Option Value} (n : h.Ns1 dx mA) : ∃ od, h.get? dx = some od ∧ ∀ name, PySem.W.lookIn name od = some (mA name) := by
  obtain ⟨o, es, ep, ho, hd, hk, _, hm⟩ := n
  refine ⟨o, ho, fun name => ?_⟩
  have e := hm name
  unfold nsFind findBy at e
  rw [← Array.find?_toList] at e
  unfold PySem.W.lookIn
  rw [hd]
  dsimp only
  split
  · rename_i y q
    rw [q] at e
    exact congrArg some e
  · rename_i q
    rw [q] at e
    have a : es.toList.any (·.refKey) = false := by
      rw [List.any_eq_false]
      intro y hy
      obtain ⟨z, t, hkey⟩ := hk y (Array.mem_toList_iff.mp hy)
      simp [DictEntry.refKey, hkey]
    have a' : ¬ es.toList.any (·.refKey) = true := by rw [a]; exact Bool.false_ne_true
    rw [if_neg a']
    exact congrArg some e

theorem ObjM.look {h : Heap} {x dx C : Addr} {mA : Str → Option Value} (I : ObjM h x dx C mA) : ∃ od, PySem.W.InstAt h x (PySem.W.instObj C dx) C (some od) ∧ ∀ name, PySem.W.lookIn name od = some (mA name) :=
  let ⟨od, ho, hl⟩ := lookIn_ns I.ns
  ⟨od, ⟨I.obj, rfl, rfl, ho⟩, hl⟩

section
variable {prog : Program} {w : World} {A : Around} {E : Value → Shared → Prop} {s : Shared} {K : PySem.W.Frag} {x dx C f : Addr} {mA : Str → Option Value} {name : Str} {v : Value}

end

theorem RelO.some_of {v : V} {o : Option Value} (r : RelO (some v) o) : ∃ u, o = some u ∧ RelV v u := by
  cases o with
  | none => exact (show False from r).elim
  | some u => exact ⟨u, rfl, r⟩
section
variable {P : Program} {w : World} {H H' : Hp} {h h' : Heap} {a C dx : Addr} {fs fs' : List (Str × V)}
theorem ins_get (hok : HOk P w H h) (e : H a = some (.ins C dx fs)) : ∃ mA, ObjM h a dx C mA ∧ (∀ f, RelO (fs.lookup f) (mA f)) ∧ PySem.Within mA (fs.map (·.1)) ∧ fs.length ≤ 1000 ∧ H dx = some (.own a) := by
  obtain ⟨d, z, ne, ob, mA, n, r, q⟩ := (show ObjOk P w H h a (.ins C dx fs) from hok a _ e)
  exact ⟨mA, ⟨ob, n, ne⟩, r, q, z, d⟩
end

structure Cls (K : PySem.W.Frag) (C : Addr) : Prop where
  pg : PySem.W.plainGet K C Str.empty = true
  hd : PySem.W.hasDictIn K C = true
  po : PySem.W.plainOver K C = true
  sa : PySem.W.findIn K (.ref C) "__setattr__" = some (some (.builtin "object.__setattr__"))
theorem Cls.get {K : PySem.W.Frag} {C : Addr} (c : Cls K C) (f : Str) : PySem.W.plainGet K C f = true := c.pg
section
variable {X : Cx} {pins : List (Addr × Obj)} {σ : St} {H : Hp} {s : Shared} {a C dx : Addr} {fs : List (Str × V)} {f : Str} {v : V} {A : Around} {E : Value → Shared → Prop}

end

section
variable {X : Cx} {o e value : Expr} {f : Str} {pos pos' tpos : Pos} {ta tv : TE}
end

section
variable {X : Cx} {pins : List (Addr × Obj)} {σ : St} {H : Hp} {s : Shared} {A : Around} {E : Value → Shared → Prop} {Q : Value → Shared → Prop} {c : Value} {b : Bool}
inductive TyOf (K : PySem.W.Frag) (H : Hp) : V → Value → Prop where
  | non : TyOf K H .non (.type "NoneType")
  | bl (x : Bool) : TyOf K H (.bl x) (.type "bool")
  | int (i : Int) : TyOf K H (.int i) (.type "int")
  | str (x : Str) : TyOf K H (.str x) (.type "str")
  | flt (x : UInt64) : TyOf K H (.flt x) (.type "float")
  | lst {a : Addr} {xs : List V} (e : H a = some (.lst xs)) : TyOf K H (.ref a) (.type "list")
  | frz {a : Addr} {o : Obj} {xs : List V} (e : H a = some (.frz o (.lst xs))) : TyOf K H (.ref a) (.type "list")
  | tup {a : Addr} {xs : List V} (e : H a = some (.tup xs)) : TyOf K H (.ref a) (.type "tuple")
  | dK {a : Addr} {kvs : List (Key × V)} (e : H a = some (.dK kvs)) : TyOf K H (.ref a) (.type "dict")
  | dT {a : Addr} {kvs : List (List Key × V)} (e : H a = some (.dT kvs)) : TyOf K H (.ref a) (.type "dict")
  | ins {a C dx : Addr} {fs : List (Str × V)} (e : H a = some (.ins C dx fs)) (cl : Cls K C) (ha : PySem.W.findIn K (.ref C) "__class__" = some (some (.builtin "object.__class__")))
      (hn : PySem.W.specialIn K (.builtin "object.__class__") "__get__" = some (some (.builtin "getset_descriptor.__get__"))) (htk : PySem.W.takesIn K (.builtin "object.__class__") = some true)
      (hm : PySem.W.mroIn K C (.type "object") = some true) : TyOf K H (.ref a) (.ref C)
theorem isinst_ok {x : V} {u t : Value} (I : Inv X pins σ H s) (rx : RelV x u) (ty : TyOf X.K H x t) (e : PySem.W.kitOne X.K t c = some b) (h : ∀ tk, Q (.bool b) { s with toks := tk }) :
    wpAny (model X.prog X.w) A (call (.builtin "isinstance") [u, c]) Q E s := by
  cases ty with
  | non => cases (show u = Value.none from rx); exact PySem.W.kia_one PySem.W.kitx_none I.kIn True.intro e (fun z => nomatch z) h
  | bl y => cases (show u = Value.bool y from rx); exact PySem.W.kia_one PySem.W.kitx_bool I.kIn True.intro e (fun z => nomatch z) h
  | int i => obtain ⟨t, q⟩ := (show ∃ t, u = Value.int i t from rx); cases q; exact PySem.W.kia_one PySem.W.kitx_int I.kIn True.intro e (fun z => nomatch z) h
  | str y => obtain ⟨t, q⟩ := (show ∃ t, u = Value.str y t from rx); cases q; exact PySem.W.kia_one PySem.W.kitx_str I.kIn True.intro e (fun z => nomatch z) h
  | flt y => obtain ⟨t, q⟩ := (show ∃ t, u = Value.float y t from rx); cases q; exact PySem.W.kia_one PySem.W.kitx_float I.kIn True.intro e (fun z => nomatch z) h
  | @lst a xs ea =>
    cases (show u = Value.ref a from rx)
    obtain ⟨_, _, n, _, h1⟩ := (show ObjOk X.prog X.w H s.heap a (.lst xs) from I.hok a _ ea)
    exact PySem.W.kia_one PySem.W.kitx_list I.kIn ⟨_, h1, rfl⟩ e (fun z => nomatch z) h
  | @frz a ob xs ea =>
    cases (show u = Value.ref a from rx)
    obtain ⟨_, _, _, n, _, h1⟩ := (show ObjOk X.prog X.w H s.heap a (.frz ob (.lst xs)) from I.hok a _ ea)
    exact PySem.W.kia_one PySem.W.kitx_list I.kIn ⟨_, h1, rfl⟩ e (fun z => nomatch z) h
  | @tup a xs ea =>
    cases (show u = Value.ref a from rx)
    obtain ⟨_, _, _, p⟩ := (show ObjOk X.prog X.w H s.heap a (.tup xs) from I.hok a _ ea)
    obtain ⟨o, h1, h2, _⟩ := p
    exact PySem.W.kia_one PySem.W.kitx_tuple I.kIn ⟨o, h1, h2⟩ e (fun z => nomatch z) h
  | @dK a kvs ea =>
    cases (show u = Value.ref a from rx)
    obtain ⟨_, _, vs, _, p⟩ := (show ObjOk X.prog X.w H s.heap a (.dK kvs) from I.hok a _ ea)
    obtain ⟨o, es, ep, h1, h2, _⟩ := p
    exact PySem.W.kia_one PySem.W.kitx_dict I.kIn ⟨o, h1, h2.1⟩ e (fun z => nomatch z) h
  | @dT a kvs ea =>
    cases (show u = Value.ref a from rx)
    obtain ⟨_, _, xs, _, o, es, ep, h1, h2, _⟩ := (show ObjOk X.prog X.w H s.heap a (.dT kvs) from I.hok a _ ea)
    exact PySem.W.kia_one PySem.W.kitx_dict I.kIn ⟨o, h1, h2.1⟩ e (fun z => nomatch z) h
  | @ins a C dx fs ea cl ha hn htk hm =>
    cases (show u = Value.ref a from rx)
    obtain ⟨mA, O, _⟩ := ins_get I.hok ea
    obtain ⟨od, J, _⟩ := O.look
    exact PySem.W.kia_one (PySem.W.kitx_own (cl.get _) cl.hd ha hn htk hm) I.kIn J e (fun z => nomatch z) h
end
end L2

namespace L2
open PySem PySem.Spec PyProof.Rows

structure Room (k : Nat) (A : Around) : Prop where
  hd : A.handled = none
  dp : A.depth + 3 * k + 5 < recursionLimit
  un : A.units + 16 * k + 200 < cLine
  gd : A.guards = some []
theorem Room.mono {j k : Nat} {A : Around} (r : Room k A) (h : j ≤ k) : Room j A := ⟨r.hd, by have := r.dp; lia, by have := r.un; lia, r.gd⟩
theorem Room.deeper {k : Nat} {A : Around} (r : Room (k + 1) A) (env : Env) : Room k (A.deeper env) :=
  ⟨r.hd, by have := r.dp; show A.depth + 1 + 3 * k + 5 < _; lia, by have := r.un; show A.units + 3 + 16 * k + 200 < _; lia, r.gd⟩
theorem Room.depth {k : Nat} {A : Around} (r : Room k A) : A.depth < recursionLimit := by have := r.dp; lia
theorem Room.units {k : Nat} {A : Around} (r : Room k A) : A.units + 64 < cLine := by have := r.un; lia
noncomputable def tNil : TA := fun _ H Q => Q [] H
noncomputable def tCons (ta : TE) (tr : TA) : TA := fun σ H Q => ta σ H fun x H1 => tr σ H1 fun xs H2 => Q (x :: xs) H2
section
variable {X : Cx} {e : Expr} {es : List Expr} {te : TE} {t : TA} {pos : Pos}
theorem pa_nil : PA X [] tNil := fun _ _ _ _ H Q I h => Calls.spliced_nil ⟨[], H, I, .nil, h⟩
theorem pa_cons (ha : PE X e te) (hr : PA X es t) (hs : starEach (e :: es) X.env = (false, eval e X.env) :: starEach es X.env := by rfl) : PA X (e :: es) (tCons te t) := by
  intro pos pins s σ H Q I h
  rw [hs]
  show wpAny _ _ (spliced ((false, eval e X.env) :: backTo pos (starEach es X.env))) _ _ s
  refine Calls.spliced_cons (thnE (ha pins s σ H _ I h) fun u s1 x H1 I1 r1 q1 => ?_)
  exact thnE (hr pos pins s1 σ H1 _ I1 q1) fun us s2 xs H2 I2 r2 q2 => ⟨x :: xs, H2, I2, .cons r1 r2, q2⟩

noncomputable def tTup (t : TA) : TE := fun σ H Q => t σ H fun xs H1 => xs.length ≤ sizeLine ∧ ∀ p, H1 p = none → Q (.ref p) (upd H1 p (.tup xs))
noncomputable def tLst (t : TA) : TE := fun σ H Q => t σ H fun xs H1 => xs.length ≤ sizeLine ∧ ∀ p, H1 p = none → Q (.ref p) (upd H1 p (.lst xs))
theorem pe_tup {x1} (h : PA X es t) : PE X (.Tuple es x1 pos) (tTup t) := by
  intro pins s σ H Q I hq
  refine wpAny_Tuple_spliced (thnE (h pos pins s σ H _ I hq) fun us s1 xs H1 I1 r ⟨z, q⟩ => ⟨by rw [← r.length]; exact z, ?_⟩)
  have hf : H1 s1.heap.objs.size = none := I1.hok.fresh (Nat.le_refl _)
  refine ⟨.ref s1.heap.objs.size, upd H1 s1.heap.objs.size (.tup xs), I1.laid (t' := s1.toks) (fun b u e => Heap.get?_push_of_some _ e) (Nat.le_refl _) ?_, rfl, q _ hf⟩
  exact ⟨z, us, r, ⟨_, Heap.get?_push_size _ rfl, rfl, _, rfl⟩⟩
theorem pe_lst (h : PA X es t) : PE X (.List es pos) (tLst t) := by
  intro pins s σ H Q I hq
  refine wpAny_List_spliced (thnE (h pos pins s σ H _ I hq) fun us s1 xs H1 I1 r ⟨z, q⟩ => ⟨by rw [← r.length]; exact z, ?_⟩)
  have hf : H1 s1.heap.objs.size = none := I1.hok.fresh (Nat.le_refl _)
  refine ⟨.ref s1.heap.objs.size, upd H1 s1.heap.objs.size (.lst xs), I1.laid (t' := s1.toks) (fun b u e => Heap.get?_push_of_some _ e) (Nat.le_refl _) ?_, rfl, q _ hf⟩
  exact ⟨z, us, 0, r, Heap.get?_push_size _ rfl⟩
end

noncomputable abbrev Sp := List V → Hp → VK → XK → Prop
noncomputable abbrev CXT := List Env → Hp → Shared → XK → Value → Shared → Prop

structure Env0 (P : Program) (w : World) (K : PySem.W.Frag) (mg : Str → Option Value) (base : Heap) (A : Around) (outer : List Env) (s : Shared) (H : Hp) : Prop where
  frames : A.frames = some outer
  mod : Mod K mg base
  bs : ∀ b o, base.get? b = some o → s.heap.get? b = some o ∧ H b = none
  bsz : base.objs.size ≤ s.heap.objs.size
  funs : s.heap.FunFrames base outer
  frf : ∀ b ∈ frs outer, H b = none
  hok : HOk P w H s.heap
  bare : AllBare s.gens
noncomputable def CE (outer : List Env) (P : Program) (w : World) (H : Hp) (s : Shared) (Q : VK) (u : Value) (s' : Shared) : Prop :=
  ∃ v H', s'.os = s.os ∧ AllBare s'.gens ∧ Un (frs outer) [] H H' s.heap s'.heap ∧ HOk P w H' s'.heap ∧ RelV v u ∧ Q v H'
noncomputable def CR (CX : CXT) (outer : List Env) (P : Program) (w : World) (H : Hp) (s : Shared) (Q : VK) (E : XK) (r : Result) (s' : Shared) : Prop :=
  match r with
  | .ok (.ret u) => CE outer P w H s Q u s'
  | .ok _ => False
  | .error e => CX outer H s E e s'
structure FnOk (P : Program) (w : World) (K : PySem.W.Frag) (mg : Str → Option Value) (base : Heap) (CX : CXT) (k : Nat) (f : Addr) (fd : FuncData) (ps : List Str) (sp : Sp) : Prop where
  len : ∀ vs H Q E, sp vs H Q E → vs.length = ps.length
  run : ∀ (A : Around) (outer : List Env) (s : Shared) (H : Hp) (args : Args) (us : List Value) (vs : List V) (Q : VK) (E : XK), Room k A → Env0 P w K mg base A outer s H → BindsTo s fd args (ps.zip us) → Vals vs us → sp vs H Q E →
    codeAny (model P w) A (.call (.ref f) args) (CR CX outer P w H s Q E) s
section
variable {X : Cx} {pins : List (Addr × Obj)} {σ : St} {H : Hp} {s s' : Shared}
theorem Inv.env0 (I : Inv X pins σ H s) : Env0 X.prog X.w X.K X.mg X.base X.A X.stack s H :=
  ⟨I.ok.frames, I.ok.mod, I.bs, Nat.le_trans I.ok.bsz I.sz, I.stack, I.stkFree, I.hok, I.bare⟩
theorem Inv.after {Q : VK} {u : Value} (I : Inv X pins σ H s) (h : CE X.stack X.prog X.w H s Q u s') : EP X pins σ Q u s' := by
  obtain ⟨v, H', os, bare, un, hok, r, q⟩ := h
  obtain ⟨hh, g, d, t, os'⟩ := s'
  obtain rfl : os' = s.os := os
  exact ⟨v, H', I.call (h' := hh) (g' := g) (d' := d) (t' := t) (ch := []) un hok bare (fun b z => absurd z (by simp)), r, q⟩
end

noncomputable def tCall (sp : Sp) (dvs : List V) (E : XK) (t : TA) : TE := fun σ H Q => t σ H fun vs H1 => sp (vs ++ dvs) H1 Q E
noncomputable def Binds (K : PySem.W.Frag) (fd : FuncData) (ps : List Str) (ds : List Value) : Prop :=
  ∀ (s : Shared) (us : List Value), K.In s.heap → (us ++ ds).length = ps.length → BindsTo s fd ⟨us, []⟩ (ps.zip (us ++ ds))
theorem Binds.all {K : PySem.W.Frag} {fd : FuncData} {ps : List Str} (h : ∀ us : List Value, us.length = ps.length → bindArgs fd ⟨us, []⟩ = pure (ps.zip us)) : Binds K fd ps [] := fun s us _ hl => by
  rw [List.append_nil] at hl ⊢
  exact .of_eq (h us hl)

noncomputable def Passes (CX : CXT) (X : Cx) (E : XK) : Prop := ∀ (pins : List (Addr × Obj)) (σ : St) (H : Hp) (s : Shared) (e : Value) (s' : Shared), Inv X pins σ H s → CX X.stack H s E e s' → X.xe e s'

section
variable {X : Cx} {CX : CXT} {k : Nat} {f C : Addr} {fd : FuncData} {ps : List Str} {sp : Sp} {dvs : List V} {ds : List Value} {E : XK} {x m : Str} {p pos apos : Pos} {e o : Expr} {es : List Expr} {ta : TE} {t : TA}

theorem run_fn {pins : List (Addr × Obj)} {σ : St} {H : Hp} {s : Shared} {Q : VK} {us : List Value} {vs : List V} (F : FnOk X.prog X.w X.K X.mg X.base CX k f fd ps sp) (hr : Room k X.A) (hb : Binds X.K fd ps ds) (hd : Vals dvs ds) (hx : Passes CX X E)
    (I : Inv X pins σ H s) (r : Vals vs us) (h : sp (vs ++ dvs) H Q E) : wpAny (model X.prog X.w) X.A (call (.ref f) us) (EP X pins σ Q) X.xe s := by
  have r2 : Vals (vs ++ dvs) (us ++ ds) := r.append hd
  have hl : (us ++ ds).length = ps.length := by rw [← r2.length]; exact F.len _ _ _ _ h
  refine wpAny_call (codeAny_mono (F.run X.A X.stack s H ⟨us, []⟩ (us ++ ds) (vs ++ dvs) Q E hr I.env0 (hb s us I.kIn hl) r2 h) fun r s' hq => ?_)
  cases r with
  | error e => exact hx pins σ H s e s' I hq
  | ok fl =>
    cases fl with
    | ret u => exact I.after hq
    | next => exact False.elim hq
    | brk => exact False.elim hq
    | cont => exact False.elim hq

theorem pe_call (F : FnOk X.prog X.w X.K X.mg X.base CX k f fd ps sp) (hr : Room k X.A) (hg : Gl X x) (hm : X.mg x = some (.ref f)) (hk : PySem.W.keepIn X.K (.ref f) = true) (hb : Binds X.K fd ps ds) (hd : Vals dvs ds) (hx : Passes CX X E)
    (ha : PA X (e :: es) t) (hdb : (x == ("__debug__" : Str)) = false := by decide) (he : starEach (e :: es) X.env = (false, eval e X.env) :: starEach es X.env := by rfl) (hpl : (backTo pos (starEach es X.env)).any (·.1) = false := by rfl) :
    PE X (.Call (.Name x p) (e :: es) [] pos) (tCall sp dvs E t) := by
  intro pins s σ H Q I h
  refine wpAny_Call_Name_kw (ld_glob I hg hm ?_ hdb)
  refine PySem.W.callWith_K (h₀ := X.base) I.ok.mod.kin hk (thnE (ha pos pins s σ H _ I h) fun us s1 vs H1 I1 r q => ⟨I1.kIn, ?_⟩) he hpl
  exact run_fn F hr hb hd hx I1 r q
end

section
variable {X : Cx} {CX : CXT} {k : Nat} {f C : Addr} {fd : FuncData} {ps ks : List Str} {sp : Sp} {E : XK} {x m : Str} {p pos apos kpos : Pos} {e o : Expr} {es : List Expr} {kws : List Keyword} {te ta : TE} {t tk : TA} {nm : Option Str}
variable {g : List Value → List Value → List Value} {gV : List V → List V → List V}
end

structure FnScope (N P : List Str) (sc : Scope) : Prop where
  kind : sc.kind = .function
  co : sc.isCoroutine = false
  gen : sc.isGenerator = false
  nd : N.Nodup
  pre : N.take P.length = P
  par : ∀ x ∈ P, sc.names.lookup x = some .local ∨ sc.names.lookup x = some .cell
  nofree : ∀ y ∈ sc.names, y.2 ≠ .free

theorem bindL_out {kindOf : Str → Option NameKind} {x : Str} : ∀ {binds : List (Str × Value)} {m : Str → Option Value}, (∀ v, (x, v) ∉ binds) → bindL kindOf binds m x = m x
  | [], _, _ => rfl
  | (n, v) :: r, m, h => by
    unfold bindL
    rw [bindL_out fun w hw => h w (List.mem_cons_of_mem _ hw)]
    split
    · have : x ≠ n := by rintro rfl; exact h v List.mem_cons_self
      simp [this]
    · rfl
theorem bindC_out {kindOf : Str → Option NameKind} {x : Str} : ∀ {binds : List (Str × Value)} {m : Str → Option Value}, (∀ v, (x, v) ∉ binds) → bindC kindOf binds m x = m x
  | [], _, _ => rfl
  | (n, v) :: r, m, h => by
    unfold bindC
    rw [bindC_out fun w hw => h w (List.mem_cons_of_mem _ hw)]
    split
    · rfl
    · have : x ≠ n := by rintro rfl; exact h v List.mem_cons_self
      simp [this]
theorem bindL_get {kindOf : Str → Option NameKind} {x : Str} {v : Value} : ∀ {P : List Str} {vs : List Value} {i : Nat} {m : Str → Option Value}, P.Nodup → P[i]? = some x → vs[i]? = some v → kindOf x = some .local →
    bindL kindOf (P.zip vs) m x = some v
  | [], _, _, _, _, h, _, _ => by simp at h
  | _ :: _, [], _, _, _, _, h, _ => by simp at h
  | p :: P, w :: vs, 0, m, nd, h1, h2, hk => by
    simp at h1 h2; subst h1; subst h2
    show bindL kindOf ((p, w) :: P.zip vs) m p = _
    unfold bindL
    rw [bindL_out fun v hv => (List.nodup_cons.mp nd).1 (List.of_mem_zip hv).1, if_pos hk]
    simp
  | p :: P, w :: vs, i + 1, m, nd, h1, h2, hk => by
    show bindL kindOf ((p, w) :: P.zip vs) m x = _
    unfold bindL
    exact bindL_get (i := i) (List.nodup_cons.mp nd).2 (by simpa using h1) (by simpa using h2) hk
theorem bindC_get {kindOf : Str → Option NameKind} {x : Str} {v : Value} : ∀ {P : List Str} {vs : List Value} {i : Nat} {m : Str → Option Value}, P.Nodup → P[i]? = some x → vs[i]? = some v → kindOf x ≠ some .local →
    bindC kindOf (P.zip vs) m x = some v
  | [], _, _, _, _, h, _, _ => by simp at h
  | _ :: _, [], _, _, _, _, h, _ => by simp at h
  | p :: P, w :: vs, 0, m, nd, h1, h2, hk => by
    simp at h1 h2; subst h1; subst h2
    show bindC kindOf ((p, w) :: P.zip vs) m p = _
    unfold bindC
    rw [bindC_out fun v hv => (List.nodup_cons.mp nd).1 (List.of_mem_zip hv).1, if_neg hk]
    simp
  | p :: P, w :: vs, i + 1, m, nd, h1, h2, hk => by
    show bindC kindOf ((p, w) :: P.zip vs) m x = _
    unfold bindC
    exact bindC_get (i := i) (List.nodup_cons.mp nd).2 (by simpa using h1) (by simpa using h2) hk

noncomputable def start (N : List Str) (vs : List V) : St := vs.map some ++ List.replicate (N.length - vs.length) none

noncomputable def cxOf (CX : CXT) (P : Program) (w : World) (K : PySem.W.Frag) (mg : Str → Option Value) (base : Heap) (N : List Str) (qual : Str) (scope : Scope) (f : Addr) (cd : Value) (A : Around) (outer : List Env) (s : Shared) (H : Hp) (E : XK) : Cx where
  prog := P
  w := w
  K := K
  mg := mg
  base := base
  A := A.deeper (envOfC qual scope s.heap.objs.size f cd)
  N := N
  s₀ := s
  H₀ := H
  env := envOfC qual scope s.heap.objs.size f cd
  outer := outer
  stack := envOfC qual scope s.heap.objs.size f cd :: outer
  ex := []
  calm := true
  fn := fun _ => true
  pn := []
  xe := fun e s' => wpAny (model P w) (A.deeper (envOfC qual scope s.heap.objs.size f cd)) (leaving (envOfC qual scope s.heap.objs.size f cd) e) (fun _ s'' => CX outer H s E e s'') (fun e' s'' => CX outer H s E e' s'') s'

theorem cell_has {sc : Scope} {n : Nat} {x : Str} (h : sc.names.lookup x = some .cell) : ∃ c, (cellsFrom n sc.names []).lookup x = some c := by
  have q := PySem.W.cellsFrom_some sc.names n [] (.inl h)
  exact Option.isSome_iff_exists.mp q

theorem inv_start {CX : CXT} {P : Program} {w : World} {K : PySem.W.Frag} {mg : Str → Option Value} {base : Heap} {N ps : List Str} {qual : Str} {scope : Scope} {f : Addr} {cd : Value} {A : Around} {outer : List Env} {s s1 : Shared} {H : Hp} {E : XK} {us : List Value} {vs : List V}
    (S : FnScope N ps scope) (hd : A.handled = none) (e0 : Env0 P w K mg base A outer s H) (hl : vs.length = ps.length) (r : Vals vs us)
    (x : InCallC s s.heap.objs.size (bindL (envOfC qual scope s.heap.objs.size f cd).kindOf (ps.zip us) fun _ => none) (cellsFrom (s.heap.objs.size + 1) scope.names []) (bindC (envOfC qual scope s.heap.objs.size f cd).kindOf (ps.zip us) fun _ => none) s1) :
    Inv (cxOf CX P w K mg base N qual scope f cd A outer s H E) [] (start N vs) H s1 := by
  have hpl : ps.length ≤ N.length := by have := congrArg List.length S.pre; rw [List.length_take] at this; lia
  obtain ⟨h1, tk, rfl, hk⟩ := x.done
  have noA : ∀ b : Addr, b ∉ (cxOf CX P w K mg base N qual scope f cd A outer s H E).ex := fun b z => absurd (show b ∈ ([] : List Addr) from z) (by simp)
  refine ⟨⟨e0.mod, S.kind, rfl, rfl, Nat.le_refl _, fun y z c h1 h2 => ?_, fun y hy => ?_, fun y c _ h => ?_, fun _ => hd, Around.frames_deeper e0.frames, .inr ⟨rfl, rfl⟩, fun b z => absurd z (noA b), e0.bs, e0.bsz, fun b _ _ => noA b, fun b z => absurd z (noA b), e0.funs, e0.frf⟩,
    rfl, e0.bare, Un.kept hk, ⟨_, x.toInCall.ns, fun i y v h1 h2 h3 => ?_⟩, fun y c h => ⟨_, x.cell y c h⟩, e0.hok.fresh (Nat.le_refl _), fun y c h => ?_, fun p hp => absurd (show p ∈ ([] : List (Addr × Obj)) from hp) (by simp), e0.hok.kept hk, ?_⟩
  · exact name_of_addr x.apart (PySem.mem_of_lookup h1) (PySem.mem_of_lookup h2)
  · have hy : scope.names.lookup y = some .cell ∨ scope.names.lookup y = some .free := hy
    rcases hy with hy | hy
    · exact cell_has hy
    · exact absurd rfl (S.nofree _ (PySem.mem_of_lookup hy))
  · exact Nat.le_of_lt (x.above y c (PySem.mem_of_lookup h))
  · have hi : i < vs.length := by
      unfold start at h2
      by_cases hi : i < vs.length
      · exact hi
      · rw [List.getElem?_append_right (by simpa using hi)] at h2
        rw [List.getElem?_replicate] at h2
        split at h2 <;> cases h2
    have ha : vs[i]? = some v := by
      unfold start at h2
      rw [List.getElem?_append_left (by simpa using hi), List.getElem?_map] at h2
      cases e : vs[i]? with
      | none => rw [e] at h2; cases h2
      | some a => rw [e] at h2; cases h2; rfl
    obtain ⟨u, hu, rv⟩ := r.get ha
    have hp : ps[i]? = some y := by
      rw [← S.pre, List.getElem?_take_of_lt (by lia)]; exact h1
    have ndP : ps.Nodup := by rw [← S.pre]; exact S.nd.sublist (List.take_sublist _ _)
    refine ⟨u, rv, ?_⟩
    rcases S.par y (List.mem_of_getElem? hp) with k | k
    · exact .inl ⟨k, bindL_get ndP hp hu k⟩
    · obtain ⟨c, e⟩ := cell_has (n := s.heap.objs.size + 1) k
      refine .inr ⟨.inl k, c, e, ?_⟩
      have q := x.cell y c e
      rw [bindC_get ndP hp hu (by show scope.names.lookup y ≠ _; rw [k]; decide)] at q
      exact q
  · exact e0.hok.fresh (Nat.le_of_lt (x.above y c (PySem.mem_of_lookup h)))
  · unfold start
    show _ = N.length
    rw [List.length_append, List.length_map, List.length_replicate]
    lia

theorem fn_of {CX : CXT} {P : Program} {w : World} {K : PySem.W.Frag} {mg : Str → Option Value} {base : Heap} {k : Nat} {f : Addr} {name qual : Str} {params : Arguments} {body : List Stmt} {scope : Scope} {dV kV doc pm cdv ct oc : Value} {an od : Option Addr}
    {osl : Array (Option Value)} {N ps : List Str} {sp : Sp} (lk : K.lookup f = some ⟨oc, od, .func (PySem.W.fnOf name qual params body scope dV kV doc pm an cdv ct), osl⟩) (hcd : PySem.W.codeIn K cdv qual = true) (S : FnScope N ps scope)
    (len : ∀ vs H Q E, sp vs H Q E → vs.length = ps.length)
    (hbody : ∀ (A : Around) (outer : List Env) (s : Shared) (H : Hp) (vs : List V) (Q : VK) (E : XK), Room k (A.deeper (envOfC qual scope s.heap.objs.size f cdv)) → sp vs H Q E →
      ∃ t, PSs (cxOf CX P w K mg base N qual scope f cdv A outer s H E) body t ∧ t { nx := fun _ H' => Q .non H', rt := Q } (start N vs) H) :
    FnOk P w K mg base CX (k + 1) f (PySem.W.fnOf name qual params body scope dV kV doc pm an cdv ct) ps sp := by
  refine ⟨len, fun A outer s H args us vs Q E hr e0 hb r hsp => ?_⟩
  have hl := len _ _ _ _ hsp
  have KX : K.In s.heap := e0.mod.kin.keeps fun b o e => (e0.bs b o e).1
  have lim : s.heap.NoLimit := e0.mod.nolimit.keeps fun b o e => (e0.bs b o e).1
  have hkind : ∀ y ∈ ps.zip us, scope.names.lookup y.1 = some .local ∨ (scope.names.lookup y.1 = some .cell ∧ ((cellsFrom (s.heap.objs.size + 1) scope.names []).lookup y.1).isSome = true) := fun ⟨n, v⟩ hy => by
    rcases S.par n (List.of_mem_zip hy).1 with q | q
    · exact .inl q
    · exact .inr ⟨q, PySem.W.cellsFrom_some _ _ _ (.inl q)⟩
  refine codeAny_call_function hr.depth (KX _ _ lk) rfl S.co S.gen rfl (PySem.W.codeRec_of KX hcd) (hb _ _ _ _ ?_)
  refine wpAny_newFunctionEnv_cells S.kind hkind fun env he s1 x => ?_
  subst he
  refine ⟨lim.keeps x.toInCall.keep, codeAny_func ?_⟩
  obtain ⟨t, ht, hq⟩ := hbody A outer s H vs Q E (hr.deeper _) hsp
  have I : Inv (cxOf CX P w K mg base N qual scope f cdv A outer s H E) [] (start N vs) H s1 := inv_start S hr.hd e0 hl r x
  refine wpAny_mono (ht [] s1 (start N vs) H _ I hq) (fun fl s' hs => ?_) fun e s' hs => hs
  have fin : ∀ {σ' : St} {H' : Hp} {v : V} {u : Value}, Inv (cxOf CX P w K mg base N qual scope f cdv A outer s H E) [] σ' H' s' → RelV v u → Q v H' → CE outer P w H s Q u s' :=
    fun {σ' H' v u} J rv q => ⟨v, H', J.os, J.bare, J.base, J.hok, rv, q⟩
  cases fl with
  | ret u =>
    obtain ⟨v, σ', H', J, rv, q⟩ := hs
    exact fin J rv q
  | next =>
    obtain ⟨σ', H', J, q⟩ := hs
    exact fin (v := V.non) (u := Value.none) J rfl q
  | brk =>
    obtain ⟨_, _, _, q⟩ := hs
    exact False.elim q
  | cont =>
    obtain ⟨_, _, _, q⟩ := hs
    exact False.elim q
end L2

namespace L2
open PySem PySem.Spec PyProof.Rows
section
variable {X : Cx} {x : Str} {p pos : Pos} {e : Expr} {es : List Expr} {t : TA} {id T : String} {r : List V → Hp → VK → Prop}

noncomputable def tCB (r : List V → Hp → VK → Prop) (t : TA) : TE := fun σ H Q => t σ H fun vs H1 => r vs H1 Q
theorem pe_callB (hc : CallR X (.builtin id) r) (hg : Gl X x) (hm : X.mg x = none) (hv : bootBuiltins x = some (.builtin id)) (ha : PA X (e :: es) t) (hn : x ≠ "__name__" := by decide) (hdb : (x == ("__debug__" : Str)) = false := by decide)
    (he : starEach (e :: es) X.env = (false, eval e X.env) :: starEach es X.env := by rfl) (hpl : (backTo pos (starEach es X.env)).any (·.1) = false := by rfl) : PE X (.Call (.Name x p) (e :: es) [] pos) (tCB r t) := by
  intro pins s σ H Q I h
  refine wpAny_Call_Name_kw (ld_blt I hg hm hv ?_ hn hdb)
  exact PyProof.Rows.callWith_builtin1 (thnE (ha pos pins s σ H _ I h) fun us s1 vs H1 I1 r1 q1 => hc pins s1 σ H1 vs us Q I1 r1 q1) he hpl
theorem pe_callTy (hc : CallR X (.type T) r) (hg : Gl X x) (hm : X.mg x = none) (hv : bootBuiltins x = some (.type T)) (ha : PA X (e :: es) t) (hn : x ≠ "__name__" := by decide) (hdb : (x == ("__debug__" : Str)) = false := by decide)
    (he : starEach (e :: es) X.env = (false, eval e X.env) :: starEach es X.env := by rfl) (hpl : (backTo pos (starEach es X.env)).any (·.1) = false := by rfl) : PE X (.Call (.Name x p) (e :: es) [] pos) (tCB r t) := by
  intro pins s σ H Q I h
  refine wpAny_Call_Name_kw (ld_blt I hg hm hv ?_ hn hdb)
  exact PyProof.Rows.callWith_type1 (thnE (ha pos pins s σ H _ I h) fun us s1 vs H1 I1 r1 q1 => hc pins s1 σ H1 vs us Q I1 r1 q1) he hpl
end
end L2

namespace HT
open PySem PyProof.Rows

section
open PySem.SeqAt
open PySem.AutoSeq1 (wpAny_loadPart')
open PySem.MeetsSeq PySem.MeetsSeq2 PySem.MeetsSeq3

end

section
variable {prog : Program} {w : World} {A : Around} {E : Value → Shared → Prop} {s : Shared}

noncomputable def sIx (n d : Nat) : Option Int → Nat
  | none => d
  | some v => if v < 0 then (v + (n : Int)).toNat else min v.toNat n
theorem sIx_none (n d : Nat) : sIx n d none = d := rfl
theorem sIx_nat (n d k : Nat) : sIx n d (some (k : Int)) = min k n := by
  show (if (k : Int) < 0 then ((k : Int) + (n : Int)).toNat else min (k : Int).toNat n) = min k n
  rw [if_neg (by lia), Int.toNat_natCast]
end
end HT

namespace L2
open PySem PySem.Spec PyProof.Rows

noncomputable abbrev TO := St → Hp → (Option Int → Hp → Prop) → Prop
noncomputable def PO (X : Cx) (e : Option Expr) (t : TO) : Prop :=
  ∀ (pins : List (Addr × Obj)) (s : Shared) (σ : St) (H : Hp) (Q : Option Int → Hp → Prop), Inv X pins σ H s → t σ H Q →
    wpAny (model X.prog X.w) X.A (evalPart e X.env) (fun u s' => ∃ o H', Inv X pins σ H' s' ∧ IsPart u o ∧ Q o H') X.xe s
noncomputable def tNoPart : TO := fun _ H Q => Q none H
noncomputable def tPart (t : TE) : TO := fun σ H Q => t σ H fun x H1 => ∃ i, x = .int i ∧ Q (some i) H1

theorem intsAre_of {ns : List Int} : ∀ {us : List Value}, Vals (ns.map V.int) us → IntsAre us ns := by
  induction ns with
  | nil => intro us r; rw [List.map_nil] at r; cases r; exact .nil
  | cons n ns ih =>
    intro us r
    rw [List.map_cons] at r
    cases r with
    | cons r1 r2 =>
      obtain ⟨t, e⟩ := r1
      subst e
      exact .cons n t (ih r2)

section
variable {X : Cx} {e : Expr} {te : TE} {lo hi : Option Expr} {tl th : TO} {pos p2 : Pos}

theorem po_none : PO X none tNoPart := by
  intro pins s σ H Q I h
  rw [evalPart_none]
  exact wpAny_pure ⟨none, H, I, .none, h⟩
theorem po_some (h : PE X e te) : PO X (some e) (tPart te) := by
  intro pins s σ H Q I hw
  rw [evalPart_some]
  refine thnE (h pins s σ H _ I hw) fun u s1 x H1 I1 r1 q1 => ?_
  obtain ⟨i, rfl, q⟩ := q1
  obtain ⟨t, rfl⟩ := r1
  exact ⟨some i, H1, I1, .int i t, q⟩

noncomputable def SlR (X : Cx) (r : V → Option Int → Option Int → Hp → VK → Prop) : Prop :=
  ∀ (pins : List (Addr × Obj)) (s : Shared) (σ : St) (H : Hp) (x : V) (v vl vu : Value) (lo hi : Option Int) (sl : Addr) (Q : VK), Inv X pins σ H s → RelV x v → s.heap.IsSliceOf sl vl vu .none → IsPart vl lo → IsPart vu hi → r x lo hi H Q →
    ∃ T id, typeLookup (.type T) "__getitem__" = pure (some (.builtin id)) ∧ s.TypeIs v T ∧ wpAny (model X.prog X.w) X.A (getItem v (.ref sl)) (EP X pins σ Q) X.xe s
noncomputable def tSl (r : V → Option Int → Option Int → Hp → VK → Prop) (te : TE) (tl th : TO) : TE := fun σ H Q => te σ H fun x H1 => tl σ H1 fun l H2 => th σ H2 fun u H3 => r x l u H3 Q
theorem pe_slice {r : V → Option Int → Option Int → Hp → VK → Prop} (hr : SlR X r) (he : PE X e te) (hl : PO X lo tl) (hu : PO X hi th) : PE X (.Subscript e (.Slice lo hi none p2) pos) (tSl r te tl th) := by
  intro pins s σ H Q I h
  refine Subscript_ (thnE (he pins s σ H _ I h) fun v s1 x H1 I1 r1 q1 => ?_)
  refine wpAny_Slice (thnE (hl pins s1 σ H1 _ I1 q1) fun vl s2 l H2 I2 pl q2 => thnE (hu pins s2 σ H2 _ I2 q2) fun vu s3 u H3 I3 pu q3 => ?_)
  rw [evalPart_none]
  refine wpAny_pure ?_
  have I4 : Inv X pins σ H3 { s3 with heap := s3.heap.push { cls := .type "slice", data := .fields #[vl, vu, .none] } } := I3.kept (t' := s3.toks) fun b ob q => Heap.get?_push_of_some _ q
  obtain ⟨T, id, hT, ht, hg⟩ := hr pins { s3 with heap := s3.heap.push { cls := .type "slice", data := .fields #[vl, vu, .none] } } σ H3 x v vl vu l u s3.heap.objs.size Q I4 r1 (Heap.IsSliceOf.new ..) pl pu q3
  show wpAny (model X.prog X.w) X.A (subscriptTail e (.Slice lo hi none p2) v (.ref s3.heap.objs.size)) (EP X pins σ Q) X.xe { s3 with heap := s3.heap.push { cls := .type "slice", data := .fields #[vl, vu, .none] } }
  exact tail_any (ops := [.ref s3.heap.objs.size, v]) ht hT hg (by with_unfolding_all rfl)

noncomputable def cutV (xs : List V) (lo hi : Option Int) : List V := (xs.drop (HT.sIx xs.length 0 lo)).take (HT.sIx xs.length xs.length hi - HT.sIx xs.length 0 lo)
theorem cutV_length (xs : List V) (lo hi : Option Int) : (cutV xs lo hi).length ≤ xs.length := by
  unfold cutV
  rw [List.length_take, List.length_drop]
  lia
end
end L2

namespace L2
open PySem PySem.Spec PyProof.Rows

noncomputable def ixN (n : Nat) (i : Int) : Option Nat := if 0 ≤ i then (if i < n then some i.toNat else none) else if -(n : Int) ≤ i then some (i + n).toNat else none
noncomputable def atI {α : Type} (xs : List α) (i : Int) : Option α := (ixN xs.length i).bind fun j => xs[j]?
theorem ixN_seq {n : Nat} {i : Int} {j : Nat} (h : ixN n i = some j) : seqIndex? i n = some j ∧ j < n ∧ -(n : Int) ≤ i ∧ i < n := by
  unfold ixN at h
  by_cases h0 : 0 ≤ i
  · rw [if_pos h0] at h
    by_cases h1 : i < n
    · rw [if_pos h1] at h
      have e : i.toNat = j := Option.some.inj h
      exact ⟨by rw [seqIndex_of h0 h1, e], by lia, by lia, h1⟩
    · rw [if_neg h1] at h; cases h
  · rw [if_neg h0] at h
    by_cases h1 : -(n : Int) ≤ i
    · rw [if_pos h1] at h
      have e : (i + n).toNat = j := Option.some.inj h
      exact ⟨by rw [seqIndex_neg (by lia) h1, e], by lia, h1, by lia⟩
    · rw [if_neg h1] at h; cases h
theorem atI_get {α : Type} {xs : List α} {i : Int} {v : α} (h : atI xs i = some v) : ∃ j, seqIndex? i xs.length = some j ∧ xs[j]? = some v ∧ j < xs.length ∧ -(xs.length : Int) ≤ i ∧ i < xs.length := by
  unfold atI at h
  cases e : ixN xs.length i with
  | none => rw [e] at h; cases h
  | some j =>
    rw [e] at h
    obtain ⟨h1, h2, h3, h4⟩ := ixN_seq e
    exact ⟨j, h1, h, h2, h3, h4⟩
theorem atI_nat {α : Type} {xs : List α} {j : Nat} {v : α} (h : xs[j]? = some v) : atI xs (j : Int) = some v := by
  have hj : j < xs.length := (List.getElem?_eq_some_iff.mp h).1
  have e : ixN xs.length (j : Int) = some j := by
    unfold ixN
    rw [if_pos (by lia), if_pos (by lia)]; simp
  unfold atI; rw [e]; exact h
theorem atI_last {α : Type} (xs : List α) (v : α) : atI (xs ++ [v]) (-1) = some v := by
  have hl : (xs ++ [v]).length = xs.length + 1 := by simp
  have e : ixN (xs ++ [v]).length (-1) = some xs.length := by
    unfold ixN
    rw [hl, if_neg (by decide), if_pos (by lia)]
    congr 1
    lia
  unfold atI
  rw [e]
  show (xs ++ [v])[xs.length]? = some v
  simp

noncomputable def PlainIx (b : Expr) : Prop := ∀ o i, subscripted b false o i = operate [o, i] (getItem o i)
noncomputable def IxR (X : Cx) (r : R2) : Prop :=
  ∀ (value slice : Expr) (pins : List (Addr × Obj)) (s : Shared) (σ : St) (H : Hp) (x y : V) (v u : Value) (Q : VK), Inv X pins σ H s → RelV x v → RelV y u → r x y H Q →
    subscripted slice false v u = operate [v, u] (getItem v u) → wpAny (model X.prog X.w) X.A (subscriptTail value slice v u) (EP X pins σ Q) X.xe s
noncomputable def MtR (X : Cx) (id : String) (r : V → List V → Hp → VK → Prop) : Prop :=
  ∀ (pins : List (Addr × Obj)) (s : Shared) (σ : St) (H : Hp) (x : V) (xs : List V) (v : Value) (us : List Value) (Q : VK), Inv X pins σ H s → RelV x v → Vals xs us → r x xs H Q →
    wpAny (model X.prog X.w) X.A (call (.builtin id) (v :: us)) (EP X pins σ Q) X.xe s
section
variable {X : Cx} {a b : Expr} {ta tb : TE} {pos : Pos}
theorem pe_ix {r : R2} (hr : IxR X r) (ha : PE X a ta) (hb : PE X b tb) (hs : PlainIx b) : PE X (.Subscript a b pos) (tOp r ta tb) := by
  intro pins s σ H Q I h
  exact Subscript_ (binT ha hb I h fun v u s2 x y H2 I2 rx ry q => hr a b pins s2 σ H2 x y v u Q I2 rx ry q (hs _ _))

inductive rIxL (K : PySem.W.Frag) (x : V) (y : V) (H : Hp) (Q : VK) : Prop
  | mk : ∀ p xs i v, (x = .ref p) → (y = .int i) → (SqL K H p xs) → (atI xs i = some v) → (Q v H) → rIxL K x y H Q
inductive rIxT (K : PySem.W.Frag) (x : V) (y : V) (H : Hp) (Q : VK) : Prop
  | mk : ∀ p xs i v, (x = .ref p) → (y = .int i) → (SqT K H p xs) → (atI xs i = some v) → (Q v H) → rIxT K x y H Q
theorem ix_list : IxR X (rIxL X.K) := by
  intro value slice pins s σ H x y v u Q I rx ry h hs
  obtain ⟨p, xs, i, z, rfl, rfl, hq, he, q⟩ := h
  cases rx
  obtain ⟨t, rfl⟩ := ry
  obtain ⟨its, r, pl, hz⟩ := I.list hq
  obtain ⟨j, h1, h2, h3, h4, h5⟩ := atI_get he
  obtain ⟨w, ew, rw'⟩ := r.get h2
  have hl := r.length
  have hn := line63
  have fin : EP X pins σ Q w s := ⟨z, H, I, rw', q⟩
  by_cases h0 : 0 ≤ i
  · have hj : i.toNat = j := by
      rw [seqIndex_of h0 h5] at h1
      exact Option.some.inj h1
    exact item_listR pl.isList h0 (by lia) (by rw [hj]; simpa using ew) fin hs
  · have hj : (i + (its.toArray.size : Int)).toNat = j := by
      rw [seqIndex_neg (by lia) h4] at h1
      rw [List.size_toArray, ← hl]
      exact Option.some.inj h1
    exact subscriptTail_builtinR (x := w) pl.isList.typeIs slot_list_getitem.lookup
      (wpAny_getItem_list_neg (Q := fun r s' => r = w ∧ EP X pins σ Q r s') pl.isList (by lia) (by rw [List.size_toArray] <;> lia) (by lia) (by rw [hj]; simpa using ew) ⟨rfl, fin⟩) hs
theorem ix_tup : IxR X (rIxT X.K) := by
  intro value slice pins s σ H x y v u Q I rx ry h hs
  obtain ⟨p, xs, i, z, rfl, rfl, hq, he, q⟩ := h
  cases rx
  obtain ⟨t, rfl⟩ := ry
  obtain ⟨its, r, pl, hz⟩ := I.tuple hq
  obtain ⟨j, h1, h2, h3, h4, h5⟩ := atI_get he
  obtain ⟨w, ew, rw'⟩ := r.get h2
  have hl := r.length
  have hn := line63
  have fin : EP X pins σ Q w s := ⟨z, H, I, rw', q⟩
  exact subscriptTail_builtinR (x := w) pl.typeIs slot_tuple_getitem.lookup
    (getItem_tuple (j := j) (Q := fun r s' => r = w ∧ EP X pins σ Q r s') pl (by lia) (by lia) (by rw [List.size_toArray, ← hl]; exact h1) (by simpa using ew) ⟨rfl, fin⟩) hs
theorem mapSeq_set (its : List Value) (n j : Nat) (u : Value) : Obj.mapSeq (·.setIfInBounds j u) { cls := .type "list", data := .seq its.toArray n } = { cls := .type "list", data := .seq (its.set j u).toArray n } := by
  simp [Obj.mapSeq]
theorem Inv.lst {pins : List (Addr × Obj)} {σ : St} {H : Hp} {s : Shared} {p : Addr} {xs : List V} (I : Inv X pins σ H s) (h : H p = some (.lst xs)) :
    ∃ (its : List Value) (n : Nat), Vals xs its ∧ s.heap.get? p = some { cls := .type "list", data := .seq its.toArray n } ∧ xs.length ≤ sizeLine := by
  obtain ⟨z, its, n, r, e⟩ := I.hok p _ h
  exact ⟨its, n, r, e, z⟩
theorem Inv.lstUpd {pins : List (Addr × Obj)} {σ : St} {H : Hp} {s : Shared} {p : Addr} {xs ys : List V} {its its' : List Value} {n n' : Nat} {f : Obj → Obj} (I : Inv X pins σ H s) (h : H p = some (.lst xs))
    (ho : s.heap.get? p = some { cls := .type "list", data := .seq its.toArray n }) (hf : f { cls := .type "list", data := .seq its.toArray n } = { cls := .type "list", data := .seq its'.toArray n' }) (r : Vals ys its') (hz : ys.length ≤ sizeLine) (t : Nat) :
    Inv X pins σ (upd H p (.lst ys)) { s with heap := s.heap.update p f, toks := t } := by
  have e : (s.heap.update p f).get? p = some { cls := .type "list", data := .seq its'.toArray n' } := by
    rw [Heap.get?_update_self f ho (by rw [hf] <;> rfl), hf]
  refine I.write (x := p) (e := p) (by rw [h]; trivial) (.inl rfl) (fun b u hb q => (Heap.get?_update_other _ _ (Ne.symm hb)).trans q) ⟨_, e⟩ ?_
  exact ⟨hz, its', n', r, e⟩
inductive rSetL (o : V) (i : V) (v : V) (H : Hp) (Q : Hp → Prop) : Prop
  | mk : ∀ p xs k j, (o = .ref p) → (i = .int k) → (H p = some (.lst xs)) → (ixN xs.length k = some j) → (Q (upd H p (.lst (xs.set j v)))) → rSetL o i v H Q
theorem set_list : PSet X rSetL := by
  intro pins s σ H o i v ov iv u Q I ro ri rv h
  obtain ⟨p, xs, k, j, rfl, rfl, hp, hj, q⟩ := h
  cases ro
  obtain ⟨t, rfl⟩ := ri
  obtain ⟨its, n, r, ho, hz⟩ := I.lst hp
  obtain ⟨h1, h2, h3, h4⟩ := ixN_seq hj
  have hl := r.length
  have hn := line63
  have I' : Inv X pins σ (upd H p (.lst (xs.set j v))) { s with heap := s.heap.update p (Obj.mapSeq (·.setIfInBounds j u)) } :=
    I.lstUpd hp ho (mapSeq_set its n j u) (r.set rv j) (by rw [List.length_set]; exact hz) s.toks
  by_cases h0 : 0 ≤ k
  · have hk : k.toNat = j := by
      rw [seqIndex_of h0 h4] at h1
      exact Option.some.inj h1
    exact PySem.W.ki_setAt ho h0 (by lia) (by rw [List.size_toArray, ← hl]; exact h4) (by rw [hk]; exact ⟨_, I', q⟩)
  · have hk : (k + (its.toArray.size : Int)).toNat = j := by
      rw [seqIndex_neg (by lia) h3] at h1
      rw [List.size_toArray, ← hl]
      exact Option.some.inj h1
    exact PySem.W.ki_setBack ho (by lia) (by rw [List.size_toArray, ← hl]; exact h3) (by lia) (by rw [hk]; exact ⟨_, I', q⟩)

theorem slice_bounds (lo hi : Option Int) (n : Nat) : (sliceBounds lo hi none n).1 = ((HT.sIx n 0 lo : Nat) : Int) ∧ (sliceBounds lo hi none n).2.1 = ((HT.sIx n n hi : Nat) : Int) ∧ (sliceBounds lo hi none n).2.2 = 1 := by
  refine ⟨?_, ?_, rfl⟩
  · cases lo with
    | none => simp [sliceBounds, HT.sIx]
    | some i =>
      simp only [sliceBounds, HT.sIx, Option.getD_none, show (1 : Int) > 0 by decide, if_true]
      by_cases h : i < 0
      · simp only [h, if_true] <;> lia
      · simp only [h, if_false] <;> lia
  · cases hi with
    | none => simp [sliceBounds, HT.sIx]
    | some i =>
      simp only [sliceBounds, HT.sIx, Option.getD_none, show (1 : Int) > 0 by decide, if_true]
      by_cases h : i < 0
      · simp only [h, if_true] <;> lia
      · simp only [h, if_false] <;> lia
theorem slicePick_cut (its : List Value) (lo hi : Option Int) : slicePick its.toArray lo hi none = ((its.drop (HT.sIx its.length 0 lo)).take (HT.sIx its.length its.length hi - HT.sIx its.length 0 lo)).toArray := by
  obtain ⟨h1, h2, h3⟩ := slice_bounds lo hi its.toArray.size
  unfold slicePick
  rw [h1, h2, h3]
  simp only [sliceRange_one, pick_run, List.size_toArray] <;> rfl
inductive rSlL (K : PySem.W.Frag) (x : V) (lo : Option Int) (hi : Option Int) (H : Hp) (Q : VK) : Prop
  | mk : ∀ a xs, (x = .ref a) → (SqL K H a xs) → (∀ p, H p = none → Q (.ref p) (upd H p (.lst (cutV xs lo hi)))) → rSlL K x lo hi H Q
theorem sl_list : SlR X (rSlL X.K) := by
  intro pins s σ H x v vl vu lo hi sl Q I rx hs pl pu h
  obtain ⟨a, xs, rfl, hx, q⟩ := h
  cases rx
  obtain ⟨its, r, ht, hz⟩ := I.list hx
  have hlen := r.length
  refine ⟨"list", _, slot_list_getitem.lookup, ht.isList.typeIs, ?_⟩
  refine wpAny_getItem_list_slice ht.isList hs pl pu .none (by simp) ?_ (by rw [List.size_toArray] <;> lia)
  rw [slicePick_cut, ← hlen]
  refine ⟨.ref s.heap.objs.size, _, I.laid (t' := s.toks) (o := .lst (cutV xs lo hi)) (fun b ob q => Heap.get?_push_of_some _ q) (Nat.le_refl _) ?_, rfl, q _ (I.hok.fresh (Nat.le_refl _))⟩
  exact ⟨Nat.le_trans (cutV_length xs lo hi) hz, _, 0, (r.drop (HT.sIx xs.length 0 lo)).take (HT.sIx xs.length xs.length hi - HT.sIx xs.length 0 lo), Heap.get?_push_size _ rfl⟩

theorem call_len_seq : CallR X (.builtin "len") (fun xs H Q => ∃ p ys, xs = [.ref p] ∧ (SqL X.K H p ys ∨ SqT X.K H p ys) ∧ Q (.int ys.length) H) := by
  intro pins s σ H xs us Q I r h
  obtain ⟨p, ys, rfl, hq, q⟩ := h
  obtain ⟨u, rfl, rx⟩ := vals1 r
  cases rx
  have hn := line63
  rcases hq with hq | hq
  · obtain ⟨its, r', pl, hz⟩ := I.list hq
    have hlen := r'.length
    exact Calls.call_len_list pl.isList (by simp only [List.size_toArray] <;> lia) ⟨.int ys.length, H, I.tok _, ⟨s.toks + 1, by rw [List.size_toArray, hlen]⟩, q⟩
  · obtain ⟨its, r', pl, hz⟩ := I.tuple hq
    have hlen := r'.length
    exact len_tuple pl (by simp only [List.size_toArray] <;> lia) ⟨.int ys.length, H, I.tok _, ⟨s.toks + 1, by rw [List.size_toArray, hlen]⟩, q⟩
noncomputable def tyV (K : PySem.W.Frag) (T : String) (x : V) (H : Hp) : Prop := match x with
  | .str _ => T = "str"
  | .int _ => T = "int"
  | .ref p => (T = "list" ∧ ∃ xs, SqL K H p xs) ∨ (T = "tuple" ∧ ∃ o, K.lookup p = some o ∧ o.cls = .type "tuple" ∧ o.dict = none) ∨
      (T = "dict" ∧ ((∃ kvs, H p = some (.dK kvs)) ∨ ∃ kvs, H p = some (.dT kvs))) ∨ (T = "set" ∧ ∃ S n, H p = some (.set S n))
  | _ => False
theorem tyV_is {pins : List (Addr × Obj)} {σ : St} {H : Hp} {s : Shared} {T : String} {x : V} {v : Value} (I : Inv X pins σ H s) (r : RelV x v) (ty : tyV X.K T x H) :
    s.TypeIs v T ∧ ∀ a, v = .ref a → ∃ ob, s.heap.get? a = some ob ∧ ob.dict = none := by
  cases x with
  | str z =>
    obtain ⟨t, rfl⟩ := r
    cases (show T = "str" from ty)
    exact ⟨typeIs_str s z t, fun _ e => nomatch e⟩
  | int i =>
    obtain ⟨t, rfl⟩ := r
    cases (show T = "int" from ty)
    exact ⟨typeIs_int s i t, fun _ e => nomatch e⟩
  | ref p =>
    cases r
    rcases ty with ⟨rfl, xs, hq⟩ | ⟨rfl, o, hk, hc, hd⟩ | ⟨rfl, hk⟩ | ⟨rfl, S, n, hk⟩
    · obtain ⟨its, _, pl, _⟩ := I.list hq
      refine ⟨pl.isList.typeIs, fun a e => ?_⟩
      cases e
      obtain ⟨o, n, e, c, hd, _⟩ := pl
      exact ⟨o, e, hd⟩
    · refine ⟨⟨o, I.kIn p o hk, hc⟩, fun a e => ?_⟩
      cases e
      exact ⟨o, I.kIn _ o hk, hd⟩
    · have z : ∃ o, s.heap.get? p = some o ∧ o.ExactDict := by
        rcases hk with ⟨kvs, hk⟩ | ⟨kvs, hk⟩
        · obtain ⟨_, _, _, _, o, _, _, e, ex, _⟩ := I.hok p _ hk
          exact ⟨o, e, ex⟩
        · obtain ⟨_, _, _, _, o, _, _, e, ex, _⟩ := I.hok p _ hk
          exact ⟨o, e, ex⟩
      obtain ⟨o, e, ex⟩ := z
      refine ⟨⟨o, e, ex.1⟩, fun a e2 => ?_⟩
      cases e2
      exact ⟨o, e, ex.2.1⟩
    · obtain ⟨o, _, _, _, e, ex, _⟩ := I.hok p _ hk
      refine ⟨⟨o, e, ex.1⟩, fun a e2 => ?_⟩
      cases e2
      exact ⟨o, e, ex.2.1⟩
  | _ => exact False.elim ty
noncomputable def tBM (K : PySem.W.Frag) (T : String) (r : V → List V → Hp → VK → Prop) (to : TE) (t : TA) : TE := fun σ H Q => to σ H fun x H1 => tyV K T x H1 ∧ t σ H1 fun xs H2 => r x xs H2 Q
variable {o e : Expr} {es : List Expr} {to : TE} {t : TA} {name : Str} {apos cpos : Pos} {T id : String} {r : V → List V → Hp → VK → Prop}
theorem pe_bm (pa : PlainAttrs T) (slot : Slot T name id) (hty : typeOf (.builtin id) = pure (.type "method_descriptor")) (hm : MtR X id r) (ho : PE X o to) (ha : PA X (e :: es) t)
    (hbase : attributeBase o name X.env (eval o X.env) = eval o X.env := by rfl)
    (hfew : ((backTo cpos (starEach (e :: es) X.env)).all (fun x => !x.1) && (backToKw cpos (keywordEach [] X.env)).all (fun x => x.1.isSome)
      && decide ((e :: es).length + ([] : List Keyword).length + (if ([] : List Keyword).isEmpty then 0 else 1) < 30)) = true := by rfl)
    (hline : (apos.endLine == cpos.line) = true := by rfl) (hs : starEach (e :: es) X.env = (false, eval e X.env) :: starEach es X.env := by rfl) (hplain : (backTo cpos (starEach es X.env)).any (·.1) = false := by rfl) :
    PE X (.Call (.Attribute o name apos) (e :: es) [] cpos) (tBM X.K T r to t) := by
  intro pins s σ H Q I h
  refine wpAny_Call_method_late hbase hfew hline rfl (thnE (ho pins s σ H _ I h) fun v s1 x H1 I1 r1 ⟨ty, q1⟩ => ?_)
  obtain ⟨h1, h2⟩ := tyV_is I1 r1 ty
  refine ⟨T, id, pa, slot, hty, h1, h2, ?_⟩
  have hA := ha cpos pins s1 σ H1 _ I1 q1
  rw [hs] at hA ⊢
  refine Calls.callWith_builtin (by show (false || (backTo cpos (starEach es X.env)).any (·.1)) = false; rw [hplain] <;> rfl) (Calls.evalArgs_plain ?_)
  exact thn hA fun us s2 ⟨vs, H2, I2, r2, q2⟩ => hm pins s2 σ H2 x vs v us Q I2 r1 r2 q2
/- xs.append(e), list.index on a module's tuple .. are MtR facts of 06m -/
end
end L2

namespace L2
open PySem PySem.Spec PyProof.Rows

noncomputable def MtM (X : Cx) (id : String) (r : V → List V → Hp → VK → Prop) : Prop :=
  ∀ (pins : List (Addr × Obj)) (s : Shared) (σ : St) (H : Hp) (x : V) (xs : List V) (v : Value) (us : List Value) (Q : VK), Inv X pins σ H s → RelV x v → Vals xs us → r x xs H Q →
    wpAny (model X.prog X.w) X.A (call (.builtin id) (v :: us)) (EP X pins σ Q) X.xe s

theorem Vals.one {x : V} {us : List Value} (h : Vals [x] us) : ∃ u, us = [u] ∧ RelV x u := by
  cases h with
  | cons r h =>
    cases h
    exact ⟨_, rfl, r⟩
theorem Vals.two {x y : V} {us : List Value} (h : Vals [x, y] us) : ∃ u v, us = [u, v] ∧ RelV x u ∧ RelV y v := by
  cases h with
  | cons r h =>
    cases h with
    | cons q h =>
      cases h
      exact ⟨_, _, rfl, r, q⟩
theorem Vals.reverse {xs : List V} {us : List Value} (h : Vals xs us) : Vals xs.reverse us.reverse := by
  induction h with
  | nil => exact .nil
  | cons r t ih => rw [List.reverse_cons, List.reverse_cons]; exact Vals.append ih (.cons r .nil)
section
variable {X : Cx} {pins : List (Addr × Obj)} {σ : St} {H : Hp} {s : Shared} {l b : Addr} {xs ys zs : List V}

theorem Inv.lset {its its' : List Value} {n : Nat} {f : Array Value → Array Value} {t' : Nat} (I : Inv X pins σ H s) (hH : H l = some (.lst xs))
    (e : s.heap.get? l = some { cls := .type "list", data := .seq its.toArray n }) (hf : f its.toArray = its'.toArray) (hv : Vals ys its') (hz : ys.length ≤ sizeLine) :
    Inv X pins σ (upd H l (.lst ys)) { s with heap := s.heap.update l (Obj.mapSeq f), toks := t' } := by
  have q := PySem.IsL.update e f
  rw [hf] at q
  refine I.write (x := l) (e := l) (by rw [hH]; exact trivial) (.inl rfl) (fun b' u hb hu => (Heap.get?_update_other s.heap (Obj.mapSeq f) (Ne.symm hb)).trans hu) ⟨_, q⟩ ?_
  exact ⟨hz, its', _, hv, q⟩
theorem Inv.lnew {its : List Value} {t' : Nat} (I : Inv X pins σ H s) (hv : Vals ys its) (hz : ys.length ≤ sizeLine) :
    Inv X pins σ (upd H s.heap.objs.size (.lst ys)) { s with heap := s.heap.push { cls := .type "list", data := .seq its.toArray }, toks := t' } :=
  I.laid (fun _ _ q => Heap.get?_push_of_some _ q) (Nat.le_refl _) ⟨hz, its, 0, hv, Heap.get?_push_size _ rfl⟩
theorem Inv.fresh (I : Inv X pins σ H s) : H s.heap.objs.size = none := I.hok.fresh (Nat.le_refl _)
theorem Inv.lstM (I : Inv X pins σ H s) (hH : H l = some (.lst xs)) : xs.length ≤ sizeLine ∧ ∃ (its : List Value) (n : Nat), Vals xs its ∧ xs.length = its.length ∧ s.heap.get? l = some { cls := .type "list", data := .seq its.toArray n } := by
  obtain ⟨z, its, n, r, e⟩ := I.hok l _ hH
  exact ⟨z, its, n, r, r.length, e⟩

theorem notLongL {n : Nat} (h : n ≤ sizeLine) : Builtin.List.listTooLong n = false := by
  unfold Builtin.List.listTooLong
  exact decide_eq_false (by lia)
end

section
variable {X : Cx}

inductive rAppend (x : V) (vs : List V) (H : Hp) (Q : VK) : Prop
  | mk : ∀ l xs y, (x = .ref l) → (vs = [y]) → (H l = some (.lst xs)) → (xs.length < sizeLine) → (Q .non (upd H l (.lst (xs ++ [y])))) → rAppend x vs H Q
theorem mt_append : MtM X "list.append" rAppend := by
  intro pins s σ H x vs v us Q I rx rv h
  obtain ⟨l, xs, y, rfl, rfl, hH, hz, q⟩ := h
  cases rx
  obtain ⟨u, rfl, ru⟩ := rv.one
  obtain ⟨z, its, n, r, hl, e⟩ := I.lstM hH
  refine call_meets F.slot_list_append ⟨_, e, rfl⟩ F.entry_list_append (F.args_list_append_2 _ _) (PySem.list_append l its.toArray n u (by rw [List.size_toArray]; lia)) ⟨e, ?_⟩
  refine ⟨.non, _, I.lset (its' := its ++ [u]) hH e (by simp) (r.append (.cons ru .nil)) ?_, rfl, q⟩
  rw [List.length_append, List.length_singleton]
  lia

inductive rExtend (x : V) (vs : List V) (H : Hp) (Q : VK) : Prop
  | mk : ∀ l b xs zs, (x = .ref l) → (vs = [.ref b]) → (H l = some (.lst xs)) → (H b = some (.lst zs)) → (xs.length + zs.length ≤ sizeLine) → (Q .non (upd H l (.lst (xs ++ zs)))) → rExtend x vs H Q
theorem mt_extend : MtM X "list.extend" rExtend := by
  intro pins s σ H x vs v us Q I rx rv h
  obtain ⟨l, b, xs, zs, rfl, rfl, hH, hB, hz, q⟩ := h
  cases rx
  obtain ⟨u, rfl, ru⟩ := rv.one
  cases ru
  obtain ⟨z, its, n, r, hl, e⟩ := I.lstM hH
  obtain ⟨z2, its2, n2, r2, hl2, e2⟩ := I.lstM hB
  have hsz : its.toArray.size + its2.toArray.size ≤ sizeLine := by rw [List.size_toArray, List.size_toArray]; lia
  have hlong : ¬ (!its.toArray.isEmpty && Builtin.List.listTooLong (its.toArray.size + its2.toArray.size)) = true := by
    rw [notLongL hsz, Bool.and_false]
    exact Bool.false_ne_true
  refine call_meets F.slot_list_extend ⟨_, e, rfl⟩ F.entry_list_extend (F.args_list_extend_2 _ _)
    (AutoSeq1.list_extend_list_list_0 l its.toArray n b its2.toArray n2 hlong (by rw [List.size_toArray]; lia) (by lia)) ⟨e, e2, ?_⟩
  refine ⟨.non, _, I.lset (its' := its ++ its2) hH e (by simp) (r.append r2) ?_, rfl, q⟩
  rw [List.length_append]
  lia

inductive rCat (x : V) (y : V) (H : Hp) (Q : VK) : Prop
  | mk : ∀ l b xs zs, (x = .ref l) → (y = .ref b) → (H l = some (.lst xs)) → (H b = some (.lst zs)) → (xs.length + zs.length ≤ sizeLine) → (∀ p, H p = none → Q (.ref p) (upd H p (.lst (xs ++ zs)))) → rCat x y H Q
theorem op_cat : OpR X (binaryOp .Add) rCat := by
  intro pins s σ H x y v u Q I rx ry h
  obtain ⟨l, b, xs, zs, rfl, rfl, hH, hB, hz, q⟩ := h
  cases rx
  cases ry
  obtain ⟨z, its, n, r, hl, e⟩ := I.lstM hH
  obtain ⟨z2, its2, n2, r2, hl2, e2⟩ := I.lstM hB
  refine PySem.P.add_list e e2 ?_ (by rw [List.size_toArray, List.size_toArray]; lia)
  have ea : its.toArray ++ its2.toArray = (its ++ its2).toArray := by simp
  rw [ea]
  exact ⟨.ref _, _, I.lnew (t' := s.toks) (r.append r2) (by rw [List.length_append]; lia), rfl, q _ I.fresh⟩
end

section
variable {prog : Program} {w : World} {A : Around} {E : Value → Shared → Prop} {s : Shared}
end

section
variable {X : Cx}
end
end L2

namespace Att
open PySem PySem.W PySem.Calls PyProof.Rows

theorem ints_of_wellAll {P : Params} {h : Heap} : ∀ (ns : List Int) (vs : List Value), WellAll P h vs (ns.map WData.int) → IntsAre vs ns := by
  intro ns
  induction ns with
  | nil =>
    intro vs w
    rw [List.map_nil] at w
    cases w
    exact .nil
  | cons n ns ih =>
    intro vs w
    rw [List.map_cons] at w
    cases w with
    | cons a b =>
      cases a
      exact .cons _ _ (ih _ b)

theorem script_of {l : OpenLaw} {n : Nat} (hn : l.most = some n) {P : Params} {h : Heap} {args : List WData} {vals : List Value}
    (hpre : l.row.toRowW.claim.pre args = true) (hwl : WellAll P h vals args) :
    ∃ a vs ns, vals = [Value.ref a] ∧ args = [WData.list (ns.map WData.int)] ∧ h.get? a = some { cls := .type "list", data := .seq vs.toArray } ∧ IntsAre vs ns ∧ ns.length ≤ n := by
  have hsh : WShape.hasAll [] args [.list .int] = true := (pre_splitW hpre).1
  have hc : l.pre.holds [] { args := args } = true := (pre_splitW hpre).2
  obtain ⟨d, r, rfl, h1, h2⟩ := hasAllW_cons hsh
  obtain rfl := hasAllW_nil h2
  obtain ⟨xs, rfl, h3⟩ := hasW_list h1
  obtain ⟨ns, rfl⟩ := items_int h3
  have hlen : ns.length ≤ n := by
    unfold OpenLaw.pre at hc
    have h4 : (WTm.not (.lt (.lit (.int (n : Int))) (.len (.arg 0)))).holds [] { args := [.list (ns.map .int)] } = true := by
      have h4 := (holds_andW hc).1
      rw [hn] at h4
      exact h4
    have h5 := condW_of h4 (w_not (w_lt w_lit (w_len_list (w_arg rfl))))
    rw [List.length_map] at h5
    refine Nat.le_of_not_lt fun q => ?_
    have q' : (n : Int) < ((ns.length : Nat) : Int) := by lia
    first
      | (rw [decide_eq_true q'] at h5; exact absurd h5 (by decide))
      | (simp at h5; lia)
  cases hwl with
  | cons w1 w2 =>
    cases w2
    cases w1 with
    | list ho hall => exact ⟨_, _, ns, rfl, rfl, ho, ints_of_wellAll ns _ hall, hlen⟩

theorem post_true (l : OpenLaw) (args : List WData) : l.row.toRowW.claim.post args (.bool true) args = true :=
  postW_of (r := l.row.toRowW) (X := (true == true))
    (show WShape.has [] (.bool true) .bool = true by first | rfl | decide | simp [WShape.has, WShape.arms, WShape.armsAll])
    (show (WTm.eq .res (.lit (.bool true))).value [] { args := args, res := some (.bool true), after := args } = some (.bool (true == true)) from w_eq_bool (w_res rfl) w_lit) rfl

theorem attach_call {l : OpenLaw} {n : Nat} {q : Program} {loose : List Str} {XP : (Str → Option Value) → Heap → Prop} {YP : World → Heap → Prop} {d : DefRec}
    (hn : l.most = some n) (hdf : d.params.defaults = [])
    (call : ∀ (w : World) (s₀ s₁ : Shared) (mg mb : Str → Option Value) (fa : Addr) (o : Obj) (pm cd doc : Value) (a : Addr) (vs : List Value) (ns : List Int),
      Ground q loose [] XP w s₀ mg mb s₁.heap → YP w s₁.heap →
      s₁.heap.get? fa = some o → o.data = .func (docDef d.name d.params d.body d.scope pm cd doc) → s₁.heap.CodeRec cd d.name → mg d.name = some (.ref fa) →
      s₁.heap.get? a = some { cls := .type "list", data := .seq vs.toArray } → IntsAre vs ns → ns.length ≤ n → s₁.gens = #[] →
      codeAny (model l.prog w) callerA (.call (.ref fa) ⟨[.ref a], []⟩) (fun r s' => r = .ok (.ret (.bool true)) ∧ OldK s₁.heap s'.heap ∧ s'.os = s₁.os ∧ AllBare s'.gens) s₁) :
    WalkO q loose XP YP l.row.toRowW d [] (fun f vs => PySem.call f vs) := by
  intro w s₀ s₁ mg mb G Y fa o pm cd doc dV kV ho hd hcd hD hmg hg args vals as hpre hlay hrd hwl hlo
  obtain rfl : dV = .none := Dflts.none hD hdf
  obtain rfl : kV = .none := Dflts.noKw hD
  obtain ⟨a, vs, ns, rfl, rfl, hobj, hints, hlen⟩ := script_of hn hpre hwl
  refine enter_call (codeAny_mono (call w s₀ s₁ mg mb fa o pm cd doc a vs ns G Y ho (fd_plain hd) hcd hmg hobj hints hlen hg) fun r s' hq => ?_)
  obtain ⟨rfl, h2, h3, h4⟩ := hq
  exact ⟨.inl ⟨.bool true, .bool true, [], rfl, fun _ => rfl, .bool true, post_true l _, fun _ => ⟨List.Pairwise.nil, fun _ hm => (nomatch hm)⟩⟩, h2, h3, h4⟩

section
variable {prog : Program} {w : World} {A : Around} {E : Value → Shared → Prop} {s : Shared} {K : Frag}

noncomputable def ledger (h : Heap) (L d : Addr) : List (Addr × Obj) := (List.range h.objs.size).filterMap fun a => if a = L ∨ a = d then none else (h.get? a).map fun o => (a, o)
end
end Att

namespace L2
open PySem PySem.Spec PyProof.Rows

theorem vals_ints {vs : List Value} {ns : List Int} (h : IntsAre vs ns) : Vals (ns.map V.int) vs := by
  induction h with
  | nil => exact .nil
  | cons n t _ ih => exact .cons ⟨t, rfl⟩ ih
noncomputable def Only (H : Hp) : Prop := ∀ b, H b = none ∨ ∃ o xs, H b = some (.frz o (.lst xs))

theorem law_call {P : Program} {w : World} {K : PySem.W.Frag} {mg mb : Str → Option Value} {CX : CXT} {k : Nat} {fa a : Addr} {fd : FuncData} {x : Str} {sp : Sp} {s₁ : Shared} {vs : List Value} {ns : List Int}
    (KX : K.In s₁.heap) (hns : s₁.heap.Ns mainGlobals mg) (hb : s₁.heap.Ns builtinsNs mb) (hbb : ∀ x : Str, x ≠ "__name__" → mb x = bootBuiltins x) (hlim : s₁.heap.NoLimit) (hg : s₁.gens = #[])
    (ha : s₁.heap.get? a = some { cls := .type "list", data := .seq vs.toArray }) (hi : IntsAre vs ns) (hl : ns.length ≤ sizeLine) (hr : Room k callerA)
    (F : ∀ base : Heap, K.In base → base.Ns mainGlobals mg → FnOk P w K mg base CX k fa fd [x] sp) (hbind : ∀ (s : Shared) (u : Value), BindsTo s fd ⟨[u], []⟩ [(x, u)])
    (hsp : ∀ H : Hp, Only H → SqL K H a (ns.map V.int) → sp [.ref a] H (fun v _ => v = .bl true) fun _ _ _ => False)
    (hCX : ∀ H e s', CX [] H s₁ (fun _ _ _ => False) e s' → False) :
    codeAny (model P w) callerA (.call (.ref fa) ⟨[.ref a], []⟩) (fun r s' => r = .ok (.ret (.bool true)) ∧ OldK s₁.heap s'.heap ∧ s'.os = s₁.os ∧ AllBare s'.gens) s₁ := by
  have rv := vals_ints hi
  have lenV := hi.length
  -- from an abstract heap in which nothing but the script may be tracked
  have core : ∀ H : Hp, Only H → SqL K H a (ns.map V.int) → HOk P w H s₁.heap → (∀ b, H b ≠ none → b = a) → (H a ≠ none → K.lookup a = none) →
      codeAny (model P w) callerA (.call (.ref fa) ⟨[.ref a], []⟩) (fun r s' => r = .ok (.ret (.bool true)) ∧ OldK s₁.heap s'.heap ∧ s'.os = s₁.os ∧ AllBare s'.gens) s₁ := by
    intro H hO hS hok hA hK
    have base_of : ∀ {b : Addr} {o : Obj}, s₁.heap.get? b = some o → H b = none → (hidT s₁.heap H).get? b = some o := fun e n => hidT_get e n
    have noA : ∀ {b : Addr} {o : Obj} {es : Array DictEntry} {ep : Nat}, s₁.heap.get? b = some o → o.data = .dict es ep → H b = none := fun {b o es ep} e d => by
      cases q : H b with
      | none => rfl
      | some u =>
        have e' : b = a := hA b (by rw [q]; simp)
        subst e'
        rw [ha] at e; cases e
        have d' : Data.seq vs.toArray _ = Data.dict es ep := d
        cases d'
    have nsK : ∀ {b : Addr} {m : Str → Option Value}, s₁.heap.Ns b m → (hidT s₁.heap H).Ns b m := fun {b m} ⟨o, es, ep, e, d, r⟩ => ⟨o, es, ep, base_of e (noA e d), d, r⟩
    have hKb : K.In (hidT s₁.heap H) := fun b o e => base_of (KX b o e) (by
      cases q : H b with
      | none => rfl
      | some u =>
        have e' : b = a := hA b (by rw [q]; simp)
        subst e'
        rw [hK (by rw [q]; simp)] at e; cases e)
    have hM : Mod K mg (hidT s₁.heap H) := ⟨hKb, nsK hns, ⟨mb, nsK hb, hbb⟩, let ⟨mc, h1, h2⟩ := hlim; ⟨mc, nsK h1, h2⟩⟩
    have e0 : Env0 P w K mg (hidT s₁.heap H) callerA [] s₁ H := ⟨rfl, hM, fun b o e => of_hidT e, Nat.le_of_eq (hidT_size _ _), trivial, fun b hb => absurd (show b ∈ ([] : List Addr) from hb) (by simp), hok, .of_eq hg⟩
    refine codeAny_mono ((F _ hKb (nsK hns)).run callerA [] s₁ H ⟨[.ref a], []⟩ [.ref a] [.ref a] _ _ hr e0 (hbind s₁ (.ref a)) (.cons rfl .nil) (hsp H hO hS)) fun r s' h => ?_
    cases r with
    | error e => exact (hCX H e s' h).elim
    | ok fl =>
      cases fl with
      | next => exact False.elim h
      | brk => exact False.elim h
      | cont => exact False.elim h
      | ret u =>
        obtain ⟨v, H', os, bare, un, hok', r', q⟩ := h
        have q' : v = .bl true := q
        subst q'
        obtain rfl : u = Value.bool true := r'
        refine ⟨rfl, OldK.of_keep fun b o e => ?_, os, bare⟩
        cases q : H b with
        | none => exact un.keep b o e q (by intro z; exact absurd (show b ∈ ([] : List Addr) from z) (by simp)) (by simp)
        | some u =>
          rcases hO b with z | ⟨ob, xs, z⟩
          · rw [q] at z; cases z
          · have z2 := un.frzs b ob _ z
            obtain ⟨e1, _⟩ := hok b _ z
            obtain ⟨e2, _⟩ := hok' b _ z2
            rw [e] at e1; cases e1
            exact e2
  cases hk : K.lookup a with
  | some o =>
    -- the script is one of the module's own objects
    have e := KX a o hk
    rw [ha] at e
    cases e
    refine core (fun _ => none) (fun _ => .inl rfl) (.inr ⟨_, vs.toArray, _, hk, rfl, rfl, rfl, by rw [List.size_toArray, lenV]; exact hl, by simpa using rv⟩) (fun b u z => by have z' : (none : Option HO) = some u := z; cases z') (fun b z => absurd rfl z) fun z => absurd rfl z
  | none =>
    refine core (fun b => if b = a then some (.frz { cls := .type "list", data := .seq vs.toArray } (.lst (ns.map V.int))) else none) (fun b => ?_) (.inl (.inr ⟨{ cls := .type "list", data := .seq vs.toArray }, if_pos rfl⟩)) (fun b u z => ?_) (fun b z => ?_) fun _ => hk
    · by_cases hb : b = a
      · exact .inr ⟨_, _, if_pos hb⟩
      · exact .inl (if_neg hb)
    · by_cases hb : b = a
      · have z' := (if_pos hb).symm.trans z
        cases z'
        subst hb
        exact ⟨ha, by rw [List.length_map]; exact hl, vs, _, rv, ha⟩
      · have z' := (if_neg hb).symm.trans z
        cases z'
    · by_cases hb : b = a
      · exact hb
      · exact absurd (if_neg hb) z
end L2

namespace L2
open PySem PySem.Spec PyProof.Rows

noncomputable abbrev KOf {K : PySem.W.Frag} {h : Heap} (_ : K.In h) : PySem.W.Frag := K

theorem walk_of {l : PySem.W.OpenLaw} {n k : Nat} {q : Program} {loose : List Str} {XP : (Str → Option Value) → Heap → Prop} {YP : World → Heap → Prop} {d : DefRec} {K : Params → PySem.W.Frag} {CX : World → CXT} {sp : World → Sp} {x : Str}
    (hn : l.most = some n) (hn2 : n ≤ sizeLine) (hdf : d.params.defaults = []) (hr : Room k callerA)
    (hY : ∀ (w : World) (h : Heap), YP w h → (K w.params).In h)
    (F : ∀ (w : World) (mg : Str → Option Value) (fa : Addr) (h : Heap), (K w.params).In h → h.Ns mainGlobals mg → mg d.name = some (.ref fa) →
      ∃ fd : FuncData, (∀ (s : Shared) (u : Value), BindsTo s fd ⟨[u], []⟩ [(x, u)]) ∧
        ∀ base : Heap, (K w.params).In base → base.Ns mainGlobals mg → FnOk l.prog w (K w.params) mg base (CX w) k fa fd [x] (sp w))
    (hsp : ∀ (w : World) (H : Hp) (a : Addr) (ns : List Int), ns.length ≤ n → Only H → SqL (K w.params) H a (ns.map V.int) → sp w [.ref a] H (fun v _ => v = .bl true) fun _ _ _ => False)
    (hCX : ∀ (w : World) (H : Hp) (s : Shared) (e : Value) (s' : Shared), CX w [] H s (fun _ _ _ => False) e s' → False) :
    PySem.W.WalkO q loose XP YP l.row.toRowW d [] (fun f vs => PySem.call f vs) := by
  refine Att.attach_call hn hdf fun w s₀ s₁ mg mb fa o pm cd doc a vs ns G Y ho hd hcd hmg hobj hints hlen hg => ?_
  have KX := hY w _ Y
  obtain ⟨fd, hb, hF⟩ := F w mg fa _ KX G.T.g hmg
  exact law_call KX G.T.g G.T.b G.T.builtins G.T.nolimit hg hobj hints (Nat.le_trans hlen hn2) hr hF hb (fun H hO hS => hsp w H a ns hlen hO hS) fun H e s' => hCX w H s₁ e s'
end L2

/- THE LAST THEOREM (shape; LID, My.* are yours):
   My.Adr: a structure of the addresses that your layer names (classes, functions); My.Txt K t: a structure (Prop) of the equations over K;
   My.txt_mk : {K} {implicit addresses ..} (e1 : nsIn K mainGlobals "law" = some (some (.ref f))) (e2 : K.lookup f = some ⟨oc, od, .func (fnOf "law" "law" params body scope dV kV doc pm an cdv ct), sl⟩) (e3 : codeIn K cdv "law" = true) .. : ∃ t, My.Txt K t

set_option maxRecDepth 100000 in
set_option maxHeartbeats 0 in
theorem PySem.Challenge.cw_LID_holds : PySem.Challenge.rw_LID.Holds := by
  w_on; o_law; k_head; (case hw => w_witness2)
  k_fill
  refine L2.walk_of (l := PySem.Challenge.rw_LID) (n := 63) (k := 40) (x := "script") (CX := fun w => ..) (sp := fun _ => My.sp_law) rfl (by decide) rfl ⟨rfl, by decide, by decide⟩ (fun w h Y => PySem.W.kIn_of Y) ?F ?S ?C
  case F =>
    intro w mg fa h KX G hmg
    have T : ∃ t, My.Txt (L2.KOf KX) t := by
      dsimp only [L2.KOf]                          -- K must stand as «<heap const> w.params» for k_is
      refine' My.txt_mk ?e1 ?e2 ?e3 ..
      (case e1 => PySem.W.k_is)                    -- in the order: a name -> its address -> its object -> its parts
      (case e2 => PySem.W.k_is)
      ..
    obtain ⟨t, T⟩ := T
    have e0 := hmg.symm.trans (PySem.W.mg_of KX G T.law)
    cases e0                                       -- fa is the law's own address
    exact ⟨_, fun s u => .of_eq rfl, fun base kb nb => My.law_fn T kb nb⟩     -- if «.of_eq rfl» comes too early: refine' ⟨_, ?b, fun base kb nb => My.law_fn T kb nb⟩; exact fun s u => .of_eq rfl
  case S => exact fun w H a ns hl hO hS => ..
  case C => exact ..
(the tactic k_is has no namespace: write k_is) -/

namespace L2
open PySem PySem.Spec PyProof.Rows

noncomputable def defArgs (s : Stmt) : Arguments := match s with
  | .FunctionDef _ a _ _ _ _ _ _ _ _ => a
  | _ => { posonlyargs := [], args := [], vararg := none, kwonlyargs := [], kw_defaults := [], kwarg := none, defaults := [] }
noncomputable def defBody (s : Stmt) : List Stmt := match s with
  | .FunctionDef _ _ b _ _ _ _ _ _ _ => b
  | _ => []
noncomputable def defScope (s : Stmt) : Scope := match s with
  | .FunctionDef _ _ _ _ _ _ sc _ _ _ => sc
  | _ => { kind := .function, names := [], isGenerator := false, isCoroutine := false }

noncomputable abbrev CX0 : CXT := fun _ _ _ _ _ _ => False
noncomputable abbrev E0 : XK := fun _ _ _ => False
theorem pass0 {X : Cx} : Passes CX0 X E0 := fun _ _ _ _ _ _ _ h => h.elim

structure Fun (K : PySem.W.Frag) (x qual : Str) (st : Stmt) (f : Addr) (fd : FuncData) : Prop where
  ex : ∃ (oc : Value) (od : Option Addr) (kV doc pm : Value) (an : Option Addr) (cdv ct : Value) (osl : Array (Option Value)),
    fd = PySem.W.fnOf x qual (defArgs st) (defBody st) (defScope st) .none kV doc pm an cdv ct ∧ K.lookup f = some ⟨oc, od, .func fd, osl⟩ ∧ PySem.W.codeIn K cdv qual = true
  kp : PySem.W.keepIn K (.ref f) = true
section
variable {P : Program} {w : World} {K : PySem.W.Frag} {mg : Str → Option Value} {base : Heap}
theorem Fun.ok {x qual : Str} {st : Stmt} {f : Addr} {fd : FuncData} {N ps : List Str} {k : Nat} {sp : Sp} (F : Fun K x qual st f fd) (S : FnScope N ps (defScope st)) (len : ∀ vs H Q E, sp vs H Q E → vs.length = ps.length)
    (hbody : ∀ (cdv : Value) (A : Around) (outer : List Env) (s : Shared) (H : Hp) (vs : List V) (Q : VK) (E : XK), Room k (A.deeper (envOfC qual (defScope st) s.heap.objs.size f cdv)) → sp vs H Q E →
      ∃ t, PSs (cxOf CX0 P w K mg base N qual (defScope st) f cdv A outer s H E).nox (defBody st) t ∧ t { nx := fun _ H' => Q .non H', rt := Q } (start N vs) H) : FnOk P w K mg base CX0 (k + 1) f fd ps sp := by
  obtain ⟨oc, od, kV, doc, pm, an, cdv, ct, osl, rfl, lk, hcd⟩ := F.ex
  refine fn_of lk hcd S len fun A outer s H vs Q E hr hsp => ?_
  obtain ⟨t, h, q⟩ := hbody cdv A outer s H vs Q E hr hsp
  exact ⟨t, h.nox, q⟩
theorem Fun.binds {x qual : Str} {st : Stmt} {f : Addr} {fd : FuncData} {ps : List Str} (F : Fun K x qual st f fd)
    (h : ∀ (kV doc pm : Value) (an : Option Addr) (cdv ct : Value) (us : List Value), us.length = ps.length → bindArgs (PySem.W.fnOf x qual (defArgs st) (defBody st) (defScope st) .none kV doc pm an cdv ct) ⟨us, []⟩ = pure (ps.zip us)) : Binds K fd ps [] := by
  obtain ⟨oc, od, kV, doc, pm, an, cdv, ct, osl, rfl, lk, hcd⟩ := F.ex
  exact .all (h kV doc pm an cdv ct)
theorem fun_mk {x qual : Str} {st : Stmt} {f : Addr} {oc : Value} {od an : Option Addr} {osl : Array (Option Value)} {kV doc pm cdv ct : Value} (l : K.lookup f = some ⟨oc, od, .func (PySem.W.fnOf x qual (defArgs st) (defBody st) (defScope st) .none kV doc pm an cdv ct), osl⟩)
    (c : PySem.W.codeIn K cdv qual = true) (k : PySem.W.keepIn K (.ref f) = true) : Fun K x qual st f (PySem.W.fnOf x qual (defArgs st) (defBody st) (defScope st) .none kV doc pm an cdv ct) := ⟨⟨oc, od, kV, doc, pm, an, cdv, ct, osl, rfl, l, c⟩, k⟩
end
theorem hu_of {A : Around} {k : Nat} (hr : Room k A) : A.units + 1 < cLine := Nat.lt_of_le_of_lt (Nat.add_le_add_left (by decide : 1 ≤ 64) _) hr.units
section
variable {X : Cx}
theorem pv (i : Nat) {x : Str} {pos : Pos} (hN : X.N[i]? = some x := by rfl) (hv : Vis X.env.scope x := by first | exact Or.inl rfl | exact Or.inr (Or.inl rfl) | exact Or.inr (Or.inr rfl)) (hd : (x == ("__debug__" : Str)) = false := by decide)
    (hcd : (x == ("__classdict__" : Str)) = false := by decide) : PE X (.Name x pos) (tVar i) := pe_var hN hv hd hcd
end

theorem iteF {A B : Prop} (h : B) : if false = true then A else B := by
  rw [if_neg Bool.false_ne_true]
  exact h
theorem iteT {A B : Prop} (h : A) : if true = true then A else B := by
  rw [if_pos rfl]
  exact h
theorem ite2 {c A B : Prop} [Decidable c] (h1 : c → A) (h2 : ¬ c → B) : if c then A else B := by
  by_cases h : c
  · rw [if_pos h]
    exact h1 h
  · rw [if_neg h]
    exact h2 h
theorem iteNS {c A B : Prop} [Decidable c] (hc : c) (h : B) : if (!decide c) = true then A else B := by
  rw [decide_eq_true hc]
  exact iteF h

noncomputable def Same (H H' : Hp) : Prop := ∀ b o, H b = some o → H' b = some o
theorem Same.refl (H : Hp) : Same H H := fun _ _ h => h
theorem Same.trans {H H1 H2 : Hp} (a : Same H H1) (b : Same H1 H2) : Same H H2 := fun c o h => b c o (a c o h)
theorem Same.free {H H' : Hp} (e : Same H H') {l : Addr} (h : H' l = Option.none) : H l = Option.none := by
  cases q : H l with
  | none => rfl
  | some o =>
    rw [e l o q] at h
    cases h
theorem Same.seq {K : PySem.W.Frag} {H H' : Hp} {a : Addr} {xs : List V} (e : Same H H') (h : SqL K H a xs) : SqL K H' a xs := by
  rcases h with (h | ⟨o, h⟩) | h
  · exact .inl (.inl (e _ _ h))
  · exact .inl (.inr ⟨o, e _ _ h⟩)
  · exact .inr h

end L2

set_option maxHeartbeats 4000000
namespace L2
open PySem PySem.Spec PyProof.Rows

theorem forIn_by {al be : Type} {l : List al} {f : al → be → Sem (ForInStep be)} (R : List al → be → Prop) : ∀ (pre rest : List al) (c : be), l = pre ++ rest → R pre c →
    (∀ pre x post c, l = pre ++ x :: post → R pre c → ∃ d, f x c = pure (.yield d) ∧ R (pre ++ [x]) d) → ∃ d, forIn rest c f = pure d ∧ R l d
  | pre, [], c, e, h0, _ => ⟨c, rfl, by rw [e, List.append_nil]; exact h0⟩
  | pre, x :: rest, c, e, h0, h => by
    obtain ⟨d, e1, r1⟩ := h pre x rest c e h0
    obtain ⟨d', e2, r2⟩ := forIn_by R (pre ++ [x]) rest d (by rw [e]; simp) r1 h
    exact ⟨d', by rw [List.forIn_cons, e1, pure_bind]; exact e2, r2⟩

theorem clos_get {scope : Scope} {env : Env} (h : ∀ y, (y, NameKind.free) ∈ scope.names → ∃ c, env.cells.lookup y = some c) :
    ∃ cl, closureFor scope env = pure cl ∧ (∀ y c, cl.lookup y = some c → env.cells.lookup y = some c) ∧ ∀ y, (y, NameKind.free) ∈ scope.names → ∃ c, cl.lookup y = some c := by
  have key := forIn_by (l := scope.names) (be := List (Str × Addr)) (f := fun x r => if (x.2 == NameKind.free) = true then do let a ← cellOf env x.1; pure (ForInStep.yield ((x.1, a) :: r)) else pure (ForInStep.yield r))
    (fun pre cs => (∀ y c, cs.lookup y = some c → env.cells.lookup y = some c) ∧ ∀ y, (y, NameKind.free) ∈ pre → ∃ c, cs.lookup y = some c) [] scope.names [] (by simp)
    ⟨fun y c e => by simp at e, fun y hy => by simp at hy⟩ (by
      rintro pre ⟨n, k⟩ post cs e ⟨r1, r2⟩
      by_cases hk : k = NameKind.free
      · subst hk
        obtain ⟨c, hc⟩ := h n (by rw [e]; simp)
        refine ⟨(n, c) :: cs, ?_, fun y d q => ?_, fun y hy => ?_⟩
        · have hco : cellOf env n = pure c := by unfold cellOf; rw [hc]
          simp only [beq_self_eq_true, if_true, hco, pure_bind]
        · by_cases hy : y = n
          · subst hy
            rw [List.lookup_cons, beq_self_eq_true] at q
            cases q; exact hc
          · have hb : (y == n) = false := by simpa using hy
            rw [List.lookup_cons, hb] at q
            exact r1 y d q
        · by_cases hn : y = n
          · exact ⟨c, by rw [hn, List.lookup_cons, beq_self_eq_true]⟩
          · have hb : (y == n) = false := by simpa using hn
            rw [List.lookup_cons, hb]
            refine r2 y ?_
            rcases List.mem_append.mp hy with z | z
            · exact z
            · simp at z; exact absurd z hn
      · refine ⟨cs, ?_, r1, fun y hy => r2 y ?_⟩
        · have hb : (k == NameKind.free) = false := by simpa using hk
          simp only [hb, Bool.false_eq_true, if_false]
        · rcases List.mem_append.mp hy with z | z
          · exact z
          · simp at z; exact absurd z.2.symm hk)
  obtain ⟨cl, e, r⟩ := key
  refine ⟨cl, ?_, r⟩
  have e' : closureFor scope env = forIn scope.names ([] : List (Str × Addr)) (fun x r => if (x.2 == NameKind.free) = true then do let a ← cellOf env x.1; pure (ForInStep.yield ((x.1, a) :: r)) else pure (ForInStep.yield r)) := by
    simp only [closureFor, bind_pure]
  rw [e', e]

noncomputable def Cx.cmp (X : Cx) (N : List Str) (scope : Scope) (cl : List (Str × Addr)) (C : Addr) (s : Shared) (H : Hp) (fp : List Addr) : Cx where
  prog := X.prog
  w := X.w
  K := X.K
  mg := X.mg
  base := X.base
  A := X.A
  N := N
  s₀ := s
  H₀ := H
  env := compEnvC scope cl C X.env
  outer := X.stack
  stack := X.stack
  ex := fp
  fn := fun _ => false
  calm := X.calm
  pn := []
  xe := fun _ _ => False

theorem look_map {names : List (Str × NameKind)} {q : Str → NameKind → Bool} {y : Str} : (names.map fun (n, k) => if q n k = true then (n, NameKind.cell) else (n, k)).lookup y = (names.lookup y).map fun k => if q y k = true then NameKind.cell else k := by
  induction names with
  | nil => rfl
  | cons p r ih =>
    obtain ⟨n, k⟩ := p
    rw [List.map_cons]
    by_cases hy : y = n
    · subst hy
      by_cases hq : q y k = true
      · simp [List.lookup_cons, hq]
      · simp [List.lookup_cons, hq]
    · have hb : (y == n) = false := by simpa using hy
      by_cases hq : q n k = true
      · simp only [hq, if_true, List.lookup_cons, hb]; exact ih
      · simp only [hq, Bool.false_eq_true, if_false, List.lookup_cons, hb]; exact ih

section
variable {X : Cx} {pins : List (Addr × Obj)} {σ : St} {H : Hp} {s : Shared} {fp : List Addr} {scope : Scope} {cl : List (Str × Addr)} {N : List Str} {C : Addr}

structure CmpScope (X : Cx) (N : List Str) (scope : Scope) : Prop where
  kind : scope.kind = .function
  nocell : ∀ y ∈ scope.names, y.2 ≠ .cell
  loc : ∀ y ∈ scope.names, y.2 = .local → scope.names.lookup y.1 = some .local
  fre : ∀ y, scope.names.lookup y = some .free → X.env.kindOf y = some .cell
  fre2 : ∀ y, (y, NameKind.free) ∈ scope.names → X.env.kindOf y = some .cell
  nd : N.Nodup
  at0 : ∀ y, scope.names.lookup y = some .free → (y, NameKind.free) ∈ scope.names

theorem cmp_ok (S : CmpScope X N scope) (I : Inv X pins σ H s) (hf : ∀ b ∈ fp, FpOk X pins H b) (ho : ∀ b ∈ fp, ∃ o, s.heap.get? b = some o) (hcl : ∀ y c, cl.lookup y = some c → X.env.cells.lookup y = some c)
    (hcf : ∀ y, (y, NameKind.free) ∈ scope.names → ∃ c, cl.lookup y = some c) (hC : s.heap.objs.size ≤ C) : (X.cmp N scope cl C s H fp).Ok where
  mod := I.ok.mod
  kind := S.kind
  glob := I.ok.glob
  blt := I.ok.blt
  above := hC
  inj := fun x y c h1 h2 => I.ok.inj x y c (hcl x c h1) (hcl y c h2)
  has := fun y hy => by
    have hy' : (relabel scope X.env).names.lookup y = some .cell ∨ (relabel scope X.env).names.lookup y = some .free := hy
    have e : (relabel scope X.env).names.lookup y = (scope.names.lookup y).map fun k => if (k == .free && X.env.scope.kind == .function && X.env.kindOf y == some .cell) = true then NameKind.cell else k :=
      look_map (q := fun n k => k == .free && X.env.scope.kind == .function && X.env.kindOf n == some .cell)
    rw [e] at hy'
    cases q : scope.names.lookup y with
    | none => rw [q] at hy'; simp at hy'
    | some k =>
      by_cases hk : k = NameKind.free
      · subst hk
        exact hcf y (S.at0 y q)
      · exfalso
        have hb : (k == NameKind.free) = false := by simpa using hk
        rw [q] at hy'
        simp only [Option.map_some, hb, Bool.false_and, Bool.false_eq_true, if_false, Option.some.injEq] at hy'
        rcases hy' with z | z
        · exact S.nocell _ (PySem.mem_of_lookup q) z
        · exact hk z
  cab := fun y c h _ => nomatch h
  hd := I.ok.hd
  frames := I.ok.frames
  stk := .inl rfl
  exf := fun b hb => by
    obtain ⟨o, e⟩ := ho b hb
    obtain ⟨_, _, _, _, f4, _⟩ := hf b hb
    exact ⟨Nat.ne_of_lt (Nat.lt_of_lt_of_le (Heap.lt_size e) hC), fun x c q => f4 x c (hcl x c q)⟩
  bs := I.bs
  bsz := Nat.le_trans I.ok.bsz I.sz
  noex := fun b o e hb => by
    obtain ⟨_, _, _, f3, _, _⟩ := hf b hb
    rcases f3 with z | z
    · exact I.ok.noex b o e z
    · exact absurd (Nat.lt_of_lt_of_le (Heap.lt_size e) (Nat.le_trans I.ok.bsz z)) (Nat.lt_irrefl _)
  exfs := fun b hb z => by
    obtain ⟨_, f1, f2, _⟩ := hf b hb
    rcases List.mem_cons.mp (I.stkSub b z) with e | e
    · exact f1 e
    · exact f2 e
  funs := I.stack
  frf := I.stkFree

noncomputable def freeSt (k : Nat) (fr : List Nat) (σ : St) : St := List.replicate k none ++ fr.map fun i => (σ[i]?).join

structure CmpFree (X : Cx) (N : List Str) (scope : Scope) (k : Nat) (fr : List Nat) : Prop where
  len : N.length = k + fr.length
  at1 : ∀ (j i : Nat) (y : Str), fr[j]? = some i → N[k + j]? = some y → X.N[i]? = some y ∧ scope.names.lookup y = some .free

theorem cmp_start (S : CmpScope X N scope) {k : Nat} {fr : List Nat} (F : CmpFree X N scope k fr) (I : Inv X pins σ H s) (hf : ∀ b ∈ fp, FpOk X pins H b) (ho : ∀ b ∈ fp, ∃ o, s.heap.get? b = some o)
    (hcl : ∀ y c, cl.lookup y = some c → X.env.cells.lookup y = some c) (hcf : ∀ y, (y, NameKind.free) ∈ scope.names → ∃ c, cl.lookup y = some c) (hC : s.heap.objs.size ≤ C)
    {s1 : Shared} {m : Str → Option Value} {D : Addr} {oD : Obj} (hos : s1.os = s.os) (hg : s1.gens = s.gens) (kp : ∀ b o, s.heap.get? b = some o → s1.heap.get? b = some o) (hn : s1.heap.Ns C m)
    (hD : s1.heap.get? D = some oD) (hD0 : s.heap.objs.size ≤ D) (hDC : D ≠ C) (hdc : ∀ v, oD.data ≠ .cell v) :
    Inv (X.cmp N scope cl C s H fp) [(D, oD)] (freeSt k fr σ) H s1 := by
  have hfs : D ∉ frs X.stack := fun z => by
    obtain ⟨_, o, q, _⟩ := I.stack.mem z
    exact absurd (Nat.lt_of_lt_of_le (Heap.lt_size q) hD0) (Nat.lt_irrefl _)
  refine ⟨cmp_ok S I hf ho hcl hcf hC, hos, by rw [hg]; exact I.bare, Un.kept kp, ⟨m, hn, fun i x v e1 e2 e3 => ?_⟩, fun y c e => ?_, I.hok.fresh hC, fun y c e => I.freeC y c (hcl y c e), fun p hp => ?_, I.hok.kept kp, ?_⟩
  · -- a name that has a value is a free one
    unfold freeSt at e2
    by_cases hi : i < k
    · rw [List.getElem?_append_left (by simpa using hi), List.getElem?_replicate] at e2
      split at e2 <;> cases e2
    · obtain ⟨j, rfl⟩ : ∃ j, i = k + j := ⟨i - k, by lia⟩
      rw [List.getElem?_append_right (by simp), List.length_replicate, Nat.add_sub_cancel_left, List.getElem?_map] at e2
      cases q : fr[j]? with
      | none => rw [q] at e2; cases e2
      | some i' =>
        rw [q] at e2
        have e2' : (σ[i']?).join = some v := Option.some.inj e2
        obtain ⟨a1, a2⟩ := F.at1 j i' x q e1
        have hk := S.fre x a2
        obtain ⟨m0, hn0, hl0⟩ := I.loc
        have hv : σ[i']? = some (some v) := by
          cases z : σ[i']? with
          | none => rw [z] at e2'; cases e2'
          | some w => rw [z] at e2'; rw [show w = some v from e2']
        obtain ⟨u, r, l⟩ := hl0 i' x v a1 hv (.inr (.inl hk))
        refine ⟨u, r, .inr ⟨.inl ?_, ?_⟩⟩
        · show (relabel scope X.env).names.lookup x = some .cell
          have e : (relabel scope X.env).names.lookup x = (scope.names.lookup x).map fun k => if (k == .free && X.env.scope.kind == .function && X.env.kindOf x == some .cell) = true then NameKind.cell else k :=
            look_map (q := fun n k => k == .free && X.env.scope.kind == .function && X.env.kindOf n == some .cell)
          rw [e, a2, hk, I.ok.kind]
          rfl
        · obtain ⟨c, hc⟩ := hcf x (S.at0 x a2)
          refine ⟨c, hc, ?_⟩
          rcases l with ⟨z, _⟩ | ⟨_, c', hc', z⟩
          · rw [hk] at z; cases z
          · have ec := hcl x c hc
            rw [hc'] at ec; cases ec
            obtain ⟨o, ho, hd⟩ := z
            exact ⟨o, kp _ _ ho, hd⟩
  · obtain ⟨v, o, q, d⟩ := I.cell y c (hcl y c e)
    exact ⟨v, o, kp _ _ q, d⟩
  · have hp' : p = (D, oD) := by simpa [Cx.cmp] using hp
    subst hp'
    exact ⟨hD, I.hok.fresh hD0, hDC, hfs, hdc⟩
  · unfold freeSt
    show _ = N.length
    rw [List.length_append, List.length_replicate, List.length_map, F.len]

noncomputable abbrev lstO (its : List Value) (n : Nat) : Obj := { cls := .type "list", data := .seq its.toArray n }

theorem cmp_back {σ' : St} {H' : Hp} {s' : Shared} {D : Addr} {its : List Value} {n : Nat} {ys : List V} (I : Inv X pins σ H s) (hf : ∀ b ∈ fp, FpOk X pins H b) (J : Inv (X.cmp N scope cl C s H fp) [(D, lstO its n)] σ' H' s') (r : Vals ys its)
    (hz : ys.length ≤ sizeLine) (hD0 : s.heap.objs.size ≤ D) : H' D = none ∧ Inv X pins σ (upd H' D (.lst ys)) s' := by
  obtain ⟨e1, hn, _, _, _⟩ := J.pin (D, lstO its n) (by simp [Cx.cmp])
  have e1 : s'.heap.get? D = some (lstO its n) := e1
  have hn : H' D = none := hn
  have u := J.base
  have neD : ∀ b o, s.heap.get? b = some o → b ≠ D := fun b o q => Nat.ne_of_lt (Nat.lt_of_lt_of_le (Heap.lt_size q) hD0)
  have u' : Un (frs X.stack) fp H (upd H' D (.lst ys)) s.heap s'.heap :=
    ⟨u.keep, u.slot, fun b o q z hx => by rw [upd_ne (neD b o q)]; exact u.free b o q z hx, u.there, fun b xs q => by rw [upd_ne (ne_of_none (u.tups b xs q) hn)]; exact u.tups b xs q,
      fun b o x q => by rw [upd_ne (ne_of_none (u.frzs b o x q) hn)]; exact u.frzs b o x q, fun b ps q => by
        obtain ⟨more, z⟩ := u.tbls b ps q
        exact ⟨more, by rw [upd_ne (ne_of_none z hn)]; exact z⟩⟩
  have hok : HOk X.prog X.w (upd H' D (.lst ys)) s'.heap := fun b o q => by
    by_cases hb : b = D
    · subst hb
      rw [upd_same] at q
      cases q
      exact ⟨hz, its, n, r, e1⟩
    · rw [upd_ne hb] at q
      exact (J.hok b o q).stay (fun c v _ z => z) (fun c z => by rw [upd_ne (ne_of_none z hn)]; exact z) fun c xs z => by rw [upd_ne (ne_of_none z hn)]; exact z
  refine ⟨hn, ?_⟩
  have os := J.os
  have bare := J.bare
  obtain ⟨hh, g, d, t, os'⟩ := s'
  obtain rfl : os' = s.os := os
  exact I.call (h' := hh) (g' := g) (d' := d) (t' := t) (ch := fp) u' hok bare fun b hb => by
    obtain ⟨_, f1, _, f3, f4, f5⟩ := hf b hb
    exact ⟨f3, f1, f4, f5⟩
end
end L2
namespace L2
open PySem PySem.Spec PyProof.Rows

noncomputable def PF (X : Cx) (ifs : List Expr) (t : TT) : Prop :=
  ∀ (pins : List (Addr × Obj)) (s : Shared) (σ : St) (H : Hp) (Q : Bool → Hp → Prop), Inv X pins σ H s → t σ H Q →
    wpAny (model X.prog X.w) X.A (forIn ifs true fun c r => if r = true then do let ok ← isTrue c X.env (eval c X.env); pure (ForInStep.yield ok) else pure (ForInStep.yield r)) (TP X pins σ Q) X.xe s
noncomputable def tTrue : TT := fun _ H Q => Q true H
theorem pf_nil {X : Cx} : PF X [] tTrue := fun _ _ _ H _ I h => wpAny_tests_nil ⟨H, I, h⟩
theorem pf_one {X : Cx} {c : Expr} {tc : TT} (hc : PT X c tc) : PF X [c] tc := fun pins s σ H Q I h => wpAny_tests_one (hc pins s σ H Q I h)

section
variable {prog : Program} {w : World} {A : Around}
theorem noE {al : Type} {t : Sem al} {Q : al → Shared → Prop} {E : Value → Shared → Prop} {s : Shared} (h : wpAny (model prog w) A t Q (fun _ _ => False) s) : wpAny (model prog w) A t Q E s :=
  wpAny_mono h (fun _ _ x => x) fun _ _ f => f.elim
theorem cmp_loop {R : Result → Shared → Prop} {s : Shared} {elt tg iter : Expr} {ifs : List Expr} {scope : Scope} {pos : Pos} {it acc : Value} {env : Env} (I : Nat → Shared → Prop)
    (turn : ∀ n s, I n s → wpAny (model prog w) A (pyNext it) (fun r s1 => (r = none ∧ R (.ok .next) s1) ∨ ∃ v, r = some v ∧
      wpAny (model prog w) A (letOwnedTupleGo tg it v) (fun _ s2 => wpAny (model prog w) A (assign tg env v) (fun _ s3 =>
        wpAny (model prog w) A (forIn ifs true fun c r => if r = true then do let ok ← isTrue c env (eval c env); pure (ForInStep.yield ok) else pure (ForInStep.yield r)) (fun ok s4 =>
          if ok = true then wpAny (model prog w) A (eval elt env) (fun x s5 =>
            wpAny (model prog w) A (call (.builtin "list.append") [acc, x]) (fun _ s6 => ∃ m, m < n ∧ I m s6) (fun _ _ => False) s5) (fun _ _ => False) s4
          else ∃ m, m < n ∧ I m s4) (fun _ _ => False) s3) (fun _ _ => False) s2) (fun _ _ => False) s1) (fun _ _ => False) s)
    (n : Nat) (h : I n s) : codeAny (model prog w) A (.compLoop (.ListComp elt [⟨tg, iter, ifs, 0⟩] scope pos) 0 it acc env) R s := by
  refine codeAny_loop rfl I (fun n s hI => ?_) n h
  show wpAny _ A ((compTurn (.ListComp elt [⟨tg, iter, ifs, 0⟩] scope pos) 0 it acc env).onRaise (fun x => do noteFrame x env; theTreesLotGoes x)) _ _ s
  refine wpAny_noted ?_
  rw [compTurn_list]
  refine wpAny_bind (wpAny_standAt (wpAny_bind (noE (thn (turn n s hI) fun r s1 h1 => ?_))))
  rcases h1 with ⟨rfl, h1⟩ | ⟨v, rfl, h1⟩
  · exact wpAny_pure h1
  · refine wpAny_bind (noE (thn h1 fun _ s2 h2 => wpAny_bind (noE (thn h2 fun _ s3 h3 => wpAny_bind (noE (thn h3 fun ok s4 h4 => ?_))))))
    cases ok with
    | false => exact wpAny_pure ⟨rfl, h4⟩
    | true => exact wpAny_bind (wpAny_bind (noE (thn h4 fun x s5 h5 => wpAny_bind (noE (thn h5 fun _ s6 h6 => wpAny_pure (wpAny_pure ⟨rfl, h6⟩))))))
end

noncomputable def GKeeps (k : Nat) (g : TG) : Prop := ∀ v σ H Q, g v σ H Q → g v σ H fun σ2 H2 => (σ2.length = σ.length ∧ ∀ i, k ≤ i → σ2[i]? = σ[i]?) ∧ Q σ2 H2
theorem gk_name {k i : Nat} (h : i < k) : GKeeps k (gName i) := fun v σ H Q q => ⟨⟨List.length_set, fun j hj => List.getElem?_set_ne (by lia)⟩, q⟩
noncomputable def tComp (k : Nat) (fr : List Nat) (wi : TI) (g : TG) (tc : TT) (te : TE) : TE := fun σ H Q => wi σ H fun J H1 => ∃ W : Nat → Nat → List V → Hp → Prop, (∃ m, W 0 m [] H1) ∧ ∀ i m ys H, W i m ys H →
  (J.stop i H ∧ ∀ D, H D = none → Q (.ref D) (upd H D (.lst ys))) ∨
  (J.go i H ∧ ys.length < sizeLine ∧ ∃ Nx : List V → Hp → Prop, (∀ ys' H', Nx ys' H' → ∃ m', m' < m ∧ W (i + 1) m' ys' H') ∧
    ∀ x H', J.yld i H x H' → g x (freeSt k fr σ) H' fun σ2 H2 => tc σ2 H2 fun b H3 => if b = true then te σ2 H3 fun y H4 => Nx (ys ++ [y]) H4 else Nx ys H3)

section
variable {X : Cx} {pins : List (Addr × Obj)} {σ : St} {tg elt iter : Expr} {ifs : List Expr} {scope : Scope} {pos : Pos} {N : List Str} {k : Nat} {fr : List Nat} {wi : TI} {g : TG} {tc : TT} {te : TE}

theorem cmp_block (S : CmpScope X N scope) (F : CmpFree X N scope k fr) (hc : X.calm = true)
    (hg : ∀ cl C s H fp, PG (X.cmp N scope cl C s H fp) tg g) (hk : GKeeps k g) (hi : ∀ cl C s H fp, PF (X.cmp N scope cl C s H fp) ifs tc) (he : ∀ cl C s H fp, PE (X.cmp N scope cl C s H fp) elt te)
    {s2 : Shared} {it : Addr} {fp : List Addr} {tn : Nat → Heap → Prop} {J : It} {H2 : Hp} (I : Inv X pins σ H2 s2) (T : Turn X.prog X.w X.K tg J fp it tn) (st : tn 0 s2.heap) (f2 : ∀ b ∈ fp, FpOk X pins H2 b)
    {W : Nat → Nat → List V → Hp → Prop} {m0 : Nat} (w0 : W 0 m0 [] H2) {Fin : List V → Hp → Prop}
    (turn : ∀ i m ys H, W i m ys H → (J.stop i H ∧ Fin ys H) ∨
      (J.go i H ∧ ys.length < sizeLine ∧ ∃ Nx : List V → Hp → Prop, (∀ ys' H', Nx ys' H' → ∃ m', m' < m ∧ W (i + 1) m' ys' H') ∧
        ∀ x H', J.yld i H x H' → g x (freeSt k fr σ) H' fun σ2 H2 => tc σ2 H2 fun b H3 => if b = true then te σ2 H3 fun y H4 => Nx (ys ++ [y]) H4 else Nx ys H3))
    {cl : List (Str × Addr)} (hcl : ∀ y c, cl.lookup y = some c → X.env.cells.lookup y = some c) (hcf : ∀ y, (y, NameKind.free) ∈ scope.names → ∃ c, cl.lookup y = some c)
    {RR : Value → Addr → Result → Shared → Prop} {E : Value → Shared → Prop}
    (hRR : ∀ D C s' its n ys H' σ', s2.heap.objs.size ≤ D → s2.heap.objs.size ≤ C → D ≠ C → Inv (X.cmp N scope cl C s2 H2 fp) [(D, lstO its n)] σ' H' s' → Vals ys its → ys.length ≤ sizeLine → Fin ys H' → RR (.ref D) C (.ok .next) s') :
    wpAny (model X.prog X.w) X.A (newList []) (fun acc s3 => wpAny (model X.prog X.w) X.A (newFunctionEnv scope X.env.globals cl [] X.env.qual none .none (some X.env)) (fun cenv s4 =>
      codeAny (model X.prog X.w) X.A (.compStart (.ListComp elt [⟨tg, iter, ifs, 0⟩] scope pos) 0 (.ref it) acc { cenv with scope := relabel scope X.env }) (RR acc cenv.locals) s4) E s3) E s2 := by
  refine wpAny_newObj_type (wpAny_newFunctionEnv S.nocell (by intro y hy; simp at hy) (fun h1 hns sb => ?_) S.kind)
  dsimp only at hns sb ⊢
  generalize hG : s2.heap.push { cls := .type "list", dict := none, data := .seq ([] : List Value).toArray } = G at hns sb ⊢
  have hC : G.objs.size = s2.heap.objs.size + 1 := by rw [← hG, Heap.size_push]
  have hDC : s2.heap.objs.size ≠ G.objs.size := by rw [hC]; exact Nat.ne_of_lt (Nat.lt_succ_self _)
  have old : ∀ b o, s2.heap.get? b = some o → h1.get? b = some o := fun b o e =>
    sb.extBut b o (by rw [hC]; exact Nat.ne_of_lt (Nat.lt_succ_of_lt (Heap.lt_size e))) (Heap.get?_push_of_some _ (hG ▸ Heap.get?_push_of_some _ e))
  have hacc : h1.get? s2.heap.objs.size = some (lstO [] 0) := sb.extBut _ _ hDC (Heap.get?_push_of_some _ (hG ▸ Heap.get?_push_size _ rfl))
  have hfo : ∀ b ∈ fp, ∃ o, s2.heap.get? b = some o := fun b hb => let ⟨o, e, _⟩ := T.obj 0 _ st b hb; ⟨o, e⟩
  have ltD : ∀ b ∈ fp, b ≠ s2.heap.objs.size := fun b hb => let ⟨o, e⟩ := hfo b hb; Nat.ne_of_lt (Heap.lt_size e)
  generalize hX : X.cmp N scope cl G.objs.size s2 H2 fp = X'
  have I0 : Inv X' [(s2.heap.objs.size, lstO [] 0)] (freeSt k fr σ) H2 { s2 with heap := h1, toks := s2.toks + ([] : List (Str × Value)).length } := by
    rw [← hX]
    exact cmp_start S F I f2 hfo hcl hcf (by rw [hC]; exact Nat.le_succ _) rfl rfl old hns hacc (Nat.le_refl _) hDC fun v z => by cases z
  have eP : X'.prog = X.prog := by rw [← hX]; rfl
  have eW : X'.w = X.w := by rw [← hX]; rfl
  have eK : X'.K = X.K := by rw [← hX]; rfl
  have eA : X'.A = X.A := by rw [← hX]; rfl
  have eC : X'.calm = true := by rw [← hX]; exact hc
  have eE : X'.env = compEnvC scope cl G.objs.size X.env := by rw [← hX]; rfl
  have eX : X'.xe = fun _ _ => False := by rw [← hX]; rfl
  have eF : X'.ex = fp := by rw [← hX]; rfl
  have eS : X'.s₀ = s2 := by rw [← hX]; rfl
  have ePn : X'.pn = [] := by rw [← hX]; rfl
  have T' : Turn X'.prog X'.w X'.K tg J fp it tn := by rw [eP, eW, eK]; exact T
  have hg' : PG X' tg g := by rw [← hX]; exact hg _ _ _ _ _
  have hi' : PF X' ifs tc := by rw [← hX]; exact hi _ _ _ _ _
  have he' : PE X' elt te := by rw [← hX]; exact he _ _ _ _ _
  have stat : ∀ {o : Obj} {H' : Hp}, (∀ b ∈ fp, H' b = none) → ∀ b ∈ fp, FpOk X' [(s2.heap.objs.size, o)] H' b := fun {o H'} hn b hb => by
    have ok := I0.ok
    obtain ⟨z1, z2⟩ := ok.exf b (by rw [eF]; exact hb)
    refine ⟨hn b hb, z1, ok.exfs b (by rw [eF]; exact hb), .inl (by rw [eF]; exact hb), z2, fun p hp => ?_⟩
    rw [ePn] at hp
    have hp' : p = (s2.heap.objs.size, o) := by simpa using hp
    rw [hp']
    exact fun z => ltD b hb z.symm
  -- back to the block's first names
  have back : ∀ {pl : List (Addr × Obj)} {σ6 : St} {H6 : Hp} {s6 : Shared}, Inv X' pl σ6 H6 s6 → (σ6.length = (freeSt k fr σ).length ∧ ∀ i, k ≤ i → σ6[i]? = (freeSt k fr σ)[i]?) → Inv X' pl (freeSt k fr σ) H6 s6 := fun {pl σ6 H6 s6} I6 ⟨l1, l2⟩ =>
    I6.weak l1.symm fun i v e => by
      by_cases hik : i < k
      · unfold freeSt at e
        rw [List.getElem?_append_left (by simpa using hik), List.getElem?_replicate] at e
        split at e <;> cases e
      · rw [l2 i (by lia)]; exact e
  have loop : codeAny (model X.prog X.w) X.A (.compLoop (.ListComp elt [⟨tg, iter, ifs, 0⟩] scope pos) 0 (.ref it) (.ref s2.heap.objs.size) (compEnvC scope cl G.objs.size X.env))
      (RR (.ref s2.heap.objs.size) G.objs.size) { s2 with heap := h1, toks := s2.toks + ([] : List (Str × Value)).length } := by
    rw [← eP, ← eW, ← eA, ← eE]
    refine cmp_loop (fun n s' => ∃ i ys its nn H', Inv X' [(s2.heap.objs.size, lstO its nn)] (freeSt k fr σ) H' s' ∧ Vals ys its ∧ ys.length ≤ sizeLine ∧ tn i s'.heap ∧ (∀ b ∈ fp, H' b = none) ∧ W i n ys H') ?_ m0
      ⟨0, [], [], 0, H2, I0, .nil, Nat.zero_le _, T.keep _ _ _ st fun b _ o e => old b o e, fun b hb => (f2 b hb).1, w0⟩
    rintro n s' ⟨i, ys, its, nn, H', I', rv, hz, st', fr', w'⟩
    rcases turn i n ys H' w' with ⟨stop, fin⟩ | ⟨go, hlt, Nx, hN, step⟩
    · refine thn (T'.done X' rfl rfl rfl eC i _ s' _ H' _ I' (stat fr') st' stop) fun r s1 ⟨hr, I1⟩ => .inl ⟨hr, ?_⟩
      rw [← hX] at I1
      exact hRR _ _ s1 its nn ys H' _ (Nat.le_refl _) (by rw [hC]; exact Nat.le_succ _) hDC I1 rv hz fin
    · refine thn (T'.item X' rfl rfl rfl eC i _ s' _ H' _ I' (stat fr') st' go) fun r s1 ⟨u, hr, h4⟩ => .inr ⟨u, hr, thn h4 fun _ s5 ⟨x, H5, I5, r5, y5, st5, fr5⟩ => ?_⟩
      have I5' := I5.pinned (stat fr5) (T.obj _ _ st5)
      have hgx := hg' _ s5 _ H5 x u _ I5' r5 (hk _ _ _ _ (step x H5 y5))
      rw [eX] at hgx
      refine thn hgx fun _ s6 ⟨σ6, H6, I6, l6, q6⟩ => ?_
      have hix := hi' _ s6 σ6 H6 _ I6 q6
      rw [eX] at hix
      have pinD : ∀ {σ7 : St} {H7 : Hp} {s7 : Shared}, Inv X' ([(s2.heap.objs.size, lstO its nn)] ++ pinsAt fp s5.heap) σ7 H7 s7 → s7.heap.get? s2.heap.objs.size = some (lstO its nn) ∧ H7 s2.heap.objs.size = none ∧ s2.heap.objs.size ≠ X'.env.locals := fun I7 => by
        obtain ⟨z1, z2, z3, _⟩ := I7.pin (s2.heap.objs.size, lstO its nn) (List.mem_append_right _ (List.mem_append_left _ (by simp)))
        exact ⟨z1, z2, z3⟩
      have iter2 : ∀ {σ7 : St} {H7 : Hp} {s7 : Shared}, Inv X' ([(s2.heap.objs.size, lstO its nn)] ++ pinsAt fp s5.heap) σ7 H7 s7 → tn (i + 1) s7.heap ∧ ∀ b ∈ fp, H7 b = none := fun {σ7 H7 s7} I7 =>
        ⟨T.keep _ _ _ st5 fun b hb o e => (I7.pin (b, o) (List.mem_append_right _ (List.mem_append_right _ (mem_pinsAt hb e)))).1, fun b hb => by
          obtain ⟨o, e, d⟩ := T.obj _ _ st5 b hb
          exact (I7.pin (b, o) (List.mem_append_right _ (List.mem_append_right _ (mem_pinsAt hb e)))).2.1⟩
      refine thn hix fun ok s7 ⟨H7, I7, q7⟩ => ?_
      cases ok with
      | false =>
        obtain ⟨m', hm, w7⟩ := hN _ _ (show Nx ys H7 from q7)
        obtain ⟨a1, a2⟩ := iter2 I7
        exact ⟨m', hm, i + 1, ys, its, nn, H7, back I7.unpinned l6, rv, hz, a1, a2, w7⟩
      | true =>
        have hex := he' _ s7 σ6 H7 _ I7 (show te σ6 H7 _ from q7)
        rw [eX] at hex
        refine thn hex fun v s8 ⟨y, H8, I8, r8, q8⟩ => ?_
        obtain ⟨z1, z2, z3⟩ := pinD I8
        obtain ⟨a1, a2⟩ := iter2 I8
        obtain ⟨m', hm, w8⟩ := hN _ _ q8
        have hl := rv.length
        refine append_at (hsz := by show its.toArray.size ≤ sizeLine; rw [List.size_toArray]; lia) z1 fun h9 sb9 hD9 => ?_
        have I8' : Inv X' (pinsAt fp s5.heap) (freeSt k fr σ) H8 s8 := (back I8 l6).pins_of fun p hp => I8.pin p (List.mem_append_right _ (List.mem_append_right _ hp))
        have I9 : Inv X' (pinsAt fp s5.heap) (freeSt k fr σ) H8 { s8 with heap := h9 } := I8'.turned (t' := s8.toks) (it := s2.heap.objs.size) (fun b o hb e => (sb9.2 b hb).trans e) z2 z3 (.inr (by rw [eS]; exact Nat.le_refl _))
          (fun y c e z => by
            obtain ⟨v', q⟩ := I0.cell y c e
            have hcl' : cl.lookup y = some c := by rw [eE] at e; exact e
            obtain ⟨v2, q2⟩ := I.cell y c (hcl y c hcl')
            rw [z] at q2
            exact absurd q2.lt (Nat.lt_irrefl _))
          (fun p hp z => by
            rw [ePn] at hp
            exact ltD p.1 (of_pinsAt hp).1 z)
        have I9' : Inv X' [(s2.heap.objs.size, lstO (its ++ [v]) (nn + 1))] (freeSt k fr σ) H8 { s8 with heap := h9 } := I9.pins_of fun p hp => by
          have hp' : p = (s2.heap.objs.size, lstO (its ++ [v]) (nn + 1)) := by simpa using hp
          rw [hp']
          refine ⟨?_, z2, z3, ?_, fun v z => by cases z⟩
          · show h9.get? _ = _
            rw [hD9]
            simp [lstO]
          · exact (I8.pin (s2.heap.objs.size, lstO its nn) (List.mem_append_right _ (List.mem_append_left _ (by simp)))).2.2.2.1
        refine ⟨m', hm, i + 1, ys ++ [y], its ++ [v], nn + 1, H8, I9', rv.append (.cons r8 .nil), by rw [List.length_append]; simp; lia, ?_, a2, w8⟩
        exact T.keep _ _ _ a1 fun b hb o e => (sb9.2 b (ltD b hb)).trans e
  exact codeAny_compStart_list loop (T.self _ 0 _ _ _ (T.keep _ _ _ st fun b _ o e => old b o e) loop)

theorem cmp_off {s2 s' : Shared} {fp : List Addr} {cl : List (Str × Addr)} {H2 H' : Hp} {σ' : St} {D C : Addr} {o : Obj} {u : HO} {h' : Heap} {σ0 : St} (I : Inv X pins σ H2 s2) (hC : s2.heap.objs.size ≤ C) (hDC : D ≠ C)
    (J : Inv (X.cmp N scope cl C s2 H2 fp) [(D, o)] σ' H' s') {s9 : Shared} (I' : Inv X pins σ0 (upd H' D u) s9) (sb : Heap.SameBut C s9.heap h') : Inv X pins σ0 (upd H' D u) { s9 with heap := h' } := by
  refine I'.turned (t' := s9.toks) (it := C) (fun b o hb e => (sb.2 b hb).trans e) (by rw [upd_ne (Ne.symm hDC)]; exact J.free) (Nat.ne_of_gt (Nat.lt_of_lt_of_le I.lt hC)) (.inr (Nat.le_trans I.sz hC)) (fun y c e z => ?_) fun p hp z => ?_
  · obtain ⟨v, q⟩ := I.cell y c e
    exact absurd (Nat.lt_of_lt_of_le q.lt (by rw [z]; exact hC)) (Nat.lt_irrefl _)
  · exact absurd (Nat.lt_of_lt_of_le (Heap.lt_size (I.pin p hp).1) (by rw [z]; exact hC)) (Nat.lt_irrefl _)

theorem pe_comp (S : CmpScope X N scope) (F : CmpFree X N scope k fr) (hc : X.calm = true) (hit : PI X tg iter wi)
    (hg : ∀ cl C s H fp, PG (X.cmp N scope cl C s H fp) tg g) (hk : GKeeps k g) (hi : ∀ cl C s H fp, PF (X.cmp N scope cl C s H fp) ifs tc) (he : ∀ cl C s H fp, PE (X.cmp N scope cl C s H fp) elt te)
    (hs : ∀ x, foldedSetIterable iter X.env x = pure x := by intro _; rfl) : PE X (.ListComp elt [⟨tg, iter, ifs, 0⟩] scope pos) (tComp k fr wi g tc te) := by
  intro pins s σ H Q I h
  rw [eval_ListComp]
  obtain ⟨cl, ecl, hcl, hcf⟩ := clos_get (scope := scope) (env := X.env) fun y hy => I.ok.has y (.inl (S.fre2 y hy))
  refine wpAny_comprehension_free (use := none) rfl hs ecl S.kind S.loc (thn (hit pins s σ H _ I h) fun v s1 h1 => thn h1 fun itv s2 h2 => ?_)
  obtain ⟨it, fp, tn, J, H2, e, I2, T, st2, f2, W, ⟨m0, w0⟩, turn⟩ := h2
  subst e
  refine cmp_block S F hc hg hk hi he I2 T st2 f2 w0 (Fin := fun ys H' => ∀ D, H' D = none → Q (.ref D) (upd H' D (.lst ys))) turn hcl hcf (RR := fun acc C => compPost (model X.prog X.w) X.A X.xe none (EP X pins σ Q) acc C) ?_
  intro D C s' its n ys H' σ' hD hC hDC J' rv hz fin
  obtain ⟨hn, I'⟩ := cmp_back I2 f2 J' rv hz hD
  obtain ⟨m, hm, _⟩ := J'.loc
  exact ⟨m, hm, fun h' sb => ⟨.ref D, _, cmp_off I2 hC hDC J' I' sb, rfl, fin D hn⟩⟩

theorem ps_comp {i : Nat} {y : Str} {py spos : Pos} (hN : X.N.Nodup) (hi' : X.N[i]? = some y) (hx : Loc X.env.scope y) (S : CmpScope X N scope) (F : CmpFree X N scope k fr) (hc : X.calm = true) (hit : PI X tg iter wi)
    (hg : ∀ cl C s H fp, PG (X.cmp N scope cl C s H fp) tg g) (hk : GKeeps k g) (hi : ∀ cl C s H fp, PF (X.cmp N scope cl C s H fp) ifs tc) (he : ∀ cl C s H fp, PE (X.cmp N scope cl C s H fp) elt te)
    (hsw : swapsWith (.ListComp elt [⟨tg, iter, ifs, 0⟩] scope pos) (some (.Name y py)) spos.line X.env = pure true)
    (hs : ∀ x, foldedSetIterable iter X.env x = pure x := by intro _; rfl) (hf : X.fn y = true ∨ X.env.scope.names.lookup y = some .local := by first | exact .inl rfl | exact .inr rfl | assumption) :
    PS X (.Assign [.Name y py] (.ListComp elt [⟨tg, iter, ifs, 0⟩] scope pos) spos) (tAsg (tComp k fr wi g tc te) (gName i)) := by
  intro pins s σ H D0 I h
  obtain ⟨cl, ecl, hcl, hcf⟩ := clos_get (scope := scope) (env := X.env) fun y hy => I.ok.has y (.inl (S.fre2 y hy))
  rw [exec_Assign_Name_used _ _ _ _ hsw]
  refine wpAny_bind (wpAny_standAt (wpAny_bind ?_))
  show wpAny _ X.A (do let _ ← comprehension (.ListComp elt [⟨tg, iter, ifs, 0⟩] scope pos) scope X.env _ (newList []) false (eval iter X.env) (some (assign (.Name y py) X.env))) _ _ s
  refine wpAny_bind (wpAny_mono (wpAny_comprehension_free (use := some (assign (.Name y py) X.env)) (Q := fun _ s' => SP X pins D0 .next s') rfl hs ecl S.kind S.loc
    (thn (hit pins s σ H _ I h) fun v s1 h1 => thn h1 fun itv s2 h2 => ?_)) (fun _ s' hq => wpAny_pure (wpAny_pure hq)) fun _ _ e => e)
  obtain ⟨it, fp, tn, J, H2, e, I2, T, st2, f2, W, ⟨m0, w0⟩, turn⟩ := h2
  subst e
  refine cmp_block S F hc hg hk hi he I2 T st2 f2 w0 (Fin := fun ys H' => ∀ D, H' D = none → D0.nx (σ.set i (some (.ref D))) (upd H' D (.lst ys))) turn hcl hcf
    (RR := fun acc C => compPost (model X.prog X.w) X.A X.xe (some (assign (.Name y py) X.env)) (fun _ s' => SP X pins D0 .next s') acc C) ?_
  intro D C s' its n ys H' σ' hD hC hDC J' rv hz fin
  obtain ⟨hn, I'⟩ := cmp_back I2 f2 J' rv hz hD
  obtain ⟨m, hm, _⟩ := J'.loc
  show wpAny _ _ (assign (.Name y py) X.env (.ref D)) _ _ s'
  refine wpAny_assign_Name (store_ok2 I' hN hi' hx (v := .ref D) rfl (fun s9 I9 ⟨a, sba, ha⟩ => ?_) hf)
  have hCa : C ≠ a := by
    rcases ha with z | z
    · rw [z]; exact Nat.ne_of_gt (Nat.lt_of_lt_of_le I2.lt hC)
    · obtain ⟨v, q⟩ := I2.cell y a z
      exact fun z => absurd (Nat.lt_of_lt_of_le q.lt (by rw [← z]; exact hC)) (Nat.lt_irrefl _)
  exact ⟨m, hm.sameBut sba hCa, fun h' sb => ⟨_, _, cmp_off I2 hC hDC J' I9 sb, fin D hn⟩⟩
end

noncomputable def cmpOk (sc scope : Scope) (NX N : List Str) (k : Nat) (fr : List Nat) : Bool :=
  scope.names.all (fun p => p.2 != .cell) && (scope.names.all (fun p => p.2 != .local || scope.names.lookup p.1 == some .local) && (scope.names.all (fun p => p.2 != .free || sc.names.lookup p.1 == some .cell) &&
    (decide N.Nodup && (N.length == k + fr.length && (fr.zip (N.drop k)).all fun q => NX[q.1]? == some q.2 && scope.names.lookup q.2 == some .free))))
theorem cmpS {X : Cx} {sc scope : Scope} {NX N : List Str} {k : Nat} {fr : List Nat} (hX : X.env.scope = sc) (hk : scope.kind = .function) (h : cmpOk sc scope NX N k fr = true) : CmpScope X N scope := by
  unfold cmpOk at h
  simp only [Bool.and_eq_true, List.all_eq_true, decide_eq_true_eq] at h
  obtain ⟨h1, h2, h3, h4, h5, h6⟩ := h
  have f2 : ∀ y, (y, NameKind.free) ∈ scope.names → X.env.kindOf y = some .cell := fun y hy => by
    have := h3 _ hy
    show X.env.scope.names.lookup y = some .cell
    rw [hX]
    simpa using this
  refine ⟨hk, fun y hy => by simpa using h1 y hy, fun y hy e => ?_, fun y e => f2 y (PySem.mem_of_lookup e), f2, h4, fun y e => PySem.mem_of_lookup e⟩
  have := h2 y hy
  rw [e] at this
  simpa using this
theorem cmpF {X : Cx} {sc scope : Scope} {NX N : List Str} {k : Nat} {fr : List Nat} (hN : X.N = NX) (h : cmpOk sc scope NX N k fr = true) : CmpFree X N scope k fr := by
  unfold cmpOk at h
  simp only [Bool.and_eq_true, List.all_eq_true, decide_eq_true_eq] at h
  obtain ⟨h1, h2, h3, h4, h5, h6⟩ := h
  refine ⟨by simpa using h5, fun j i y e1 e2 => ?_⟩
  have hm : (i, y) ∈ fr.zip (N.drop k) := by
    refine List.mem_of_getElem? (i := j) ?_
    rw [List.getElem?_zip_eq_some]
    exact ⟨e1, by rw [List.getElem?_drop]; exact e2⟩
  have := h6 _ hm
  rw [hN]
  simpa using this

section
variable {X : Cx} {elt iter : Expr} {ifs : List Expr} {scope : Scope} {pos px : Pos} {wi : TI} {tc : TT} {te : TE} {x : Str}
theorem cmp_nd {sc scope : Scope} {NX N : List Str} {k : Nat} {fr : List Nat} (h : cmpOk sc scope NX N k fr = true) : N.Nodup := by
  unfold cmpOk at h
  simp only [Bool.and_eq_true, decide_eq_true_eq] at h
  exact h.2.2.2.1
theorem pe_cmp1 (sc : Scope) (NX : List Str) (fs : List Str) (fr : List Nat) (hc : X.calm = true) (hit : PI X (.Name x px) iter wi) (hi : ∀ cl C s H fp, PF (X.cmp (x :: fs) scope cl C s H fp) ifs tc) (he : ∀ cl C s H fp, PE (X.cmp (x :: fs) scope cl C s H fp) elt te)
    (ok : cmpOk sc scope NX (x :: fs) 1 fr = true) (hX : X.env.scope = sc := by rfl) (hN : X.N = NX := by rfl) (hk : scope.kind = .function := by rfl) (hx : scope.names.lookup x = some .local := by rfl)
    (hs : ∀ x, foldedSetIterable iter X.env x = pure x := by intro _; rfl) : PE X (.ListComp elt [⟨.Name x px, iter, ifs, 0⟩] scope pos) (tComp 1 fr wi (gName 0) tc te) :=
  pe_comp (cmpS hX hk ok) (cmpF hN ok) hc hit (fun cl C s H fp => pg_name (i := 0) (cmp_nd ok) rfl (Or.inl (lookup_relabel_local hx)) (.inr (lookup_relabel_local hx))) (gk_name (by decide)) hi he hs
theorem ps_cmp1 (sc : Scope) (NX : List Str) (fs : List Str) (fr : List Nat) {i : Nat} {y : Str} {py spos : Pos} (hNd : X.N.Nodup) (hi' : X.N[i]? = some y) (hy : Loc X.env.scope y) (hc : X.calm = true) (hit : PI X (.Name x px) iter wi)
    (hi : ∀ cl C s H fp, PF (X.cmp (x :: fs) scope cl C s H fp) ifs tc) (he : ∀ cl C s H fp, PE (X.cmp (x :: fs) scope cl C s H fp) elt te)
    (ok : cmpOk sc scope NX (x :: fs) 1 fr = true) (hsw : swapsWith (.ListComp elt [⟨.Name x px, iter, ifs, 0⟩] scope pos) (some (.Name y py)) spos.line X.env = pure true)
    (hX : X.env.scope = sc := by rfl) (hN : X.N = NX := by rfl) (hk : scope.kind = .function := by rfl) (hx : scope.names.lookup x = some .local := by rfl)
    (hs : ∀ x, foldedSetIterable iter X.env x = pure x := by intro _; rfl) (hf : X.fn y = true ∨ X.env.scope.names.lookup y = some .local := by first | exact .inl rfl | exact .inr rfl | assumption) :
    PS X (.Assign [.Name y py] (.ListComp elt [⟨.Name x px, iter, ifs, 0⟩] scope pos) spos) (tAsg (tComp 1 fr wi (gName 0) tc te) (gName i)) :=
  ps_comp hNd hi' hy (cmpS hX hk ok) (cmpF hN ok) hc hit (fun cl C s H fp => pg_name (i := 0) (cmp_nd ok) rfl (Or.inl (lookup_relabel_local hx)) (.inr (lookup_relabel_local hx))) (gk_name (by decide)) hi he hsw hs hf
end

theorem comp_range {lo : Int} {n : Nat} {G : V → Hp → (List V → Hp → Prop) → List V → Prop} {Fin : List V → Hp → Prop} {H : Hp} (Pv : Nat → List V → Hp → Prop) (h0 : Pv 0 [] H)
    (hs : ∀ i ys H, i < n → Pv i ys H → ys.length < sizeLine ∧ G (.int (lo + i)) H (Pv (i + 1)) ys) (hd : ∀ ys H, Pv n ys H → Fin ys H) :
    ∃ W : Nat → Nat → List V → Hp → Prop, (∃ m, W 0 m [] H) ∧ ∀ i m ys H, W i m ys H →
      ((Itr lo n).stop i H ∧ Fin ys H) ∨ ((Itr lo n).go i H ∧ ys.length < sizeLine ∧ ∃ Nx : List V → Hp → Prop, (∀ ys' H', Nx ys' H' → ∃ m', m' < m ∧ W (i + 1) m' ys' H') ∧ ∀ x H', (Itr lo n).yld i H x H' → G x H' Nx ys) := by
  refine ⟨fun i m ys H => m = n - i ∧ i ≤ n ∧ Pv i ys H, ⟨n, by simp, Nat.zero_le _, h0⟩, ?_⟩
  rintro i m ys H ⟨rfl, hi, p⟩
  by_cases hlt : i < n
  · obtain ⟨a1, a2⟩ := hs i ys H hlt p
    refine .inr ⟨hlt, a1, Pv (i + 1), fun ys' H' p' => ⟨n - (i + 1), by lia, rfl, hlt, p'⟩, fun x H' y => ?_⟩
    obtain ⟨e, y⟩ := y
    subst e y
    exact a2
  · have e : i = n := by lia
    subst e
    exact .inl ⟨Nat.le_refl _, hd ys H p⟩
theorem comp_list {K : PySem.W.Frag} {a : Addr} {xs : List V} {G : V → Hp → (List V → Hp → Prop) → List V → Prop} {Fin : List V → Hp → Prop} {H : Hp} (Pv : Nat → List V → Hp → Prop) (h0 : Pv 0 [] H) (hl : ∀ i ys H, i ≤ xs.length → Pv i ys H → SqL K H a xs)
    (hs : ∀ i x ys H, xs[i]? = some x → Pv i ys H → ys.length < sizeLine ∧ G x H (Pv (i + 1)) ys) (hd : ∀ ys H, Pv xs.length ys H → Fin ys H) :
    ∃ W : Nat → Nat → List V → Hp → Prop, (∃ m, W 0 m [] H) ∧ ∀ i m ys H, W i m ys H →
      ((Itl K a).stop i H ∧ Fin ys H) ∨ ((Itl K a).go i H ∧ ys.length < sizeLine ∧ ∃ Nx : List V → Hp → Prop, (∀ ys' H', Nx ys' H' → ∃ m', m' < m ∧ W (i + 1) m' ys' H') ∧ ∀ x H', (Itl K a).yld i H x H' → G x H' Nx ys) := by
  refine ⟨fun i m ys H => m = xs.length - i ∧ i ≤ xs.length ∧ Pv i ys H, ⟨xs.length, by simp, Nat.zero_le _, h0⟩, ?_⟩
  rintro i m ys H ⟨rfl, hi, p⟩
  have q := hl i ys H hi p
  by_cases hlt : i < xs.length
  · obtain ⟨a1, a2⟩ := hs i xs[i] ys H (by simp [hlt]) p
    refine .inr ⟨⟨xs, xs[i], q, by simp [hlt]⟩, a1, Pv (i + 1), fun ys' H' p' => ⟨xs.length - (i + 1), by lia, rfl, hlt, p'⟩, fun x H' y => ?_⟩
    obtain ⟨e, y⟩ := y
    subst e
    have hx := y xs q
    rw [show xs[i]? = some xs[i] by simp [hlt]] at hx
    cases hx
    exact a2
  · have e : i = xs.length := by lia
    subst e
    exact .inl ⟨⟨xs, q, Nat.le_refl _⟩, hd ys H p⟩
end L2
namespace L2
open PySem PySem.Spec PyProof.Rows

section
variable {X : Cx}
theorem call_isi : CallR X (.builtin "isinstance") (fun xs H Q => ∃ x t c b, xs = [x, .ty c] ∧ TyOf X.K H x t ∧ PySem.W.kitOne X.K t (.type c) = some b ∧ Q (.bl b) H) := by
  intro pins s σ H xs us Q I r h
  obtain ⟨x, t, c, b, rfl, ty, e, q⟩ := h
  obtain ⟨u, v, rfl, rx, ry⟩ := vals2 r
  cases ry
  exact isinst_ok I rx ty e fun tk => ⟨.bl b, H, I.tok tk, rfl, q⟩

theorem seen {pins : List (Addr × Obj)} {σ : St} {H : Hp} {s : Shared} {l : Addr} {h' : Heap} {tk : Nat} (I : Inv X pins σ H s) (hk : ∀ b o, b ∉ [s.heap.objs.size] → (s.heap.push { cls := .type "list_iterator", data := .fields #[.ref l, .int 0 0] }).get? b = some o → h'.get? b = some o) :
    Inv X pins σ H { s with heap := h', toks := tk } := I.kept (old_kept hk)

theorem all_range {bs : List Bool} : ((List.range bs.length).all fun i => (bs[i]?).getD true) = bs.all id := by
  induction bs with
  | nil => rfl
  | cons b r ih =>
    rw [List.length_cons, List.range_succ_eq_map, List.all_cons, List.all_map, List.all_cons]
    congr 1
theorem call_all (hc : X.calm = true) : CallR X (.builtin "all") (fun xs H Q => ∃ (p : Addr) (bs : List Bool), xs = [.ref p] ∧ SqL X.K H p (bs.map V.bl) ∧ Q (.bl (bs.all id)) H) := by
  intro pins s σ H xs us Q I r h
  obtain ⟨p, bs, rfl, hq, q⟩ := h
  obtain ⟨u, rfl, rx⟩ := vals1 r
  cases rx
  obtain ⟨its, rv, pl, hz⟩ := I.list hq
  have hl := pl.isList
  have hlt : p < s.heap.objs.size := by obtain ⟨_, e, _⟩ := hl; exact Heap.lt_size e
  have hn : its.toArray.size = bs.length := by rw [List.size_toArray, ← rv.length, List.length_map]
  refine call_all_walk (wpAny_pyIter_list hl ?_)
  refine ⟨_, _, _, _, _, _, fun i => (bs[i]?).getD true, rfl, Walks.list (A := X.A.in1) (I.ok.hd hc) s.heap.objs.size p (Nat.ne_of_lt hlt) its.toArray, ⟨⟨_, Heap.get?_push_size _ rfl, rfl, rfl⟩, hl.push _⟩, ?_, fun h' tk hk => ?_⟩
  · intro i v s' Q' E' hP hQ
    have hv : its[i]? = some v := by simpa using hP
    cases eb : bs[i]? with
    | none =>
      have := rv.none_of (i := i) (by rw [List.getElem?_map, eb]; rfl)
      rw [this] at hv; cases hv
    | some b =>
      obtain ⟨u, hu, ru⟩ := rv.get (i := i) (x := .bl b) (by rw [List.getElem?_map, eb]; rfl)
      rw [hu] at hv; cases hv
      cases ru
      refine wpAny_truthy_bool ?_
      have e : (bs[i]?).getD true = b := by rw [eb]; rfl
      rw [← e]; exact hQ
  · rw [hn, all_range]
    exact ⟨.bl _, H, (show Inv X pins σ H { s with heap := h', toks := tk } from seen I hk), rfl, q⟩

theorem pre_take (ns : List Int) : ∀ k, k ≤ ns.length → preSum (fun i => (ns[i]?).getD 0) k = (ns.take k).sum
  | 0, _ => by simp [preSum]
  | k + 1, h => by
    have e : ns[k]? = some (ns[k]'(by lia)) := by simp
    rw [preSum, pre_take ns k (by lia), List.take_add_one, e, List.sum_append]
    simp
noncomputable def DatV (P : Program) (w : World) (H : Hp) (x : V) (d : PyData) : Prop := ∀ (h : Heap) (v : Value), HOk P w H h → RelV x v → ∃ as, Reads h v d as
section
variable {P : Program} {w : World} {H : Hp}
theorem datI (i : Int) : DatV P w H (.int i) (.int i) := fun h v _ r => by obtain ⟨t, rfl⟩ := r; exact ⟨_, .int i t⟩
theorem dats {h : Heap} (ok : HOk P w H h) {xs : List V} {its : List Value} {ds : List PyData} (a : Vals xs its) (b : Paired (DatV P w H) xs ds) : ∃ as, ReadsAll h its ds as := by
  induction a generalizing ds with
  | nil => cases b; exact ⟨_, .nil⟩
  | cons r t ih =>
    cases b with
    | cons q u =>
      obtain ⟨as, h1⟩ := q _ _ ok r
      obtain ⟨bs, h2⟩ := ih u
      exact ⟨_, .cons h1 h2⟩
theorem datL {a : Addr} {xs : List V} {ds : List PyData} (e : H a = some (.lst xs)) (r : Paired (DatV P w H) xs ds) : DatV P w H (.ref a) (.list ds) := fun h v ok rv => by
  cases rv
  obtain ⟨_, its, n, rs, e1⟩ := ok a _ e
  obtain ⟨as, h1⟩ := dats ok rs r
  exact ⟨_, .list e1 rfl rfl (by simpa using h1)⟩
theorem datIs : ∀ ns : List Int, Paired (DatV P w H) (ns.map V.int) (ns.map PyData.int)
  | [] => .nil
  | n :: r => .cons (datI n) (datIs r)
end
theorem lays : ∀ ns : List Int, PyData.canLayAll0 (ns.map PyData.int) = true
  | [] => rfl
  | n :: r => by
    rw [List.map_cons, PyData.canLayAll0, lays r]
    rfl
theorem depths : ∀ ns : List Int, PyData.depthAll (ns.map PyData.int) = 0
  | [] => rfl
  | n :: r => by
    rw [List.map_cons, PyData.depthAll, depths r]
    rfl
inductive rEqD (P : Program) (w : World) (neg : Bool) (x : V) (y : V) (H : Hp) (Q : VK) : Prop
  | mk : ∀ dx dy, (DatV P w H x dx) → (DatV P w H y dy) → ((dx.canLay0 = true ∧ dy.canLay0 = true ∧ dx.depth ≤ 60)) → (Q (.bl (if neg = true then !PyData.eqv dx dy else PyData.eqv dx dy)) H) → rEqD P w neg x y H Q
theorem op_eqD (hu : X.A.units + 64 < cLine) : OpR X (compareOp .Eq) (rEqD X.prog X.w false) := by
  intro pins s σ H x y v u Q I rx ry h
  obtain ⟨dx, dy, h1, h2, ⟨c1, c2, c3⟩, q⟩ := h
  obtain ⟨as, r1⟩ := h1 _ _ I.hok rx
  obtain ⟨bs, r2⟩ := h2 _ _ I.hok ry
  refine SeqAt.compareEq_reads r1 r2 c1 c2 ?_ ⟨.bl _, H, I, rfl, q⟩
  have : min dx.depth dy.depth ≤ dx.depth := Nat.min_le_left _ _
  lia
theorem op_neD (hu : X.A.units + 64 < cLine) : OpR X (compareOp .NotEq) (rEqD X.prog X.w true) := by
  intro pins s σ H x y v u Q I rx ry h
  obtain ⟨dx, dy, h1, h2, ⟨c1, c2, c3⟩, q⟩ := h
  obtain ⟨as, r1⟩ := h1 _ _ I.hok rx
  obtain ⟨bs, r2⟩ := h2 _ _ I.hok ry
  refine SeqAt.compareNe_reads r1 r2 c1 c2 ?_ ⟨.bl _, H, I, rfl, q⟩
  have : min dx.depth dy.depth ≤ dx.depth := Nat.min_le_left _ _
  lia
theorem eq_self {P : Program} {w : World} {neg : Bool} {x y : V} {H : Hp} {Q : VK} {d : PyData} (h1 : DatV P w H x d) (h2 : DatV P w H y d) (c1 : d.canLay0 = true) (c2 : d.depth ≤ 60) (q : Q (.bl (!neg)) H) : rEqD P w neg x y H Q := by
  refine ⟨d, d, h1, h2, ⟨c1, c1, c2⟩, ?_⟩
  rw [SeqAt.eqv_refl d c1]
  cases neg <;> exact q

end
end L2

namespace L2
open PySem PySem.Spec PyProof.Rows
theorem no_len_rev : typeLookup (.type "list_reverseiterator") "__len__" = pure none := by rw [typeLookup_type, builtinLookup_eq_fast]; kernel_rfl
theorem hint_rev : typeLookup (.type "list_reverseiterator") "__length_hint__" = pure (some (.builtin "list_reverseiterator.__length_hint__")) := by rw [typeLookup_type, builtinLookup_eq_fast]; kernel_rfl
theorem sub_lri_self : isSubtype (.type "list_reverseiterator") (.type "list_reverseiterator") = pure true := by rw [isSubtype_type]; kernel_rfl
section
variable {prog : Program} {w : World} {A : Around} {s : Shared}
theorem no_room_rev {E : Value → Shared → Prop} {J l : Addr} {i : Int} {Q : Bool → Shared → Prop} (hit : s.heap.IsRevIter J l i) (h : Q false s) : wpAny (model prog w) A (Builtin.List.listLengthHint (.ref J)) Q E s := by
  unfold Builtin.List.listLengthHint
  refine wpAny_bind (wpAny_specialOf hit.typeIs no_len_rev ?_)
  show wpAny _ A (specialOf (Value.ref J) (Str.ofString "__length_hint__") >>= _) _ _ _
  refine wpAny_bind (wpAny_specialOf hit.typeIs hint_rev ?_)
  generalize hid : ("list_reverseiterator.__length_hint__" : String) = id0
  wp_delta
  rw [show splitId id0 = some ("list_reverseiterator", "__length_hint__") from by subst hid; decide +kernel]
  subst hid
  refine wpAny_bind (wpAny_isInstance (T := "list_reverseiterator") (b := true) hit.typeIs sub_lri_self ?_)
  refine wpAny_ite_split (fun hab => absurd hab (by decide)) (fun _ => ?_)
  refine wpAny_ite_split (fun _ => ?_) (fun hab => absurd (by decide +kernel) hab)
  refine wpAny_ite_split (fun hab => absurd hab (by decide +kernel)) (fun _ => ?_)
  exact wpAny_pure h
theorem extend_rev {R : Result → Shared → Prop} {J l : Addr} {items : Array Value} (hh : A.handled = none) (hne : l ≠ J) (hit : s.heap.IsRevIter J l ((items.size : Int) - 1)) (hl : s.heap.IsList l items) (hz : items.size ≤ sizeLine) (S : Addr) (res : Value) (c0 : Nat)
    (hS : s.heap.get? S = some { cls := .type "list", data := .seq #[] c0 }) (hSJ : S ≠ J) (hSl : S ≠ l)
    (hR : ∀ h' tk acc c', (∀ b o, b ≠ S → b ≠ J → s.heap.get? b = some o → h'.get? b = some o) → h'.get? S = some { cls := .type "list", dict := none, data := .seq acc c', slots := #[] } →
      ItemsOf (fun i v => items[items.size - 1 - i]? = some v) acc items.size → R (.ok (.ret res)) { s with heap := h', toks := tk }) :
    wpAny (model prog w) A.in1 (Builtin.List.listExtendWith (.ref S) (.ref J) res)
      (fun fin s' => match fin with | .done f => R (.ok f) s' | .again c' => c'.quiet = true ∧ codeAny (model prog w) A c' R s') (fun e s' => R (.error e) s') s := by
  have W := (Walks.listRev (prog := prog) (w := w) (A := A.in1) hh J l hne items).toS
  have hSf : S ∉ [J, l] := fun hm => by
    rcases List.mem_cons.mp hm with e | hm
    · exact hSJ e
    · exact hSl (by simpa using hm)
  unfold Builtin.List.listExtendWith
  refine wpAny_bind (wpAny_typeOf hit.typeIs ?_)
  have h1 : Builtin.List.listSameRef (.ref S) (.ref J) = false := by simp [Builtin.List.listSameRef, hSJ]
  have h2 : (Value.type "list_reverseiterator" == Value.type "list") = false := by decide
  have h3 : (Value.type "list_reverseiterator" == Value.type "tuple") = false := by decide
  simp only [h1, h2, h3, Bool.or_false, Bool.false_eq_true, if_false]
  refine wpAny_bind (wpAny_pyIter_revIter hit ?_)
  refine wpAny_bind (wpAny_holding (no_room_rev hit ?_))
  refine wpAny_ite_split (fun hab => absurd hab (by decide)) (fun _ => ?_)
  refine wpAny_pure ⟨plainId_quiet F.plain_extend_loop _, ?_⟩
  refine codeAny_extend_loopS W hz S hSf res items.size 0 s #[] c0 rfl (Nat.zero_le _) ⟨Nat.zero_le _, by simpa using hit, hl⟩ hS (ItemsOf.nil _) fun s' acc' c' hm hS' hacc => ?_
  rw [Moved.eq_with hm]
  refine hR s'.heap s'.toks acc' c' (fun b o hb hb2 e => hm.heap b o (fun z => ?_) e) hS' hacc
  rcases List.mem_cons.mp z with z | z
  · exact hb z
  · exact hb2 (by simpa using z)
theorem init_rev {R : Result → Shared → Prop} {J l : Addr} {items : Array Value} (hh : A.handled = none) (hne : l ≠ J) (hit : s.heap.IsRevIter J l ((items.size : Int) - 1)) (hl : s.heap.IsList l items) (hz : items.size ≤ sizeLine) (S : Addr)
    (hS : s.heap.get? S = some { cls := .type "list", data := .seq #[] }) (hSJ : S ≠ J) (hSl : S ≠ l)
    (hR : ∀ h' tk acc c', (∀ b o, b ≠ S → b ≠ J → s.heap.get? b = some o → h'.get? b = some o) → h'.get? S = some { cls := .type "list", dict := none, data := .seq acc c', slots := #[] } →
      ItemsOf (fun i v => items[items.size - 1 - i]? = some v) acc items.size → R (.ok (.ret .none)) { s with heap := h', toks := tk }) :
    wpAny (model prog w) A.in1 (Builtin.«list.__init__» ⟨[.ref S, .ref J], []⟩)
      (fun fin s' => match fin with | .done f => R (.ok f) s' | .again c' => c'.quiet = true ∧ codeAny (model prog w) A c' R s') (fun e s' => R (.error e) s') s := by
  show wpAny _ _ (do let old ← Builtin.List.listItems (.ref S); Builtin.List.listUpdate (.ref S) (fun _ => #[]); letGo old.toList.reverse; Builtin.List.listExtendWith (.ref S) (.ref J) .none) _ _ s
  refine wpAny_bind ?_
  unfold Builtin.List.listItems
  refine wpAny_bind (wpAny_seqItems hS rfl (wpAny_pure ?_))
  show wpAny _ _ (updateSeq S (fun _ => #[]) >>= fun _ => letGo (#[] : Array Value).toList.reverse >>= fun _ => Builtin.List.listExtendWith (.ref S) (.ref J) .none) _ _ s
  refine wpAny_bind (wpAny_updateSeq hS rfl ?_)
  have g2 := Heap.get?_update_self (Obj.mapSeq (fun _ => (#[] : Array Value))) hS rfl
  have oth : ∀ b o, b ≠ S → s.heap.get? b = some o → (s.heap.update S (Obj.mapSeq (fun _ => (#[] : Array Value)))).get? b = some o :=
    fun b o hb e => (Heap.get?_update_other _ _ (Ne.symm hb)).trans e
  refine wpAny_bind (wpAny_letGo ?_)
  refine extend_rev hh hne (hit.at fun o e => oth J o (Ne.symm hSJ) e) (hl.at fun o e => oth l o (Ne.symm hSl) e) hz S .none _ g2 hSJ hSl fun h' tk acc' c' hk hS' hacc => ?_
  exact hR h' tk acc' c' (fun b o hb hb2 e => hk b o hb hb2 (oth b o hb e)) hS' hacc
theorem list_rev {E : Value → Shared → Prop} {Q : Value → Shared → Prop} {J l : Addr} {items : Array Value} (hh : A.handled = none) (hne : l ≠ J) (hit : s.heap.IsRevIter J l ((items.size : Int) - 1)) (hl : s.heap.IsList l items) (hz : items.size ≤ sizeLine)
    (hQ : ∀ h' tk acc c', (∀ b o, b ≠ J → s.heap.get? b = some o → h'.get? b = some o) → h'.get? s.heap.objs.size = some { cls := .type "list", dict := none, data := .seq acc c', slots := #[] } →
      ItemsOf (fun i v => items[items.size - 1 - i]? = some v) acc items.size → Q (.ref s.heap.objs.size) { s with heap := h', toks := tk }) :
    wpAny (model prog w) A (call (.type "list") [.ref J]) Q E s := by
  have ltJ : J < s.heap.objs.size := by obtain ⟨o, e, _⟩ := hit; exact Heap.lt_size e
  have ltl : l < s.heap.objs.size := by obtain ⟨o, e, _⟩ := hl; exact Heap.lt_size e
  refine callType_codes (Q₁ := fun obj s1 => obj = .ref s.heap.objs.size ∧ s1 = { s with heap := s.heap.push { cls := .type "list", data := .seq #[] } }) F.called_list (F.typeCall_list_1 _) F.entry_list_init
    (code_list_new _ ⟨rfl, rfl⟩) fun obj s1 h1 => ?_
  obtain ⟨rfl, rfl⟩ := h1
  have hS : (s.heap.push { cls := .type "list", data := .seq #[] }).get? s.heap.objs.size = some { cls := .type "list", data := .seq #[] } := Heap.get?_push_size _ rfl
  refine ⟨⟨_, hS, rfl⟩, F.args_list_init_2 _ _, init_rev (A := A.in1) hh hne (hit.at fun o e => Heap.get?_push_of_some _ e) (hl.at fun o e => Heap.get?_push_of_some _ e) hz _ hS (Nat.ne_of_gt ltJ) (Nat.ne_of_gt ltl) fun h' tk acc' c' hk hS' hacc => ?_⟩
  exact ⟨rfl, hQ h' tk acc' c' (fun b o hb e => hk b o (Nat.ne_of_lt (Heap.lt_size e)) hb (Heap.get?_push_of_some _ e)) hS' hacc⟩
end
section
variable {X : Cx} {e : Expr} {te : TE}
noncomputable def tLRev (K : PySem.W.Frag) (te : TE) : TE := fun σ H Q => te σ H fun x H1 => ∃ a xs, x = .ref a ∧ SqL K H1 a xs ∧ ∀ p, H1 p = none → Q (.ref p) (upd H1 p (.lst xs.reverse))
theorem items_rev {its : List Value} {acc : Array Value} (h : ItemsOf (fun i v => its.toArray[its.toArray.size - 1 - i]? = some v) acc its.toArray.size) : acc.toList = its.reverse := by
  obtain ⟨h0, h2⟩ := h
  have h1 : acc.size = its.length := by rw [h0]; simp
  apply List.ext_getElem?
  intro i
  by_cases hi : i < acc.size
  · have e := h2 i acc[i] (by simp [hi])
    have e' : its[its.length - 1 - i]? = some acc[i] := by simpa using e
    rw [List.getElem?_reverse (by lia), e']
    simp [hi]
  · rw [List.getElem?_eq_none (by simpa using hi), List.getElem?_eq_none (by rw [List.length_reverse]; lia)]
theorem pe_lrev {p1 p2 q1 q2 : Pos} (hc : X.calm = true) (hm1 : X.mg "list" = none) (hm2 : X.mg "reversed" = none) (hg1 : Gl X "list") (hg2 : Gl X "reversed") (he : PE X e te) (h1 : starEach [e] X.env = [(false, eval e X.env)] := by rfl) :
    PE X (.Call (.Name "list" p1) [.Call (.Name "reversed" p2) [e] [] q2] [] q1) (tLRev X.K te) := by
  intro pins s σ H Q I h
  refine wpAny_Call_Name_kw (ld_blt I hg1 hm1 boot_list ?_)
  refine PyProof.Rows.callWith_type1 ?_ rfl rfl
  show wpAny _ _ (spliced ((false, eval (.Call (.Name "reversed" p2) [e] [] q2) X.env) :: backTo q1 (starEach [] X.env))) _ _ s
  refine Calls.spliced_cons ?_
  refine wpAny_Call_Name_kw (ld_blt I hg2 hm2 boot_reversed ?_)
  refine PyProof.Rows.callWith_type1 ?_ h1 rfl
  rw [h1]
  show wpAny _ _ (spliced ((false, eval e X.env) :: backTo q2 (starEach [] X.env))) _ _ s
  refine Calls.spliced_cons (thnE (he pins s σ H _ I h) fun u s1 x H1 I1 r1 q1 => ?_)
  obtain ⟨a, xs, rfl, hq, q⟩ := q1
  cases r1
  obtain ⟨its, rv, pl, hz⟩ := I1.list hq
  have hl := pl.isList
  have hlen := rv.length
  have ltl : a < s1.heap.objs.size := by obtain ⟨o, e, _⟩ := hl; exact Heap.lt_size e
  refine Calls.spliced_nil ?_
  refine call_reversed_list hl ?_
  refine Calls.spliced_nil ?_
  refine list_rev (items := its.toArray) (I1.ok.hd hc) (Nat.ne_of_lt ltl) ⟨_, Heap.get?_push_size _ rfl, rfl, rfl⟩ (hl.at fun o e => Heap.get?_push_of_some _ e) (by rw [List.size_toArray]; lia) fun h' tk acc c' hk hS hacc => ?_
  have eS : (s1.heap.push (revObj a ((its.toArray.size : Int) - 1))).objs.size = s1.heap.objs.size + 1 := Heap.size_push ..
  have hnew : s1.heap.objs.size ≤ (s1.heap.push (revObj a ((its.toArray.size : Int) - 1))).objs.size := by rw [eS]; exact Nat.le_succ _
  have ea := items_rev hacc
  refine ⟨.ref _, _, I1.laid (t' := tk) (o := .lst xs.reverse) (fun b o e => hk b o (Nat.ne_of_lt (Heap.lt_size e)) (Heap.get?_push_of_some _ e)) hnew ⟨by rw [List.length_reverse]; exact hz, its.reverse, c', rv.reverse, ?_⟩, rfl, q _ (I1.hok.fresh hnew)⟩
  rw [hS, ← ea]
end
end L2
namespace L2
open PySem PySem.Spec PyProof.Rows
section
variable {X : Cx} {pins : List (Addr × Obj)} {σ : St} {H : Hp} {s : Shared} {h' : Heap}
theorem Inv.turnedNew {ch : List Addr} {T : Addr} {o : HO} {t' : Nat} (I : Inv X pins σ H s) (k : ∀ b u, b ∉ ch → s.heap.get? b = some u → h'.get? b = some u) (hf : ∀ b ∈ ch, FpOk X pins H b) (hT : s.heap.objs.size ≤ T)
    (new : ObjOk X.prog X.w (upd H T o) h' T o) : Inv X pins σ (upd H T o) { s with heap := h', toks := t' } := by
  have hn := I.hok.fresh hT
  have lt : ∀ b u, s.heap.get? b = some u → b ≠ T := fun b u e => Nat.ne_of_lt (Nat.lt_of_lt_of_le (Heap.lt_size e) hT)
  have tr : ∀ b u, H b = some u → b ∉ ch := fun b u e hb => by
    obtain ⟨f0, _⟩ := hf b hb
    rw [e] at f0; cases f0
  refine I.step (g' := s.gens) (d' := s.drawn) (ch := ch) (fun b hb => ?_) (fun b u _ _ hc e _ => k b u hc e) (fun b u _ _ hc e _ => ⟨u.slots, k b u hc e⟩) (fun b u _ e n => by rw [upd_ne (lt b u e)]; exact n)
    (fun b u hc e => ⟨u, k b u hc e⟩) (fun b xs e => by rw [upd_ne (ne_of_none e hn)]; exact e) (fun b u x e => by rw [upd_ne (ne_of_none e hn)]; exact e) (fun b ps e => ⟨#[], by rw [upd_ne (ne_of_none e hn), e]; simp⟩) (fun m hm => ?_) (fun b u e => ?_) I.bare
  · obtain ⟨_, f1, _, f3, f4, f5⟩ := hf b hb
    exact ⟨f3, f1, f4, f5⟩
  · obtain ⟨u, es, ep, hu, r⟩ := hm
    exact ⟨u, es, ep, k _ u (fun z => (hf _ z).2.1 rfl) hu, r⟩
  · by_cases hb : b = T
    · subst hb
      rw [upd_same] at e; cases e
      exact new
    · rw [upd_ne hb] at e
      refine (I.hok b u e).stay (fun c v hc q => k c v ?_ q) (fun c q => by rw [upd_ne (ne_of_none q hn)]; exact q) fun c xs q => by rw [upd_ne (ne_of_none q hn)]; exact q
      rcases hc with rfl | hc
      · exact tr _ _ e
      · exact tr _ _ hc
theorem Inv.turnedL {ch : List Addr} {t' : Nat} (I : Inv X pins σ H s) (k : ∀ b u, b ∉ ch → s.heap.get? b = some u → h'.get? b = some u) (hf : ∀ b ∈ ch, FpOk X pins H b) : Inv X pins σ H { s with heap := h', toks := t' } := by
  have tr : ∀ b u, H b = some u → b ∉ ch := fun b u e hb => by
    obtain ⟨f0, _⟩ := hf b hb
    rw [e] at f0; cases f0
  refine I.step (g' := s.gens) (d' := s.drawn) (ch := ch) (fun b hb => ?_) (fun b u _ _ hc e _ => k b u hc e) (fun b u _ _ hc e _ => ⟨u.slots, k b u hc e⟩) (fun _ _ _ _ n => n)
    (fun b u hc e => ⟨u, k b u hc e⟩) (fun _ _ e => e) (fun _ _ _ e => e) (fun b ps e => ⟨#[], by rw [e]; simp⟩) (fun m hm => ?_) (fun b u e => ?_) I.bare
  · obtain ⟨_, f1, _, f3, f4, f5⟩ := hf b hb
    exact ⟨f3, f1, f4, f5⟩
  · obtain ⟨u, es, ep, hu, r⟩ := hm
    exact ⟨u, es, ep, k _ u (fun z => (hf _ z).2.1 rfl) hu, r⟩
  · refine (I.hok b u e).stay (fun c v hc q => k c v ?_ q) (fun _ q => q) fun _ _ q => q
    rcases hc with rfl | hc
    · exact tr _ _ e
    · exact tr _ _ hc
end

noncomputable def Ite (K : PySem.W.Frag) (a : Addr) : It :=
  ⟨fun i H => ∃ xs x, SqL K H a xs ∧ xs[i]? = some x, fun i H v H' => ∃ t x, v = .ref t ∧ H t = none ∧ (∀ xs, SqL K H a xs → xs[i]? = some x) ∧ H' = upd H t (.tup [.int i, x]), fun i H => ∃ xs, SqL K H a xs ∧ xs.length ≤ i⟩
theorem turn_enum {P : Program} {w : World} {K : PySem.W.Frag} {elts : List Expr} {x1} {pos : Pos} (a e it : Addr) (hne : e ≠ it) : Turn P w K (.Tuple elts x1 pos) (Ite K a) [e, it] e (fun i h => (∃ old, IsEnum h e it i old) ∧ h.IsListIter it a i) where
  mem := by simp
  obj := fun i h st b hb => by
    obtain ⟨⟨old, h1⟩, o, h2, _, d⟩ := st
    rcases List.mem_cons.mp hb with rfl | hb
    · exact ⟨_, h1, fun v z => by cases z⟩
    · have z : b = it := by simpa using hb
      subst z
      exact ⟨o, h2, fun v z => by rw [d] at z; cases z⟩
  keep := fun i h h' st k => by
    obtain ⟨⟨old, h1⟩, h2⟩ := st
    exact ⟨⟨old, k e (by simp) _ h1⟩, h2.at fun o q => k it (by simp) o q⟩
  item := by
    intro X hP hw hK hc i pins s σ H E I hf st hg
    subst hP hw hK
    obtain ⟨⟨old, h1⟩, h2⟩ := st
    obtain ⟨xs, x, hq, hx⟩ := hg
    obtain ⟨its, rv, p, hz⟩ := I.list hq
    obtain ⟨u, hu, ru⟩ := rv.get hx
    have e1 := Heap.lt_size h1
    refine wpAny_pyNext_enum_item h1 h2 p.isList (x := u) (by simpa using hu) hne fun h' g1 g2 g3 g4 g5 => ⟨_, rfl, ?_⟩
    refine wpAny_letOwnedTupleGo_enum g1 fun h2' g6 g7 => ?_
    have kk : ∀ b o, b ∉ [e, it] → s.heap.get? b = some o → h2'.get? b = some o := fun b o hb q => g7.extBut b o (fun z => hb (by simp [z])) (g5 b o (fun z => hb (by simp [z])) (fun z => hb (by simp [z])) q)
    have tT : h2'.get? s.heap.objs.size = some { cls := .type "tuple", data := .seq #[.int i s.toks, u] } := g7.extBut _ _ (Nat.ne_of_gt e1) g3
    have I1 := I.turnedNew (t' := s.toks + 1) (T := s.heap.objs.size) (o := .tup [.int i, x]) kk hf (Nat.le_refl _) ⟨by show 2 ≤ sizeLine; decide, [.int i s.toks, u], .cons ⟨_, rfl⟩ (.cons ru .nil), ⟨_, tT, rfl, _, rfl⟩⟩
    have hn : H s.heap.objs.size = none := I.hok.fresh (Nat.le_refl _)
    refine ⟨.ref s.heap.objs.size, _, I1, rfl, ⟨_, x, rfl, hn, fun ys hy => by rw [I.list_inj hy hq]; exact hx, rfl⟩, ⟨⟨u, ?_⟩, ?_⟩, fun b hb => ?_⟩
    · have z : ((i + 1 : Nat) : Int) = (i : Int) + 1 := by lia
      rw [z]; exact g6
    · exact g2.extBut g7.extBut (Ne.symm hne)
    · obtain ⟨f0, _⟩ := hf b hb
      obtain ⟨o, q⟩ : ∃ o, s.heap.get? b = some o := by
        rcases List.mem_cons.mp hb with rfl | hb
        · exact ⟨_, h1⟩
        · have z : b = it := by simpa using hb
          obtain ⟨o, q, _⟩ := h2
          exact ⟨o, by rw [z]; exact q⟩
      rw [upd_ne (Nat.ne_of_lt (Heap.lt_size q))]; exact f0
  done := by
    intro X hP hw hK hc i pins s σ H E I hf st hg
    subst hP hw hK
    obtain ⟨⟨old, h1⟩, h2⟩ := st
    obtain ⟨xs, hq, hx⟩ := hg
    obtain ⟨its, rv, p, hz⟩ := I.list hq
    have hl := rv.length
    exact wpAny_pyNext_enum_end (I.ok.hd hc) h1 h2 p.isList (by simp; lia) fun h' eb => ⟨rfl, I.turnedL (t' := s.toks) (ch := [e, it]) (fun b o hb q => eb b o (fun z => hb (by simp [z])) q) hf⟩
  self := fun _ _ _ _ _ st h => by
    obtain ⟨⟨old, h1⟩, h2⟩ := st
    have hT : Shared.TypeIs _ (.ref e) "enumerate" := ⟨_, h1, rfl⟩
    refine wpAny_pyIter_slot hT F.slot_enumerate_iter (wpAny_call_entry F.slot_enumerate_iter hT F.entry_enumerate_iter ?_ (F.args_enumerate_iter_1 _))
    show wpAny _ _ (ret (.ref e)) _ _ _
    exact wpAny_pure ⟨_, rfl, "enumerate", _, hT, F.slot_enumerate_next.lookup, h⟩

noncomputable def Itz (K : PySem.W.Frag) (a b : Addr) : It :=
  ⟨fun i H => ∃ xs ys x y, SqL K H a xs ∧ SqL K H b ys ∧ xs[i]? = some x ∧ ys[i]? = some y,
   fun i H v H' => ∃ t x y, v = .ref t ∧ H t = none ∧ (∀ xs, SqL K H a xs → xs[i]? = some x) ∧ (∀ ys, SqL K H b ys → ys[i]? = some y) ∧ H' = upd H t (.tup [x, y]),
   fun i H => ∃ xs ys, SqL K H a xs ∧ SqL K H b ys ∧ (xs.length ≤ i ∨ ys.length ≤ i)⟩
theorem turn_zip {P : Program} {w : World} {K : PySem.W.Frag} {elts : List Expr} {x1} {pos : Pos} (a b z TI TO i1 i2 : Addr) (D : ZipApart z TI TO i1 i2 a b) : Turn P w K (.Tuple elts x1 pos) (Itz K a b) [z, TI, TO, i1, i2] z
    (fun i h => IsZip h z TI TO .none ∧ IsPair h TI (.ref i1) (.ref i2) ∧ (∃ u v, IsPair h TO u v) ∧ h.IsListIter i1 a i ∧ h.IsListIter i2 b i) where
  mem := by simp
  obj := fun i h st c hb => by
    obtain ⟨h1, h2, ⟨u, v, h3⟩, ⟨o4, h4, _, d4⟩, ⟨o5, h5, _, d5⟩⟩ := st
    simp only [List.mem_cons, List.not_mem_nil, or_false] at hb
    rcases hb with rfl | rfl | rfl | rfl | rfl
    · exact ⟨_, h1, fun v z => by cases z⟩
    · exact ⟨_, h2, fun v z => by cases z⟩
    · exact ⟨_, h3, fun v z => by cases z⟩
    · exact ⟨o4, h4, fun v z => by rw [d4] at z; cases z⟩
    · exact ⟨o5, h5, fun v z => by rw [d5] at z; cases z⟩
  keep := fun i h h' st k => by
    obtain ⟨h1, h2, ⟨u, v, h3⟩, h4, h5⟩ := st
    exact ⟨k z (by simp) _ h1, k TI (by simp) _ h2, ⟨u, v, k TO (by simp) _ h3⟩, h4.at fun o q => k i1 (by simp) o q, h5.at fun o q => k i2 (by simp) o q⟩
  item := by
    intro X hP hw hK hc i pins s σ H E I hf st hg
    subst hP hw hK
    obtain ⟨h1, h2, ⟨u0, v0, h3⟩, h4, h5⟩ := st
    obtain ⟨xs, ys, x, y, hqa, hqb, hx, hy⟩ := hg
    obtain ⟨its, rv, p, hz⟩ := I.list hqa
    obtain ⟨jts, rw', p', hz'⟩ := I.list hqb
    obtain ⟨u, hu, ru⟩ := rv.get hx
    obtain ⟨v, hv, rv'⟩ := rw'.get hy
    have e1 := Heap.lt_size h1
    have fpo : ∀ c ∈ [z, TI, TO, i1, i2], ∃ o, s.heap.get? c = some o := fun c hb => by
      obtain ⟨o4, q4, _⟩ := h4
      obtain ⟨o5, q5, _⟩ := h5
      simp only [List.mem_cons, List.not_mem_nil, or_false] at hb
      rcases hb with rfl | rfl | rfl | rfl | rfl
      · exact ⟨_, h1⟩
      · exact ⟨_, h2⟩
      · exact ⟨_, h3⟩
      · exact ⟨_, q4⟩
      · exact ⟨_, q5⟩
    refine wpAny_pyNext_zip_item D h1 h2 h3 h4 h5 p.isList p'.isList (x := u) (y := v) (by simpa using hu) (by simpa using hv) fun h' g1 g2 g3 g4 g5 g6 g7 => ⟨_, rfl, ?_⟩
    refine wpAny_letOwnedTupleGo_zip g1 fun h2' g8 g9 => ?_
    have kk : ∀ c o, c ∉ [z, TI, TO, i1, i2] → s.heap.get? c = some o → h2'.get? c = some o := fun c o hb q =>
      g9.extBut c o (fun q => hb (by simp [q])) (g7 c o (fun q => hb (by simp [q])) (fun q => hb (by simp [q])) (fun q => hb (by simp [q])) (fun q => hb (by simp [q])) q)
    have tT : h2'.get? s.heap.objs.size = some { cls := .type "tuple", data := .seq #[u, v] } := g9.extBut _ _ (Nat.ne_of_gt e1) g5
    have I1 := I.turnedNew (t' := s.toks) (T := s.heap.objs.size) (o := .tup [x, y]) kk hf (Nat.le_refl _) ⟨by show 2 ≤ sizeLine; decide, [u, v], .cons ru (.cons rv' .nil), ⟨_, tT, rfl, _, rfl⟩⟩
    have hn : H s.heap.objs.size = none := I.hok.fresh (Nat.le_refl _)
    refine ⟨.ref s.heap.objs.size, _, I1, rfl, ⟨_, x, y, rfl, hn, fun zs hy' => by rw [I.list_inj hy' hqa]; exact hx, fun zs hy' => by rw [I.list_inj hy' hqb]; exact hy, rfl⟩, ⟨g8, ?_, ⟨u, v, ?_⟩, ?_, ?_⟩, fun c hb => ?_⟩
    · exact g9.extBut _ _ D.TIz (g7 _ _ D.TIz D.TITO D.TIi1 D.TIi2 h2)
    · exact g9.extBut _ _ D.TOz g2
    · exact g3.extBut g9.extBut D.i1z
    · exact g4.extBut g9.extBut D.i2z
    · obtain ⟨f0, _⟩ := hf c hb
      obtain ⟨o, q⟩ := fpo c hb
      rw [upd_ne (Nat.ne_of_lt (Heap.lt_size q))]; exact f0
  done := by
    intro X hP hw hK hc i pins s σ H E I hf st hg
    subst hP hw hK
    obtain ⟨h1, h2, ⟨u0, v0, h3⟩, h4, h5⟩ := st
    obtain ⟨xs, ys, hqa, hqb, hx⟩ := hg
    obtain ⟨its, rv, p, hz⟩ := I.list hqa
    obtain ⟨jts, rw', p', hz'⟩ := I.list hqb
    have hl := rv.length
    have hl' := rw'.length
    refine wpAny_pyNext_zip_end (I.ok.hd hc) D h1 h2 h3 h4 h5 p.isList p'.isList ?_ fun h' eb => ⟨rfl, I.turnedL (t' := s.toks) (ch := [z, TI, TO, i1, i2]) (fun c o hb q => eb c o (fun q => hb (by simp [q])) (fun q => hb (by simp [q])) (fun q => hb (by simp [q])) (fun q => hb (by simp [q])) q) hf⟩
    rcases hx with hx | hx
    · exact .inl (by simp; lia)
    · exact .inr (by simp; lia)
  self := fun _ _ _ _ _ st h => wpAny_pyIter_zip st.1 h

section
variable {X : Cx} {l l2 : Expr} {tl tl2 : TE} {elts : List Expr} {p pos tpos : Pos}
noncomputable def iEnum (K : PySem.W.Frag) (tl : TE) : TI := fun σ H R => tl σ H fun x H1 => ∃ a, x = .ref a ∧ (∃ xs, SqL K H1 a xs) ∧ R (Ite K a) H1
theorem pi_enum {x1} (hg : Gl X "enumerate") (hm : X.mg "enumerate" = none) (hl : PE X l tl) (hs : starEach [l] X.env = [(false, eval l X.env)] := by rfl) : PI X (.Tuple elts x1 tpos) (.Call (.Name "enumerate" p) [l] [] pos) (iEnum X.K tl) := by
  intro pins s σ H R I h
  refine Call_ (ld_blt I hg hm boot_enumerate (PyProof.Rows.callWith_type1 ?_ hs rfl))
  rw [hs]
  show wpAny _ _ (spliced ((false, eval l X.env) :: backTo pos (starEach [] X.env))) _ _ s
  refine Calls.spliced_cons (thnE (hl pins s σ H _ I h) fun u s1 x H1 I1 r1 q1 => Calls.spliced_nil ?_)
  obtain ⟨a, rfl, ⟨xs, hq⟩, q⟩ := q1
  cases r1
  obtain ⟨its, rv, pl, hz⟩ := I1.list hq
  refine call_enumerate_list pl.isList fun h' g1 g2 g3 g4 => ?_
  have T := turn_enum (P := X.prog) (w := X.w) (K := X.K) (elts := elts) (x1 := x1) (pos := tpos) a (s1.heap.objs.size + 1) s1.heap.objs.size (Nat.ne_of_gt (Nat.lt_succ_self _))
  refine T.self _ 0 _ _ _ ⟨⟨_, g1⟩, g2⟩ ?_
  refine ⟨s1.heap.objs.size + 1, _, _, _, H1, rfl, I1.kept (t' := s1.toks) g4, T, ⟨⟨_, g1⟩, g2⟩, fun b hb => ?_, q⟩
  have hb' : s1.heap.objs.size ≤ b := by
    rcases List.mem_cons.mp hb with rfl | hb
    · exact Nat.le_succ _
    · have z : b = s1.heap.objs.size := by simpa using hb
      rw [z]; exact Nat.le_refl _
  exact I1.fpOk hb' (I1.hok.fresh hb')
noncomputable def iZip (K : PySem.W.Frag) (tl tl2 : TE) : TI := fun σ H R => tl σ H fun x H1 => tl2 σ H1 fun y H2 => ∃ a b, x = .ref a ∧ y = .ref b ∧ (∃ xs, SqL K H2 a xs) ∧ (∃ ys, SqL K H2 b ys) ∧ R (Itz K a b) H2
theorem pi_zip {x1} (hg : Gl X "zip") (hm : X.mg "zip" = none) (hl : PE X l tl) (hl2 : PE X l2 tl2) (hs : starEach [l, l2] X.env = [(false, eval l X.env), (false, eval l2 X.env)] := by rfl) (hs2 : starEach [l2] X.env = [(false, eval l2 X.env)] := by rfl) :
    PI X (.Tuple elts x1 tpos) (.Call (.Name "zip" p) [l, l2] [] pos) (iZip X.K tl tl2) := by
  intro pins s σ H R I h
  refine Call_ (ld_blt I hg hm boot_zip (PyProof.Rows.callWith_type1 ?_ (by rw [hs, hs2]) (by rw [hs2]; rfl)))
  rw [hs]
  show wpAny _ _ (spliced ((false, eval l X.env) :: (false, eval l2 X.env) :: backTo pos (starEach [] X.env))) _ _ s
  refine Calls.spliced_cons (thnE (hl pins s σ H _ I h) fun u s1 x H1 I1 r1 q1 => Calls.spliced_cons (thnE (hl2 pins s1 σ H1 _ I1 q1) fun u2 s2 y H2 I2 r2 q2 => Calls.spliced_nil ?_))
  obtain ⟨a, b, rfl, rfl, ⟨xs, hqa⟩, ⟨ys, hqb⟩, q⟩ := q2
  cases r1
  cases r2
  obtain ⟨its, rv, pl, hz⟩ := I2.list hqa
  obtain ⟨jts, rv', pl', hz'⟩ := I2.list hqb
  have la : a < s2.heap.objs.size := by obtain ⟨_, e, _⟩ := pl.isList; exact Heap.lt_size e
  have lb : b < s2.heap.objs.size := by obtain ⟨_, e, _⟩ := pl'.isList; exact Heap.lt_size e
  refine call_zip_2 pl.isList pl'.isList fun h' g1 g2 g3 g4 g5 g6 g7 => ?_
  have D : ZipApart (s2.heap.objs.size + 4) (s2.heap.objs.size + 2) (s2.heap.objs.size + 3) s2.heap.objs.size (s2.heap.objs.size + 1) a b := zipApart_new la lb
  have T := turn_zip (P := X.prog) (w := X.w) (K := X.K) (elts := elts) (x1 := x1) (pos := tpos) a b _ _ _ _ _ D
  refine T.self _ 0 _ _ _ ⟨g1, g2, ⟨_, _, g3⟩, g4, g5⟩ ?_
  refine ⟨s2.heap.objs.size + 4, _, _, _, H2, rfl, I2.kept (t' := s2.toks) g7, T, ⟨g1, g2, ⟨_, _, g3⟩, g4, g5⟩, fun c hb => ?_, q⟩
  have hb' : s2.heap.objs.size ≤ c := by
    simp only [List.mem_cons, List.not_mem_nil, or_false] at hb
    rcases hb with rfl | rfl | rfl | rfl | rfl
    · exact Nat.le_add_right _ _
    · exact Nat.le_add_right _ _
    · exact Nat.le_add_right _ _
    · exact Nat.le_refl _
    · exact Nat.le_add_right _ _
  exact I2.fpOk hb' (I2.hok.fresh hb')
end

theorem comp_zip {K : PySem.W.Frag} {a b : Addr} {xs ys : List V} {G : V → Hp → (List V → Hp → Prop) → List V → Prop} {Fin : List V → Hp → Prop} {H : Hp} (Pv : Nat → List V → Hp → Prop) (hlen : xs.length = ys.length) (h0 : Pv 0 [] H)
    (hl : ∀ i zs H, i ≤ xs.length → Pv i zs H → SqL K H a xs ∧ SqL K H b ys) (hz : ∀ i zs H, i < xs.length → Pv i zs H → zs.length < sizeLine)
    (hs : ∀ i x y zs H t, xs[i]? = some x → ys[i]? = some y → Pv i zs H → H t = none → G (.ref t) (upd H t (.tup [x, y])) (Pv (i + 1)) zs) (hd : ∀ zs H, Pv xs.length zs H → Fin zs H) :
    ∃ W : Nat → Nat → List V → Hp → Prop, (∃ m, W 0 m [] H) ∧ ∀ i m zs H, W i m zs H →
      ((Itz K a b).stop i H ∧ Fin zs H) ∨ ((Itz K a b).go i H ∧ zs.length < sizeLine ∧ ∃ Nx : List V → Hp → Prop, (∀ ys' H', Nx ys' H' → ∃ m', m' < m ∧ W (i + 1) m' ys' H') ∧ ∀ x H', (Itz K a b).yld i H x H' → G x H' Nx zs) := by
  refine ⟨fun i m zs H => m = xs.length - i ∧ i ≤ xs.length ∧ Pv i zs H, ⟨xs.length, by simp, Nat.zero_le _, h0⟩, ?_⟩
  rintro i m zs H ⟨rfl, hi, p⟩
  obtain ⟨q1, q2⟩ := hl i zs H hi p
  by_cases hlt : i < xs.length
  · have e1 : xs[i]? = some xs[i] := by simp [hlt]
    have e2 : ys[i]? = some (ys[i]'(by lia)) := by simp
    refine .inr ⟨⟨xs, ys, _, _, q1, q2, e1, e2⟩, hz i zs H hlt p, Pv (i + 1), fun ys' H' p' => ⟨xs.length - (i + 1), by lia, rfl, hlt, p'⟩, fun v H' y => ?_⟩
    obtain ⟨t, x, y, rfl, ht, y1, y2, rfl⟩ := y
    exact hs i x y zs H t (y1 xs q1) (y2 ys q2) p ht
  · have e : i = xs.length := by lia
    subst e
    exact .inl ⟨⟨xs, ys, q1, q2, .inl (Nat.le_refl _)⟩, hd zs H p⟩
theorem for_enum {K : PySem.W.Frag} {a : Addr} {xs : List V} {g : TG} {tb : TS} {D : Ends} {σ : St} {H : Hp} (Pv : Nat → St → Hp → Prop) (h0 : Pv 0 σ H) (hl : ∀ i σ H, i ≤ xs.length → Pv i σ H → SqL K H a xs)
    (hs : ∀ i x σ H t, xs[i]? = some x → Pv i σ H → H t = none → g (.ref t) σ (upd H t (.tup [.int i, x])) fun σ2 H2 => tb { D with nx := Pv (i + 1), ct := Pv (i + 1), bk := D.nx } σ2 H2) (hd : ∀ σ H, Pv xs.length σ H → D.nx σ H) :
    ∃ W : Nat → Nat → St → Hp → Prop, (∃ m, W 0 m σ H) ∧ ∀ i m σ H, W i m σ H →
      ((Ite K a).stop i H ∧ D.nx σ H) ∨ ((Ite K a).go i H ∧ ∃ N : St → Hp → Prop, (∀ σ' H', N σ' H' → ∃ m', m' < m ∧ W (i + 1) m' σ' H') ∧ ∀ x H', (Ite K a).yld i H x H' → g x σ H' fun σ2 H2 => tb { D with nx := N, ct := N, bk := D.nx } σ2 H2) := by
  refine ⟨fun i m σ H => m = xs.length - i ∧ i ≤ xs.length ∧ Pv i σ H, ⟨xs.length, by simp, Nat.zero_le _, h0⟩, ?_⟩
  rintro i m σ H ⟨rfl, hi, p⟩
  have q := hl i σ H hi p
  by_cases hlt : i < xs.length
  · refine .inr ⟨⟨xs, xs[i], q, by simp [hlt]⟩, Pv (i + 1), fun σ' H' p' => ⟨xs.length - (i + 1), by lia, rfl, hlt, p'⟩, fun v H' y => ?_⟩
    obtain ⟨t, x, rfl, ht, y1, rfl⟩ := y
    exact hs i x σ H t (y1 xs q) p ht
  · have e : i = xs.length := by lia
    subst e
    exact .inl ⟨⟨xs, q, Nat.le_refl _⟩, hd σ H p⟩
end L2
namespace Ma
noncomputable def ups (b n L : Nat) : List Nat := (List.range L).map fun j => n / b ^ j % b
noncomputable def dws (b n L i : Nat) : List Nat := (List.range i).map fun j => n / b ^ (L - 1 - j) % b
theorem ups_succ (b n i : Nat) : ups b n (i + 1) = ups b n i ++ [n / b ^ i % b] := by
  unfold ups; rw [List.range_succ, List.map_append]; rfl
theorem dws_succ (b n L i : Nat) : dws b n L (i + 1) = dws b n L i ++ [n / b ^ (L - 1 - i) % b] := by
  unfold dws; rw [List.range_succ, List.map_append]; rfl
theorem ups_len (b n L : Nat) : (ups b n L).length = L := by simp [ups]
theorem dws_len (b n L i : Nat) : (dws b n L i).length = i := by simp [dws]
theorem ups_rev (b n L : Nat) : (ups b n L).reverse = dws b n L L := by
  apply List.ext_getElem
  · simp [ups, dws]
  · intro i h1 h2
    simp [ups, dws]
theorem div_up (b n i : Nat) : n / b ^ i / b = n / b ^ (i + 1) := by rw [Nat.div_div_eq_div_mul, Nat.pow_succ]
theorem sum_le6 : ∀ (ps : List Nat), (∀ p ∈ ps, 1 ≤ p ∧ p ≤ 6) → ps.length ≤ ps.sum ∧ ps.sum ≤ 6 * ps.length
  | [], _ => by simp
  | p :: r, h => by
    have h1 := h p (by simp)
    have h2 := sum_le6 r fun q hq => h q (List.mem_cons_of_mem _ hq)
    simp only [List.sum_cons, List.length_cons]
    lia
theorem sum_cast : ∀ (ps : List Nat), (ps.map fun (p : Nat) => (p : Int)).sum = ((ps.sum : Nat) : Int)
  | [] => rfl
  | p :: r => by simp [sum_cast r]
end Ma
namespace Ma
noncomputable def cuts : List Nat → List Int → List (List Int)
  | [], _ => []
  | p :: ps, xs => xs.take p :: cuts ps (xs.drop p)
noncomputable def psums (ps : List Nat) (xs : List Int) : List Int := (cuts ps xs).map List.sum
noncomputable def ends : Nat → List Nat → List Nat
  | _, [] => []
  | o, p :: ps => (o + p) :: ends (o + p) ps
theorem psums_len (ps : List Nat) (xs : List Int) : (psums ps xs).length = ps.length := by
  unfold psums
  rw [List.length_map]
  induction ps generalizing xs with
  | nil => rfl
  | cons p ps ih => simp [cuts, ih]
end Ma
namespace Ma
noncomputable def wts (b n L : Nat) (ws : List Int) : List Int := List.zipWith (fun (d : Nat) (x : Int) => (d : Int) * x) (dws b n L L) ws
theorem wts_len (b n L : Nat) (ws : List Int) (h : ws.length = L) : (wts b n L ws).length = L := by
  unfold wts; rw [List.length_zipWith, dws_len, h, Nat.min_self]
theorem wts_get {b n L : Nat} {ws : List Int} {i d : Nat} {x : Int} (h1 : (dws b n L L)[i]? = some d) (h2 : ws[i]? = some x) : (wts b n L ws)[i]? = some ((d : Int) * x) := by
  unfold wts; rw [List.getElem?_zipWith, h1, h2]
theorem dws_lt {b n L d : Nat} (hb : 0 < b) (h : d ∈ dws b n L L) : d < b := by
  unfold dws at h
  obtain ⟨j, _, rfl⟩ := List.mem_map.mp h
  exact Nat.mod_lt _ hb
theorem wts_small {b n L : Nat} {ws : List Int} (hb0 : 0 < b) (hb : b ≤ 16) (hw : ∀ x ∈ ws, -9 ≤ x ∧ x ≤ 9) : ∀ y ∈ wts b n L ws, -1000 ≤ y ∧ y ≤ 1000 := by
  intro y hy
  unfold wts at hy
  obtain ⟨i, hi⟩ := List.getElem?_of_mem hy
  rw [List.getElem?_zipWith] at hi
  cases h1 : (dws b n L L)[i]? with
  | none => rw [h1] at hi; simp at hi
  | some d =>
    cases h2 : ws[i]? with
    | none => rw [h1, h2] at hi; simp at hi
    | some x =>
      rw [h1, h2] at hi
      have e : (d : Int) * x = y := by simpa using hi
      have hd := dws_lt hb0 (List.mem_of_getElem? h1)
      have hx := hw x (List.mem_of_getElem? h2)
      have d16 : (d : Int) ≤ 15 := by lia
      have d0 : (0 : Int) ≤ d := by lia
      have a1 : (d : Int) * x ≤ d * 9 := Int.mul_le_mul_of_nonneg_left hx.2 d0
      have a2 : (d : Int) * (-9) ≤ d * x := Int.mul_le_mul_of_nonneg_left hx.1 d0
      lia
theorem cuts_len (ps : List Nat) : ∀ xs : List Int, (cuts ps xs).length = ps.length := by
  induction ps with
  | nil => intro xs; rfl
  | cons p ps ih => intro xs; simp [cuts, ih]
theorem cuts_get (ps : List Nat) : ∀ (xs : List Int) (i p : Nat), ps[i]? = some p → (cuts ps xs)[i]? = some ((xs.drop (ps.take i).sum).take p) := by
  induction ps with
  | nil => intro xs i p h; simp at h
  | cons q ps ih =>
    intro xs i p h
    cases i with
    | zero => simp at h; subst h; simp [cuts]
    | succ i =>
      have h' : ps[i]? = some p := by simpa using h
      have := ih (xs.drop q) i p h'
      simp only [cuts, List.getElem?_cons_succ, this, List.take_succ_cons, List.sum_cons, List.drop_drop]
theorem cuts_mem {ps : List Nat} : ∀ {xs row : List Int}, row ∈ cuts ps xs → ∀ x ∈ row, x ∈ xs := by
  induction ps with
  | nil => intro xs row h; simp [cuts] at h
  | cons p ps ih =>
    intro xs row h x hx
    rcases List.mem_cons.mp h with rfl | h
    · exact List.mem_of_mem_take hx
    · exact List.mem_of_mem_drop (ih h x hx)
theorem cuts_short {ps : List Nat} (hp : ∀ p ∈ ps, p ≤ 6) : ∀ {xs row : List Int}, row ∈ cuts ps xs → row.length ≤ 6 := by
  induction ps with
  | nil => intro xs row h; simp [cuts] at h
  | cons p ps ih =>
    intro xs row h
    rcases List.mem_cons.mp h with rfl | h
    · have := hp p (by simp); rw [List.length_take]; lia
    · exact ih (fun q hq => hp q (List.mem_cons_of_mem _ hq)) h
end Ma
namespace Ma
noncomputable def maxL : List Int → Int
  | [] => 0
  | [x] => x
  | x :: r => max x (maxL r)
noncomputable def minL : List Int → Int
  | [] => 0
  | [x] => x
  | x :: r => min x (minL r)
theorem maxL_spec : ∀ ns : List Int, 0 < ns.length → maxL ns ∈ ns ∧ ∀ n ∈ ns, n ≤ maxL ns
  | [], h => by simp at h
  | [x], _ => by simp [maxL]
  | x :: y :: r, _ => by
    have ih := maxL_spec (y :: r) (by simp)
    have e : maxL (x :: y :: r) = max x (maxL (y :: r)) := rfl
    rw [e]
    refine ⟨?_, fun n hn => ?_⟩
    · rcases Int.le_total x (maxL (y :: r)) with h | h
      · rw [Int.max_eq_right h]; exact List.mem_cons_of_mem _ ih.1
      · rw [Int.max_eq_left h]; simp
    · rcases List.mem_cons.mp hn with rfl | hn
      · exact Int.le_max_left _ _
      · exact Int.le_trans (ih.2 n hn) (Int.le_max_right _ _)
theorem minL_spec : ∀ ns : List Int, 0 < ns.length → minL ns ∈ ns ∧ ∀ n ∈ ns, minL ns ≤ n
  | [], h => by simp at h
  | [x], _ => by simp [minL]
  | x :: y :: r, _ => by
    have ih := minL_spec (y :: r) (by simp)
    have e : minL (x :: y :: r) = min x (minL (y :: r)) := rfl
    rw [e]
    refine ⟨?_, fun n hn => ?_⟩
    · rcases Int.le_total x (minL (y :: r)) with h | h
      · rw [Int.min_eq_left h]; simp
      · rw [Int.min_eq_right h]; exact List.mem_cons_of_mem _ ih.1
    · rcases List.mem_cons.mp hn with rfl | hn
      · exact Int.min_le_left _ _
      · exact Int.le_trans (Int.min_le_right _ _) (ih.2 n hn)
theorem maxL_uniq {ns : List Int} {m : Int} (h1 : m ∈ ns) (h2 : ∀ n ∈ ns, n ≤ m) : m = maxL ns := by
  have h := maxL_spec ns (List.length_pos_of_mem h1)
  exact Int.le_antisymm (h.2 m h1) (h2 _ h.1)
theorem minL_uniq {ns : List Int} {m : Int} (h1 : m ∈ ns) (h2 : ∀ n ∈ ns, m ≤ n) : m = minL ns := by
  have h := minL_spec ns (List.length_pos_of_mem h1)
  exact Int.le_antisymm (h2 _ h.1) (h.2 m h1)
end Ma
namespace L2
open PySem PySem.Spec PyProof.Rows
section
variable {X : Cx}
theorem its_int {ns : List Int} {its : List Value} (rv : Vals (ns.map V.int) its) {i : Nat} {v : Value} (hv : its[i]? = some v) : ∃ n t, ns[i]? = some n ∧ v = .int n t := by
  cases eb : ns[i]? with
  | none =>
    have := rv.none_of (i := i) (by rw [List.getElem?_map, eb]; rfl)
    rw [this] at hv; cases hv
  | some b =>
    obtain ⟨u, hu, ru⟩ := rv.get (i := i) (x := .int b) (by rw [List.getElem?_map, eb]; rfl)
    rw [hu] at hv; cases hv
    obtain ⟨t, rfl⟩ := ru
    exact ⟨b, t, rfl, rfl⟩
theorem call_maxL (hc : X.calm = true) : CallR X (.builtin "max") (fun xs H Q => ∃ (p : Addr) (ns : List Int), xs = [.ref p] ∧ SqL X.K H p (ns.map V.int) ∧ 0 < ns.length ∧ Q (.int (Ma.maxL ns)) H) := by
  intro pins s σ H xs us Q I r h
  obtain ⟨p, ns, rfl, hq, hne, q⟩ := h
  obtain ⟨u, rfl, rx⟩ := vals1 r
  cases rx
  obtain ⟨its, rv, pl, hz⟩ := I.list hq
  have hl := pl.isList
  have hlt : p < s.heap.objs.size := by obtain ⟨_, e, _⟩ := hl; exact Heap.lt_size e
  have hn : its.toArray.size = ns.length := by rw [List.size_toArray, ← rv.length, List.length_map]
  have hval : ∀ (i : Nat) (v : Value), its.toArray[i]? = some v → ∃ t, v = .int ((fun i => (ns[i]?).getD 0) i) t := fun i v hP => by
    obtain ⟨n, t, e, rfl⟩ := its_int rv (i := i) (v := v) (by simpa using hP)
    exact ⟨t, by simp [e]⟩
  refine call_max_walk (wpAny_pyIter_list hl ?_)
  refine ⟨_, _, _, _, _, _, _, rfl, Walks.list (A := X.A.in1) (I.ok.hd hc) s.heap.objs.size p (Nat.ne_of_lt hlt) its.toArray, ⟨⟨_, Heap.get?_push_size _ rfl, rfl, rfl⟩, hl.push _⟩, fun b hb' => ?_, by lia, CmpOf.ints_gt (fun i => (ns[i]?).getD 0) hval, fun v h' tk hP hk => ?_⟩
  · show b < (s.heap.push _).objs.size
    rw [Heap.size_push]
    rcases List.mem_cons.mp hb' with rfl | hb'
    · exact Nat.lt_succ_self _
    · have e : b = p := by simpa using hb'
      rw [e]; exact Nat.lt_succ_of_lt hlt
  · rw [hn] at hP
    have ab := argBest_gt (fun i => (ns[i]?).getD 0) (ns.length - 1)
    obtain ⟨n, t, e, rfl⟩ := its_int rv (i := argBest (fun i j => decide ((ns[i]?).getD 0 > (ns[j]?).getD 0)) (ns.length - 1)) (v := v) (by simpa using hP)
    have em : n = Ma.maxL ns := Ma.maxL_uniq (List.mem_of_getElem? e) fun m hm => by
      obtain ⟨j, hj⟩ := List.getElem?_of_mem hm
      have hjl := (List.getElem?_eq_some_iff.mp hj).1
      have a2 := ab.2 j (by lia)
      simp only [hj, e, Option.getD_some] at a2
      exact a2
    subst em
    exact ⟨.int _, H, (show Inv X pins σ H { s with heap := h', toks := tk } from seen I hk), ⟨_, rfl⟩, q⟩
theorem call_minL (hc : X.calm = true) : CallR X (.builtin "min") (fun xs H Q => ∃ (p : Addr) (ns : List Int), xs = [.ref p] ∧ SqL X.K H p (ns.map V.int) ∧ 0 < ns.length ∧ Q (.int (Ma.minL ns)) H) := by
  intro pins s σ H xs us Q I r h
  obtain ⟨p, ns, rfl, hq, hne, q⟩ := h
  obtain ⟨u, rfl, rx⟩ := vals1 r
  cases rx
  obtain ⟨its, rv, pl, hz⟩ := I.list hq
  have hl := pl.isList
  have hlt : p < s.heap.objs.size := by obtain ⟨_, e, _⟩ := hl; exact Heap.lt_size e
  have hn : its.toArray.size = ns.length := by rw [List.size_toArray, ← rv.length, List.length_map]
  have hval : ∀ (i : Nat) (v : Value), its.toArray[i]? = some v → ∃ t, v = .int ((fun i => (ns[i]?).getD 0) i) t := fun i v hP => by
    obtain ⟨n, t, e, rfl⟩ := its_int rv (i := i) (v := v) (by simpa using hP)
    exact ⟨t, by simp [e]⟩
  refine call_min_walk (wpAny_pyIter_list hl ?_)
  refine ⟨_, _, _, _, _, _, _, rfl, Walks.list (A := X.A.in1) (I.ok.hd hc) s.heap.objs.size p (Nat.ne_of_lt hlt) its.toArray, ⟨⟨_, Heap.get?_push_size _ rfl, rfl, rfl⟩, hl.push _⟩, fun b hb' => ?_, by lia, CmpOf.ints_lt (fun i => (ns[i]?).getD 0) hval, fun v h' tk hP hk => ?_⟩
  · show b < (s.heap.push _).objs.size
    rw [Heap.size_push]
    rcases List.mem_cons.mp hb' with rfl | hb'
    · exact Nat.lt_succ_self _
    · have e : b = p := by simpa using hb'
      rw [e]; exact Nat.lt_succ_of_lt hlt
  · rw [hn] at hP
    have ab := argBest_lt (fun i => (ns[i]?).getD 0) (ns.length - 1)
    obtain ⟨n, t, e, rfl⟩ := its_int rv (i := argBest (fun i j => decide ((ns[i]?).getD 0 < (ns[j]?).getD 0)) (ns.length - 1)) (v := v) (by simpa using hP)
    have em : n = Ma.minL ns := Ma.minL_uniq (List.mem_of_getElem? e) fun m hm => by
      obtain ⟨j, hj⟩ := List.getElem?_of_mem hm
      have hjl := (List.getElem?_eq_some_iff.mp hj).1
      have a2 := ab.2 j (by lia)
      simp only [hj, e, Option.getD_some] at a2
      exact a2
    subst em
    exact ⟨.int _, H, (show Inv X pins σ H { s with heap := h', toks := tk } from seen I hk), ⟨_, rfl⟩, q⟩
end
end L2
namespace L2
open PySem PySem.Spec PyProof.Rows
theorem first_at (k : Int) : ∀ ns : List Int, k ∈ ns → ∃ j, ∃ hj : j < ns.length, ns[j] = k ∧ ∀ m (hm : m < ns.length), m < j → ns[m] ≠ k
  | [], h => by simp at h
  | n :: ns, h => by
    by_cases e : n = k
    · exact ⟨0, by simp, by simpa using e, fun m hm hl => absurd hl (Nat.not_lt_zero m)⟩
    · obtain ⟨j, hj, h1, h2⟩ := first_at k ns (by
        rcases List.mem_cons.mp h with h | h
        · exact absurd h.symm e
        · exact h)
      refine ⟨j + 1, by simp only [List.length_cons]; lia, by simpa using h1, fun m hm hl => ?_⟩
      cases m with
      | zero => simpa using e
      | succ m => simpa using h2 m (by simp only [List.length_cons] at hm; lia) (by lia)
section
variable {X : Cx}
inductive rIndex (x : V) (vs : List V) (H : Hp) (Q : VK) : Prop
  | mk : ∀ (l : Addr) (ns : List Int) (k : Int), (x = .ref l) → (vs = [.int k]) → (H l = some (.lst (ns.map V.int))) → (k ∈ ns) → (∀ j : Nat, ns[j]? = some k → Q (.int j) H) → rIndex x vs H Q
theorem mt_index : MtM X "list.index" rIndex := by
  intro pins s σ H x vs v us Q I rx rv h
  obtain ⟨l, ns, k, rfl, rfl, hH, hk, q⟩ := h
  cases rx
  obtain ⟨u, rfl, ru⟩ := rv.one
  obtain ⟨t, rfl⟩ := ru
  obtain ⟨z, its, n, r, hl, e⟩ := I.lstM hH
  have hi := intsAre_of r
  obtain ⟨j, hj, e1, e2⟩ := first_at k ns hk
  have hlen : its.length = ns.length := by rw [← hl, List.length_map]
  have hz : ns.length ≤ sizeLine := by rw [List.length_map] at z; exact z
  have hz2 : (sizeLine : Nat) < 2 ^ 62 := by decide +kernel
  have at_ : ∀ (m : Nat) (hm : m < ns.length), ∃ t, its[m]'(by lia) = .int ns[m] t := fun m hm => by
    obtain ⟨n', t', a1, a2⟩ := its_int r (i := m) (v := its[m]'(by lia)) (by simp)
    rw [List.getElem?_eq_getElem hm] at a1
    cases a1
    exact ⟨t', a2⟩
  refine call_meets F.slot_list_index ⟨_, e, rfl⟩ F.entry_list_index (F.args_list_index_2 _ _) (MeetsSeq.list_index l its.toArray n (.int k t) (isInt k) (fun y hy => eq_isInt k t hi y (by simpa using hy)) j (by rw [List.size_toArray]; lia) (by lia) ?_ ?_) ⟨e, ?_⟩
  · obtain ⟨t', a⟩ := at_ j hj
    show isInt k its[j] = true
    rw [a]
    simp [isInt, e1]
  · intro m hm hl'
    rw [List.size_toArray] at hm
    obtain ⟨t', a⟩ := at_ m (by lia)
    show isInt k its[m] = false
    rw [a]
    have := e2 m (by lia) hl'
    simp [isInt, this]
  · exact ⟨.int j, H, I.tok _, ⟨_, rfl⟩, q j (by rw [List.getElem?_eq_getElem hj, e1])⟩
end
theorem cut_to {xs : List V} {k : Nat} : cutV xs none (some (k : Int)) = xs.take k := by
  unfold cutV
  rw [HT.sIx_none, HT.sIx_nat, List.drop_zero, Nat.sub_zero]
  rcases Nat.le_total k xs.length with h | h
  · rw [Nat.min_eq_left h]
  · rw [Nat.min_eq_right h, List.take_of_length_le (Nat.le_refl _), List.take_of_length_le h]
theorem cut_from {xs : List V} {k : Nat} : cutV xs (some (k : Int)) none = xs.drop k := by
  unfold cutV
  rw [HT.sIx_nat, HT.sIx_none]
  rcases Nat.le_total k xs.length with h | h
  · rw [Nat.min_eq_left h, List.take_of_length_le (by rw [List.length_drop]; omega)]
  · rw [Nat.min_eq_right h, List.drop_of_length_le (Nat.le_refl _), List.drop_of_length_le h]
    simp
theorem ps_cut {X : Cx} {st : Stmt} {t : TS} (h : PS X st t) : PS X st (fun D σ H => ∃ I : St → Hp → Prop, t { D with nx := I } σ H ∧ ∀ σ' H', I σ' H' → D.nx σ' H') := fun pins s σ H D I0 ⟨I, ht, hI⟩ => thn (h pins s σ H _ I0 ht) fun f s' hf => by
  cases f with
  | next => obtain ⟨σ', H', i, q⟩ := hf; exact ⟨σ', H', i, hI _ _ q⟩
  | brk => exact hf
  | cont => exact hf
  | ret u => exact hf
theorem for_zip {K : PySem.W.Frag} {a b : Addr} {xs ys : List V} {g : TG} {tb : TS} {D : Ends} {σ : St} {H : Hp} (Pv : Nat → St → Hp → Prop) (hlen : xs.length = ys.length) (h0 : Pv 0 σ H) (hl : ∀ i σ H, i ≤ xs.length → Pv i σ H → SqL K H a xs ∧ SqL K H b ys)
    (hs : ∀ i x y σ H t, xs[i]? = some x → ys[i]? = some y → Pv i σ H → H t = none → g (.ref t) σ (upd H t (.tup [x, y])) fun σ2 H2 => tb { D with nx := Pv (i + 1), ct := Pv (i + 1), bk := D.nx } σ2 H2) (hd : ∀ σ H, Pv xs.length σ H → D.nx σ H) :
    ∃ W : Nat → Nat → St → Hp → Prop, (∃ m, W 0 m σ H) ∧ ∀ i m σ H, W i m σ H →
      ((Itz K a b).stop i H ∧ D.nx σ H) ∨ ((Itz K a b).go i H ∧ ∃ N : St → Hp → Prop, (∀ σ' H', N σ' H' → ∃ m', m' < m ∧ W (i + 1) m' σ' H') ∧ ∀ x H', (Itz K a b).yld i H x H' → g x σ H' fun σ2 H2 => tb { D with nx := N, ct := N, bk := D.nx } σ2 H2) := by
  refine ⟨fun i m σ H => m = xs.length - i ∧ i ≤ xs.length ∧ Pv i σ H, ⟨xs.length, by simp, Nat.zero_le _, h0⟩, ?_⟩
  rintro i m σ H ⟨rfl, hi, p⟩
  obtain ⟨q1, q2⟩ := hl i σ H hi p
  by_cases hlt : i < xs.length
  · have e1 : xs[i]? = some xs[i] := by simp [hlt]
    have e2 : ys[i]? = some (ys[i]'(by lia)) := by simp
    refine .inr ⟨⟨xs, ys, _, _, q1, q2, e1, e2⟩, Pv (i + 1), fun σ' H' p' => ⟨xs.length - (i + 1), by lia, rfl, hlt, p'⟩, fun v H' y => ?_⟩
    obtain ⟨t, x, y, rfl, ht, y1, y2, rfl⟩ := y
    exact hs i x y σ H t (y1 xs q1) (y2 ys q2) p ht
  · have e : i = xs.length := by lia
    subst e
    exact .inl ⟨⟨xs, ys, q1, q2, .inl (Nat.le_refl _)⟩, hd σ H p⟩
end L2
namespace L2
open PySem PySem.Spec PyProof.Rows
section
variable {prog : Program} {w : World} {A : Around} {E : Value → Shared → Prop} {s : Shared}
theorem draw_listI {it t : Addr} {items : Array Value} (hne : t ≠ it) : ∀ (n i : Nat) (s : Shared) (Q : List Value → Shared → Prop), s.heap.IsListIter it t i → s.heap.IsList t items → i + n ≤ items.size →
    (∀ h', h'.IsListIter it t (i + n) → Heap.SameBut it s.heap h' → Q ((items.toList.drop i).take n) { s with heap := h' }) → wpAny (model prog w) A (draw (.ref it) n) Q E s
  | 0, i, s, Q, hit, _, _, hQ => by
    show wpAny _ _ (pure []) Q E s
    exact wpAny_pure (by simpa using hQ s.heap hit (Heap.SameBut.refl ..))
  | n + 1, i, s, Q, hit, ht, hle, hQ => by
    have hlt : i < items.size := by lia
    show wpAny _ _ (pyNext (.ref it) >>= _) Q E s
    refine wpAny_bind (wpAny_pyNext_list_item hit ht (x := items[i]) (by simp [hlt]) fun h₁ hit₁ hs₁ => ?_)
    refine wpAny_bind (wpAny_holding (draw_listI hne n (i + 1) _ _ hit₁ (ht.extBut hs₁.extBut hne) (by lia) fun h₂ hit₂ hs₂ => wpAny_pure ?_))
    have hd : items.toList.drop i = items[i] :: items.toList.drop (i + 1) := by simp [List.drop_eq_getElem_cons, hlt]
    have := hQ h₂ (by rw [show i + (n + 1) = i + 1 + n by lia]; exact hit₂) (hs₁.trans hs₂)
    rw [hd, List.take_succ_cons] at this
    exact this
theorem assign_Tuple_list {env : Env} {elts : List Expr} {x1} {pos : Pos} {t : Addr} {items : Array Value} {Q : Unit → Shared → Prop} (hh : A.handled = none) (ht : s.heap.IsList t items)
    (hn : (assignEach elts env).length = items.size) (hstar : (assignEach elts env).findIdx? (·.1) = none)
    (h : ∀ h', Heap.ExtBut s.heap.objs.size s.heap h' → wpAny (model prog w) A (assignInOrder ((assignEach elts env).map (·.2)) items.toList) Q E { s with heap := h' }) :
    wpAny (model prog w) A (assign (.Tuple elts x1 pos) env (.ref t)) Q E s := by
  have hlt : t ≠ s.heap.objs.size := by obtain ⟨o, ho, _⟩ := ht; exact Nat.ne_of_lt (Heap.lt_size ho)
  rw [assign_Tuple]
  refine wpAny_bind (wpAny_standAt ?_)
  unfold unpack
  rw [hn, hstar]
  refine wpAny_bind (wpAny_holding ?_)
  unfold unpackItems
  refine wpAny_bind ?_
  unfold notIterableAtAll
  refine wpAny_bind (wpAny_specialOf ht.typeIs PySem.F.slot_list_iter.lookup ?_)
  refine wpAny_pure ?_
  simp only [Bool.false_eq_true, if_false]
  refine wpAny_bind (wpAny_holding (wpAny_pyIter_list ht ?_))
  refine wpAny_bind (wpAny_holding (draw_listI hlt items.size 0 _ _ ⟨_, Heap.get?_push_size _ rfl, rfl, rfl⟩ (ht.push _) (by lia) fun h₁ hit₁ hs₁ => ?_))
  have hall : List.take items.size (List.drop 0 items.toList) = items.toList := by
    rw [List.drop_zero]; exact List.take_of_length_le (by simp)
  rw [hall, if_neg (by simp)]
  have ht₁ : h₁.IsList t items := (ht.push _).extBut hs₁.extBut hlt
  refine wpAny_bind (wpAny_holding (wpAny_pyNext_list_end hh hit₁ ht₁ (by simp) fun h₂ he₂ => ?_))
  simp only [Option.isSome_none, Bool.false_eq_true, if_false]
  exact wpAny_pure (h h₂ fun b o hb e => he₂ b o hb (hs₁.extBut b o hb (Heap.get?_push_of_some _ e)))
end
section
variable {X : Cx} {pos : Pos}
inductive gLst (K : PySem.W.Frag) (n : Nat) (t : TGs) (v : V) (σ : St) (H : Hp) (Q : St → Hp → Prop) : Prop
  | mk : ∀ a xs, (v = .ref a) → (SqL K H a xs) → (xs.length = n) → (t xs σ H Q) → gLst K n t v σ H Q
theorem pg_lst {es : List Expr} {k : Nat} {t : TGs} {n : Nat} (hc : X.calm = true) (h : PGs X es t)
    (hn : (assignEach es X.env).length = n := by rfl) (hst : (assignEach es X.env).findIdx? (·.1) = none := by rfl) : PG X (.Tuple es k pos) (gLst X.K n t) := by
  intro pins s σ H v u Q I r hw
  obtain ⟨a, xs, e1, hq, hl, hw⟩ := hw
  subst e1
  cases r
  obtain ⟨its, rv, pl, hz⟩ := I.list hq
  refine assign_Tuple_list (I.ok.hd hc) pl.isList (by simp [hn, ← hl, rv.length]) hst fun h' hx => ?_
  have I1 : Inv X pins σ H { s with heap := h' } := I.kept (t' := s.toks) fun b o e => hx b o (Nat.ne_of_lt (Heap.lt_size e)) e
  exact h pins _ σ H xs _ Q I1 (by simpa using rv) hw
end
end L2
namespace L2
open PySem PySem.Spec PyProof.Rows
section
variable {X : Cx}
end
end L2
namespace L2
open PySem PySem.Spec PyProof.Rows

theorem range_rev_take {al : Type} (xs : List al) : ∀ n, n ≤ xs.length → (((List.range n).map fun (k : Nat) => xs.length - 1 - k).filterMap fun i => xs[i]?) = xs.reverse.take n
  | 0, _ => by simp
  | n + 1, h => by
    rw [List.range_succ, List.map_append, List.filterMap_append, range_rev_take xs n (by lia), List.take_add_one, List.getElem?_reverse (by lia)]
    have e : xs[xs.length - 1 - n]? = some (xs[xs.length - 1 - n]'(by lia)) := by simp
    simp [e]
theorem range_rev {al : Type} (xs : List al) : (((List.range xs.length).map fun (k : Nat) => xs.length - 1 - k).filterMap fun i => xs[i]?) = xs.reverse := by
  rw [range_rev_take xs xs.length (Nat.le_refl _), List.take_of_length_le (by simp)]
theorem slicePick_rev (its : List Value) : slicePick its.toArray none none (some (-1)) = its.reverse.toArray := by
  unfold slicePick
  rw [← range_rev its]
  congr 1
  have e : sliceRange (sliceBounds none none (some (-1)) its.toArray.size).1 (sliceBounds none none (some (-1)) its.toArray.size).2.1 (sliceBounds none none (some (-1)) its.toArray.size).2.2 = (List.range its.length).map fun (k : Nat) => its.length - 1 - k := by
    have e1 : sliceBounds none none (some (-1)) its.toArray.size = ((its.length : Int) - 1, -1, -1) := by simp [sliceBounds]
    rw [e1]
    unfold sliceRange
    have e2 : (if (-1 : Int) > 0 then (if ((its.length : Int) - 1) < -1 then (-1 - ((its.length : Int) - 1) + -1 - 1) / -1 else 0) else (if ((its.length : Int) - 1) > -1 then (((its.length : Int) - 1) - -1 - -1 - 1) / (-(-1)) else 0)).toNat = its.length := by
      rw [if_neg (by decide)]
      split
      · rw [show (-(-1) : Int) = 1 by decide, Int.ediv_one]; lia
      · lia
    show List.map _ (List.range (Int.toNat _)) = _
    rw [e2]
    refine List.map_congr_left fun k hk => ?_
    have := List.mem_range.mp hk
    show ((its.length : Int) - 1 + -1 * (k : Int)).toNat = _
    lia
  rw [e]
  simp only [List.getElem?_toArray]
section
variable {X : Cx} {e st : Expr} {te ts : TE} {pos p2 : Pos} {tg : Expr}
noncomputable def tSRev (K : PySem.W.Frag) (te ts : TE) : TE := fun σ H Q => te σ H fun x H1 => ts σ H1 fun y H2 => y = .int (-1) ∧ ∃ a xs, x = .ref a ∧ SqL K H2 a xs ∧ ∀ p, H2 p = none → Q (.ref p) (upd H2 p (.lst xs.reverse))
theorem Vals.rev {xs : List V} {its : List Value} (r : Vals xs its) : Vals xs.reverse its.reverse := by
  induction r with
  | nil => exact .nil
  | cons h _ ih => rw [List.reverse_cons, List.reverse_cons]; exact Paired.snoc ih h
theorem pe_srev (he : PE X e te) (hs : PE X st ts) : PE X (.Subscript e (.Slice none none (some st) p2) pos) (tSRev X.K te ts) := by
  intro pins s σ H Q I h
  refine Subscript_ (thnE (he pins s σ H _ I h) fun v s1 x H1 I1 r1 q1 => ?_)
  refine wpAny_Slice ?_
  rw [evalPart_none]
  refine wpAny_pure (wpAny_pure ?_)
  rw [evalPart_some]
  refine thnE (hs pins s1 σ H1 _ I1 q1) fun vs s3 y H3 I3 r3 q3 => ?_
  obtain ⟨rfl, a, xs, rfl, hx, q⟩ := q3
  obtain ⟨t, rfl⟩ := r3
  cases r1
  have I4 : Inv X pins σ H3 { s3 with heap := s3.heap.push { cls := .type "slice", data := .fields #[.none, .none, .int (-1) t] } } := I3.kept (t' := s3.toks) fun b ob q => Heap.get?_push_of_some _ q
  obtain ⟨its, r, ht, hz⟩ := I4.list hx
  have hlen := r.length
  have hg : wpAny (model X.prog X.w) X.A (getItem (.ref a) (.ref s3.heap.objs.size)) (EP X pins σ Q) X.xe { s3 with heap := s3.heap.push { cls := .type "slice", data := .fields #[.none, .none, .int (-1) t] } } := by
    refine wpAny_getItem_list_slice ht.isList (Heap.IsSliceOf.new ..) .none .none (.int (-1) t) (by simp) ?_ (by rw [List.size_toArray] <;> lia)
    rw [slicePick_rev]
    refine ⟨.ref _, _, I4.laid (t' := s3.toks) (o := .lst xs.reverse) (fun b ob q => Heap.get?_push_of_some _ q) (Nat.le_refl _) ?_, rfl, q _ (I4.hok.fresh (Nat.le_refl _))⟩
    exact ⟨by rw [List.length_reverse]; exact hz, _, 0, Vals.rev r, Heap.get?_push_size _ rfl⟩
  show wpAny (model X.prog X.w) X.A (subscriptTail e (.Slice none none (some st) p2) (.ref a) (.ref s3.heap.objs.size)) (EP X pins σ Q) X.xe { s3 with heap := s3.heap.push { cls := .type "slice", data := .fields #[.none, .none, .int (-1) t] } }
  exact tail_any (ops := [.ref a, .ref s3.heap.objs.size]) ht.isList.typeIs slot_list_getitem.lookup hg (by with_unfolding_all rfl)

end
end L2
namespace Ma
end Ma
namespace Me
noncomputable def look (f : List (Int × Int)) (k : Int) : Option Int := (f.find? fun q => decide (q.1 = k)).map (·.2)
noncomputable def put (f : List (Int × Int)) (k v : Int) : List (Int × Int) :=
  if (f.any fun p => decide (p.1 = k)) = true then f.map (fun p => if p.1 = k then (p.1, v) else p) else f ++ [(k, v)]
noncomputable def addTo (f : List (Int × Int)) (k n : Int) : List (Int × Int) := put f k ((look f k).getD 0 + n)
noncomputable def figs (p : Int × Int) (w : Int) (n : Nat) (acc : List (Int × Int)) : List (Int × Int) := (List.range n).foldl (fun acc (d : Nat) => addTo acc (p.1 + (d : Int) * w) p.2) acc
noncomputable def oneMore (f : List (Int × Int)) (b : Nat) (w : Int) : List (Int × Int) := f.foldl (fun acc p => figs p w b acc) []
noncomputable def waysW (b : Nat) (ws : List Int) : List (Int × Int) := ws.foldl (fun f w => oneMore f b w) [(0, 1)]
noncomputable abbrev keys (f : List (Int × Int)) : List Int := f.map (·.1)
theorem figs_succ (p : Int × Int) (w : Int) (n : Nat) (acc : List (Int × Int)) : figs p w (n + 1) acc = addTo (figs p w n acc) (p.1 + (n : Int) * w) p.2 := by
  unfold figs
  rw [List.range_succ, List.foldl_append]
  rfl
theorem oneMore_take {f : List (Int × Int)} {b i : Nat} {w : Int} {p : Int × Int} (h : f[i]? = some p) : oneMore (f.take (i + 1)) b w = figs p w b (oneMore (f.take i) b w) := by
  unfold oneMore
  rw [List.take_add_one, h, List.foldl_append]
  rfl
theorem waysW_take {b i : Nat} {ws : List Int} {w : Int} (h : ws[i]? = some w) : waysW b (ws.take (i + 1)) = oneMore (waysW b (ws.take i)) b w := by
  unfold waysW
  rw [List.take_add_one, h, List.foldl_append]
  rfl
theorem keys_repl (f : List (Int × Int)) (k v : Int) : keys (f.map fun p => if p.1 = k then (p.1, v) else p) = keys f := by
  rw [keys, List.map_map]
  apply List.map_congr_left
  intro p _
  show (if p.1 = k then (p.1, v) else p).1 = p.1
  split <;> rfl
theorem keys_put {f : List (Int × Int)} {k v : Int} : (keys f).Nodup → (keys (put f k v)).Nodup := by
  intro nd
  unfold put
  split
  · rw [keys_repl]; exact nd
  · rename_i h
    have hn : k ∉ keys f := fun z => h (by
      obtain ⟨p, hp, e⟩ := List.mem_map.mp z
      exact List.any_eq_true.mpr ⟨p, hp, by simpa using e⟩)
    rw [keys, List.map_append]
    refine List.nodup_append.mpr ⟨nd, by simp, fun a ha b hb => ?_⟩
    have : b = k := by simpa using hb
    rw [this]
    exact fun z => hn (z ▸ ha)
theorem keys_in {f : List (Int × Int)} {k v lo hi : Int} (h : ∀ x ∈ keys f, lo ≤ x ∧ x ≤ hi) (hk : lo ≤ k ∧ k ≤ hi) : ∀ x ∈ keys (put f k v), lo ≤ x ∧ x ≤ hi := by
  unfold put
  split
  · rw [keys_repl]; exact h
  · intro x hx
    rw [keys, List.map_append] at hx
    rcases List.mem_append.mp hx with hx | hx
    · exact h x hx
    · have : x = k := by simpa using hx
      rw [this]; exact hk
structure Ok (f : List (Int × Int)) (m : Int) : Prop where
  nd : (keys f).Nodup
  bd : ∀ x ∈ keys f, -m ≤ x ∧ x ≤ m
theorem Ok.put {f : List (Int × Int)} {m k v : Int} (o : Ok f m) (h : -m ≤ k ∧ k ≤ m) : Ok (put f k v) m := ⟨keys_put o.nd, keys_in o.bd h⟩
theorem Ok.nil {m : Int} : Ok [] m := ⟨by simp [keys], fun x h => by simp [keys] at h⟩
theorem step_in {m x w : Int} {d b : Nat} (hx : -m ≤ x ∧ x ≤ m) (hw : -9 ≤ w ∧ w ≤ 9) (hb : b ≤ 16) (hd : d < b) : -(m + 135) ≤ x + (d : Int) * w ∧ x + (d : Int) * w ≤ m + 135 := by
  have d0 : (0 : Int) ≤ d := by lia
  have d15 : (d : Int) ≤ 15 := by lia
  have a1 : (d : Int) * w ≤ d * 9 := Int.mul_le_mul_of_nonneg_left hw.2 d0
  have a2 : (d : Int) * (-9) ≤ d * w := Int.mul_le_mul_of_nonneg_left hw.1 d0
  lia
theorem figs_ok {f : List (Int × Int)} {m w : Int} {p : Int × Int} {b : Nat} (hp : -m ≤ p.1 ∧ p.1 ≤ m) (hw : -9 ≤ w ∧ w ≤ 9) (hb : b ≤ 16) (o : Ok f (m + 135)) : ∀ n, n ≤ b → Ok (figs p w n f) (m + 135)
  | 0, _ => o
  | n + 1, h => by
    rw [figs_succ]
    exact (figs_ok hp hw hb o n (by lia)).put (step_in hp hw hb (by lia))
theorem oneMore_ok {f : List (Int × Int)} {m w : Int} {b : Nat} (o : Ok f m) (hw : -9 ≤ w ∧ w ≤ 9) (hb : b ≤ 16) : ∀ i, Ok (oneMore (f.take i) b w) (m + 135)
  | 0 => Ok.nil
  | i + 1 => by
    cases h : f[i]? with
    | none =>
      rw [List.take_add_one, h]
      simpa using oneMore_ok o hw hb i
    | some p =>
      rw [oneMore_take h]
      exact figs_ok (o.bd p.1 (List.mem_map.mpr ⟨p, List.mem_of_getElem? h, rfl⟩)) hw hb (oneMore_ok o hw hb i) b (Nat.le_refl _)
theorem oneMore_ok' {f : List (Int × Int)} {m w : Int} {b : Nat} (o : Ok f m) (hw : -9 ≤ w ∧ w ≤ 9) (hb : b ≤ 16) : Ok (oneMore f b w) (m + 135) := by
  have := oneMore_ok o hw hb f.length
  rwa [List.take_length] at this
theorem ways_ok {b : Nat} {ws : List Int} (hw : ∀ w ∈ ws, -9 ≤ w ∧ w ≤ 9) (hb : b ≤ 16) : ∀ i : Nat, Ok (waysW b (ws.take i)) (135 * i)
  | 0 => ⟨by simp [waysW, keys], fun x h => by have : x = 0 := by simpa [waysW, keys] using h
                                               lia⟩
  | i + 1 => by
    cases h : ws[i]? with
    | none =>
      rw [List.take_add_one, h]
      have o := ways_ok hw hb i
      simp only [Option.toList_none, List.append_nil]
      exact ⟨o.nd, fun x hx => by have := o.bd x hx; lia⟩
    | some w =>
      rw [waysW_take h]
      have o := oneMore_ok' (ways_ok hw hb i) (hw w (List.mem_of_getElem? h)) hb
      have e : (135 * ((i + 1 : Nat) : Int)) = 135 * (i : Int) + 135 := by lia
      rw [e]
      exact o
theorem ways_ok' {b : Nat} {ws : List Int} (hw : ∀ w ∈ ws, -9 ≤ w ∧ w ≤ 9) (hb : b ≤ 16) : Ok (waysW b ws) (135 * ws.length) := by
  have := ways_ok hw hb ws.length
  rwa [List.take_length] at this
theorem sub_len {α : Type} [DecidableEq α] : ∀ {l m : List α}, l.Nodup → (∀ x ∈ l, x ∈ m) → l.length ≤ m.length
  | [], _, _, _ => Nat.zero_le _
  | x :: l, m, nd, h => by
    have hx := h x (by simp)
    have hn := (List.nodup_cons.mp nd).1
    have := sub_len (l := l) (m := m.erase x) (List.nodup_cons.mp nd).2 fun y hy => (List.mem_erase_of_ne (show y ≠ x from fun e => hn (by rw [← e]; exact hy))).mpr (h y (List.mem_cons_of_mem _ hy))
    rw [List.length_erase_of_mem hx] at this
    have hp : 0 < m.length := List.length_pos_of_mem hx
    simp only [List.length_cons]
    lia
theorem Ok.len {f : List (Int × Int)} {m : Nat} (o : Ok f m) : f.length ≤ 2 * m + 1 := by
  have h := sub_len (l := keys f) (m := (List.range (2 * m + 1)).map fun (i : Nat) => (i : Int) - m) o.nd fun x hx => by
    have := o.bd x hx
    refine List.mem_map.mpr ⟨(x + m).toNat, List.mem_range.mpr (by lia), by lia⟩
  simpa [keys] using h
theorem look_mem : ∀ {g : List (Int × Int)} {p : Int × Int}, (keys g).Nodup → p ∈ g → look g p.1 = some p.2
  | [], _, _, h => by simp at h
  | q :: g, p, nd, h => by
    have hn : q.1 ∉ keys g := (List.nodup_cons.mp nd).1
    have nd' := (List.nodup_cons.mp nd).2
    rcases List.mem_cons.mp h with rfl | h
    · simp [look, List.find?_cons]
    · have hne : ¬ q.1 = p.1 := fun e => hn (by rw [e]; exact List.mem_map.mpr ⟨p, h, rfl⟩)
      have := look_mem nd' h
      simpa [look, List.find?_cons, hne] using this
theorem pairs_perm {f : List (Int × Int)} (nd : (keys f).Nodup) {ns : List Int} (h : ns.Perm (keys f)) : (ns.map fun n => (n, (look f n).getD 0)).Perm f := by
  have h1 := h.map fun n => (n, (look f n).getD 0)
  have e : (keys f).map (fun n => (n, (look f n).getD 0)) = f := by
    rw [keys, List.map_map]
    conv => rhs; rw [← List.map_id f]
    apply List.map_congr_left
    intro p hp
    show (p.1, (look f p.1).getD 0) = p
    rw [look_mem nd hp]
    rfl
  rw [e] at h1
  exact h1
theorem put_new {f : List (Int × Int)} {k v : Int} (h : k ∉ keys f) : put f k v = f ++ [(k, v)] := by
  unfold put
  rw [if_neg]
  intro z
  obtain ⟨p, hp, e⟩ := List.any_eq_true.mp z
  exact h (List.mem_map.mpr ⟨p, hp, by simpa using e⟩)
noncomputable def mergeI (f more : List (Int × Int)) : List (Int × Int) := more.foldl (fun acc p => put acc p.1 p.2) f
theorem merge_new : ∀ (more f : List (Int × Int)), (keys (f ++ more)).Nodup → mergeI f more = f ++ more
  | [], f, _ => by simp [mergeI]
  | p :: r, f, nd => by
    have hp : p.1 ∉ keys f := by
      rw [keys, List.map_append] at nd
      have := (List.nodup_append.mp nd).2.2
      exact fun z => this p.1 z p.1 (by simp) rfl
    show mergeI (put f p.1 p.2) r = _
    rw [put_new hp, merge_new r (f ++ [(p.1, p.2)]) (by simpa using nd)]
    simp
end Me
namespace Me
noncomputable abbrev tot (f : List (Int × Int)) : Int := (f.map (·.2)).sum
theorem repl_none {f : List (Int × Int)} {k v : Int} (h : k ∉ keys f) : (f.map fun p => if p.1 = k then (p.1, v) else p) = f := by
  induction f with
  | nil => rfl
  | cons p f ih =>
    have h1 : p.1 ≠ k := fun z => h (by simp [keys, z])
    have h2 : k ∉ keys f := fun z => h (List.mem_cons_of_mem _ z)
    rw [List.map_cons, ih h2, if_neg h1]
theorem put_hit {f : List (Int × Int)} {a x v : Int} (h : a ∉ keys f) : put ((a, x) :: f) a v = (a, v) :: f := by
  unfold put
  rw [if_pos (by simp), List.map_cons, repl_none h, if_pos rfl]
theorem put_miss {f : List (Int × Int)} {a x k v : Int} (h : a ≠ k) : put ((a, x) :: f) k v = (a, x) :: put f k v := by
  unfold put
  have e : (((a, x) :: f).any fun p => decide (p.1 = k)) = f.any fun p => decide (p.1 = k) := by
    rw [List.any_cons]
    simp [h]
  rw [e]
  split
  · rw [List.map_cons, if_neg h]
  · rfl
theorem look_hit {f : List (Int × Int)} {a x : Int} : look ((a, x) :: f) a = some x := by simp [look]
theorem look_miss {f : List (Int × Int)} {a x k : Int} (h : a ≠ k) : look ((a, x) :: f) k = look f k := by simp [look, h]
theorem add_hit {f : List (Int × Int)} {a x n : Int} (h : a ∉ keys f) : addTo ((a, x) :: f) a n = (a, x + n) :: f := by
  unfold addTo
  rw [look_hit, put_hit h]
  rfl
theorem add_miss {f : List (Int × Int)} {a x k n : Int} (h : a ≠ k) : addTo ((a, x) :: f) k n = (a, x) :: addTo f k n := by
  unfold addTo
  rw [look_miss h, put_miss h]
theorem add_tot {k n : Int} : ∀ {f : List (Int × Int)}, (keys f).Nodup → tot (addTo f k n) = tot f + n
  | [], _ => by simp [addTo, put, look, tot]
  | (a, x) :: f, nd => by
    have nd1 : a ∉ keys f := (List.nodup_cons.mp nd).1
    have nd2 : (keys f).Nodup := (List.nodup_cons.mp nd).2
    by_cases e : a = k
    · subst e
      rw [add_hit nd1]
      simp only [tot, List.map_cons, List.sum_cons]
      lia
    · have ih := add_tot (k := k) (n := n) nd2
      rw [add_miss e]
      simp only [tot, List.map_cons, List.sum_cons] at ih ⊢
      lia
theorem add_nn {k n : Int} (hn : 0 ≤ n) : ∀ {f : List (Int × Int)}, (keys f).Nodup → (∀ p ∈ f, 0 ≤ p.2) → ∀ p ∈ addTo f k n, 0 ≤ p.2
  | [], _, _ => by
    intro p hp
    have : p = (k, 0 + n) := by simpa [addTo, put, look] using hp
    rw [this]
    show 0 ≤ 0 + n
    lia
  | (a, x) :: f, nd, h => by
    have nd1 : a ∉ keys f := (List.nodup_cons.mp nd).1
    have nd2 : (keys f).Nodup := (List.nodup_cons.mp nd).2
    have hx : 0 ≤ x := h (a, x) (by simp)
    have hf : ∀ p ∈ f, 0 ≤ p.2 := fun p hp => h p (by simp [hp])
    by_cases e : a = k
    · subst e
      rw [add_hit nd1]
      intro p hp
      rcases List.mem_cons.mp hp with rfl | hp
      · show 0 ≤ x + n
        lia
      · exact hf p hp
    · rw [add_miss e]
      intro p hp
      rcases List.mem_cons.mp hp with rfl | hp
      · exact hx
      · exact add_nn hn nd2 hf p hp
theorem add_nd {f : List (Int × Int)} {k n : Int} (nd : (keys f).Nodup) : (keys (addTo f k n)).Nodup := keys_put nd
structure Tw (f : List (Int × Int)) (t : Int) : Prop where
  nd : (keys f).Nodup
  nn : ∀ p ∈ f, 0 ≤ p.2
  tt : tot f = t
theorem Tw.add {f : List (Int × Int)} {t k n : Int} (o : Tw f t) (hn : 0 ≤ n) : Tw (addTo f k n) (t + n) := ⟨add_nd o.nd, add_nn hn o.nd o.nn, by rw [add_tot o.nd, o.tt]⟩
theorem Tw.figs {f : List (Int × Int)} {t w : Int} {p : Int × Int} (o : Tw f t) (hp : 0 ≤ p.2) : ∀ n : Nat, Tw (figs p w n f) (t + n * p.2)
  | 0 => by
    have e : t + ((0 : Nat) : Int) * p.2 = t := by simp
    rw [e]; exact o
  | n + 1 => by
    have e : t + ((n + 1 : Nat) : Int) * p.2 = (t + n * p.2) + p.2 := by push_cast; rw [Int.add_mul]; lia
    rw [figs_succ, e]
    exact (Tw.figs o hp n).add hp
theorem Tw.more {b : Nat} {w : Int} : ∀ {f : List (Int × Int)} {acc : List (Int × Int)} {t : Int}, Tw acc t → (∀ p ∈ f, 0 ≤ p.2) → Tw (f.foldl (fun acc p => Me.figs p w b acc) acc) (t + b * tot f)
  | [], acc, t, o, _ => by
    have e : t + (b : Int) * tot [] = t := by simp [tot]
    rw [e]; exact o
  | p :: f, acc, t, o, h => by
    have e : t + (b : Int) * tot (p :: f) = (t + b * p.2) + b * tot f := by
      simp only [tot, List.map_cons, List.sum_cons]
      rw [Int.mul_add]; lia
    rw [e, List.foldl_cons]
    exact Tw.more (o.figs (h p (by simp)) b) (fun q hq => h q (by simp [hq]))
theorem Tw.one {f : List (Int × Int)} {t w : Int} {b : Nat} (o : Tw f t) : Tw (oneMore f b w) (b * t) := by
  have z : Tw [] 0 := ⟨by simp [keys], fun p hp => by simp at hp, rfl⟩
  have h := Tw.more (b := b) (w := w) z o.nn
  rw [o.tt] at h
  have e : (0 : Int) + b * t = b * t := by lia
  rw [e] at h
  exact h
theorem ways_tot (b : Nat) : ∀ (ws : List Int) (f : List (Int × Int)) (t : Int), Tw f t → Tw (ws.foldl (fun f w => oneMore f b w) f) ((b : Int) ^ ws.length * t)
  | [], f, t, o => by
    have e : (b : Int) ^ ([] : List Int).length * t = t := by simp
    rw [e]; exact o
  | w :: ws, f, t, o => by
    have e : (b : Int) ^ (w :: ws).length * t = (b : Int) ^ ws.length * (b * t) := by
      rw [List.length_cons, Int.pow_succ, Int.mul_assoc]
    rw [e]
    exact ways_tot b ws _ _ o.one
theorem ways_tw (b : Nat) (ws : List Int) : Tw (waysW b ws) ((b : Int) ^ ws.length) := by
  have z : Tw [(0, 1)] 1 := ⟨by simp [keys], fun p hp => by
    have : p = (0, 1) := by simpa using hp
    rw [this]; decide, rfl⟩
  have h := ways_tot b ws _ _ z
  rw [Int.mul_one] at h
  exact h
theorem le_tot : ∀ {f : List (Int × Int)}, (∀ p ∈ f, 0 ≤ p.2) → 0 ≤ tot f ∧ ∀ p ∈ f, p.2 ≤ tot f
  | [], _ => ⟨by simp [tot], fun p hp => by simp at hp⟩
  | q :: f, h => by
    obtain ⟨i1, i2⟩ := le_tot (f := f) fun p hp => h p (by simp [hp])
    have hq := h q (by simp)
    have e : tot (q :: f) = q.2 + tot f := by simp [tot]
    rw [e]
    refine ⟨by lia, fun p hp => ?_⟩
    rcases List.mem_cons.mp hp with rfl | hp
    · lia
    · have := i2 p hp; lia
theorem ways_val {b : Nat} {ws : List Int} (hb : b ≤ 16) (hl : ws.length ≤ 6) (k : Int) : 0 ≤ (look (waysW b ws) k).getD 0 ∧ (look (waysW b ws) k).getD 0 ≤ 16777216 := by
  have o := ways_tw b ws
  obtain ⟨h0, h1⟩ := le_tot o.nn
  rw [o.tt] at h1
  have hm : b ^ ws.length ≤ 16 ^ 6 := Nat.le_trans (Nat.pow_le_pow_left hb _) (Nat.pow_le_pow_right (by decide) hl)
  have hm' : ((b : Int) ^ ws.length) ≤ 16777216 := by
    have e : ((b ^ ws.length : Nat) : Int) = (b : Int) ^ ws.length := Int.natCast_pow b ws.length
    rw [← e]
    have : (16 : Nat) ^ 6 = 16777216 := by decide
    lia
  cases e : (waysW b ws).find? fun q => decide (q.1 = k) with
  | none =>
    rw [look, e]
    exact ⟨by decide, by decide⟩
  | some q =>
    have hq := List.mem_of_find?_eq_some e
    rw [look, e]
    exact ⟨o.nn q hq, Int.le_trans (h1 q hq) hm'⟩
theorem look_perm {f g : List (Int × Int)} (h : f.Perm g) (nd : (keys g).Nodup) (k : Int) : look f k = look g k := by
  have ndf : (keys f).Nodup := (h.map _).nodup_iff.mpr nd
  cases e : g.find? fun q => decide (q.1 = k) with
  | none =>
    have e2 : f.find? (fun q => decide (q.1 = k)) = none := by
      rw [List.find?_eq_none] at e ⊢
      exact fun x hx => e x (h.mem_iff.mp hx)
    rw [look, look, e, e2]
  | some q =>
    have hq := List.mem_of_find?_eq_some e
    have hk : q.1 = k := by simpa using List.find?_some e
    rw [← hk, look_mem nd hq, look_mem ndf (h.mem_iff.mpr hq)]
noncomputable def prodW (b : Nat) (rows : List (List Int)) (t : Int) : Int := rows.foldl (fun m row => m * (look (waysW b row) t).getD 0) 1
theorem prodW_take {b i : Nat} {rows : List (List Int)} {row : List Int} {t : Int} (h : rows[i]? = some row) : prodW b (rows.take (i + 1)) t = prodW b (rows.take i) t * (look (waysW b row) t).getD 0 := by
  unfold prodW
  rw [List.take_add_one, h, List.foldl_append]
  rfl
noncomputable def evenL (b : Nat) (rows : List (List Int)) (ks : List Int) : List (Int × Int) := (ks.filter fun k => decide (0 < prodW b rows k)).map fun k => (k, prodW b rows k)
theorem even_keys (b : Nat) (rows : List (List Int)) (ks : List Int) : keys (evenL b rows ks) = ks.filter fun k => decide (0 < prodW b rows k) := by
  rw [keys, evenL, List.map_map]
  exact List.map_id' _
theorem even_nd {b : Nat} {rows : List (List Int)} {ks : List Int} (nd : ks.Nodup) : (keys (evenL b rows ks)).Nodup := by
  rw [even_keys]
  exact nd.sublist List.filter_sublist
theorem even_perm {b : Nat} {rows : List (List Int)} {ks ls : List Int} (h : ks.Perm ls) : (evenL b rows ks).Perm (evenL b rows ls) := (h.filter _).map _
theorem even_len (b : Nat) (rows : List (List Int)) (ks : List Int) : (evenL b rows ks).length ≤ ks.length := by
  rw [evenL, List.length_map]
  exact List.length_filter_le _ _
theorem even_yes {b i : Nat} {rows : List (List Int)} {ks : List Int} {k : Int} (nd : ks.Nodup) (h : ks[i]? = some k) (hp : 0 < prodW b rows k) : evenL b rows (ks.take (i + 1)) = put (evenL b rows (ks.take i)) k (prodW b rows k) := by
  have hk : k ∉ keys (evenL b rows (ks.take i)) := fun z => by
    rw [even_keys] at z
    have z1 := (List.mem_filter.mp z).1
    obtain ⟨j, hj⟩ := List.mem_iff_getElem?.mp z1
    rw [List.getElem?_take] at hj
    split at hj
    · rename_i hji
      have := (List.getElem?_inj (by have := (List.getElem?_eq_some_iff.mp hj).1; exact this) nd).mp (hj.trans h.symm)
      lia
    · cases hj
  rw [put_new hk, evenL, List.take_add_one, h, List.filter_append, List.map_append]
  congr 1
  show ([k].filter _).map _ = _
  rw [List.filter_cons_of_pos (by simpa using hp)]
  rfl
theorem even_no {b i : Nat} {rows : List (List Int)} {ks : List Int} {k : Int} (h : ks[i]? = some k) (hp : ¬ 0 < prodW b rows k) : evenL b rows (ks.take (i + 1)) = evenL b rows (ks.take i) := by
  rw [evenL, evenL, List.take_add_one, h, List.filter_append, List.map_append]
  show _ ++ ([k].filter _).map _ = _
  rw [List.filter_cons_of_neg (by simpa using hp)]
  simp
end Me
namespace Me
noncomputable abbrev gv (f : List (Int × Int)) (k : Int) : Int := (look f k).getD 0
theorem look_add {k n j : Int} : ∀ {f : List (Int × Int)}, (keys f).Nodup → gv (addTo f k n) j = gv f j + if k = j then n else 0
  | [], _ => by
    by_cases e : k = j <;> simp [gv, addTo, put, look, e]
  | (a, x) :: f, nd => by
    have nd1 : a ∉ keys f := (List.nodup_cons.mp nd).1
    have nd2 : (keys f).Nodup := (List.nodup_cons.mp nd).2
    by_cases e : a = k
    · subst e
      rw [add_hit nd1]
      by_cases h : a = j
      · subst h
        rw [gv, gv, look_hit, look_hit, if_pos rfl]
        rfl
      · rw [gv, gv, look_miss h, look_miss h, if_neg h]
        lia
    · rw [add_miss e]
      by_cases h : a = j
      · subst h
        rw [gv, gv, look_hit, look_hit, if_neg (fun z => e z.symm)]
        show x = x + 0
        lia
      · have ih := look_add (k := k) (n := n) (j := j) nd2
        rw [gv, gv, look_miss h, look_miss h]
        exact ih
theorem gv_add {f : List (Int × Int)} {k n j : Int} (nd : (keys f).Nodup) (hn : 0 ≤ n) : gv f j ≤ gv (addTo f k n) j := by
  rw [look_add nd]
  split <;> lia
theorem figs_nd {p : Int × Int} {w : Int} {acc : List (Int × Int)} (nd : (keys acc).Nodup) : ∀ n : Nat, (keys (figs p w n acc)).Nodup
  | 0 => nd
  | n + 1 => by rw [figs_succ]; exact add_nd (figs_nd nd n)
theorem figs_ge {p : Int × Int} {w j : Int} {acc : List (Int × Int)} (nd : (keys acc).Nodup) (hp : 0 ≤ p.2) : ∀ n : Nat, gv acc j ≤ gv (figs p w n acc) j
  | 0 => Int.le_refl _
  | n + 1 => by
    rw [figs_succ]
    exact Int.le_trans (figs_ge nd hp n) (gv_add (figs_nd nd n) hp)
theorem figs_own {p : Int × Int} {w : Int} {acc : List (Int × Int)} (nd : (keys acc).Nodup) (hp : 0 ≤ p.2) : ∀ n : Nat, gv acc p.1 + p.2 ≤ gv (figs p w (n + 1) acc) p.1
  | 0 => by
    rw [figs_succ]
    have e : p.1 + ((0 : Nat) : Int) * w = p.1 := by simp
    rw [e, look_add (figs_nd nd 0), if_pos rfl]
    exact Int.le_refl _
  | n + 1 => by
    rw [figs_succ]
    exact Int.le_trans (figs_own nd hp n) (gv_add (figs_nd nd (n + 1)) hp)
theorem more_ge {b : Nat} {w j : Int} : ∀ {f acc : List (Int × Int)}, (keys acc).Nodup → (∀ p ∈ f, 0 ≤ p.2) → gv acc j ≤ gv (f.foldl (fun acc p => figs p w b acc) acc) j
  | [], _, _, _ => Int.le_refl _
  | p :: f, acc, nd, h => by
    rw [List.foldl_cons]
    exact Int.le_trans (figs_ge nd (h p (by simp)) b) (more_ge (figs_nd nd b) fun q hq => h q (by simp [hq]))
theorem more_own {b : Nat} {w : Int} {p : Int × Int} : ∀ {f acc : List (Int × Int)}, (keys acc).Nodup → (∀ p ∈ f, 0 ≤ p.2) → p ∈ f → gv acc p.1 + p.2 ≤ gv (f.foldl (fun acc p => figs p w (b + 1) acc) acc) p.1
  | [], _, _, _, hp => by simp at hp
  | q :: f, acc, nd, h, hp => by
    rw [List.foldl_cons]
    rcases List.mem_cons.mp hp with rfl | hp
    · exact Int.le_trans (figs_own nd (h p (by simp)) b) (more_ge (figs_nd nd (b + 1)) fun q hq => h q (by simp [hq]))
    · have h1 := figs_ge (w := w) (j := p.1) nd (h q (by simp)) (b + 1)
      have h2 := more_own (w := w) (b := b) (figs_nd (p := q) (w := w) nd (b + 1)) (fun q hq => h q (by simp [hq])) hp
      lia
theorem gv_mem {f : List (Int × Int)} {k : Int} (h : 1 ≤ gv f k) : (k, gv f k) ∈ f := by
  cases e : f.find? fun q => decide (q.1 = k) with
  | none =>
    have z : gv f k = 0 := by rw [gv, look, e]; rfl
    lia
  | some q =>
    have hq := List.mem_of_find?_eq_some e
    have hk : q.1 = k := by simpa using List.find?_some e
    have z : gv f k = q.2 := by rw [gv, look, e]; rfl
    rw [z, ← hk]
    exact hq
theorem zero_ways {b : Nat} : ∀ (ws : List Int) (f : List (Int × Int)) (t : Int), Tw f t → 1 ≤ gv f 0 → 1 ≤ gv (ws.foldl (fun f w => oneMore f (b + 1) w) f) 0
  | [], _, _, _, h => h
  | w :: ws, f, t, o, h => by
    rw [List.foldl_cons]
    refine zero_ways ws _ _ o.one ?_
    have := more_own (w := w) (b := b) (acc := []) (by simp [keys]) o.nn (gv_mem h)
    have e : gv [] 0 = 0 := rfl
    unfold oneMore
    have h2 : gv f 0 ≤ gv (f.foldl (fun acc p => figs p w (b + 1) acc) []) 0 := by
      have := this
      simp only [e] at this
      lia
    lia
theorem ways_zero {b : Nat} (hb : 1 ≤ b) (ws : List Int) : 1 ≤ gv (waysW b ws) 0 := by
  obtain ⟨c, rfl⟩ : ∃ c, b = c + 1 := ⟨b - 1, by lia⟩
  exact zero_ways ws [(0, 1)] 1 ⟨by simp [keys], fun p hp => by
    have : p = (0, 1) := by simpa using hp
    rw [this]; decide, rfl⟩ (by decide)
theorem prod_pos {b : Nat} (hb : 1 ≤ b) : ∀ (rows : List (List Int)) (m : Int), 0 < m → 0 < rows.foldl (fun m row => m * (look (waysW b row) 0).getD 0) m
  | [], _, h => h
  | row :: rows, m, h => by
    rw [List.foldl_cons]
    exact prod_pos hb rows _ (Int.mul_pos h (ways_zero hb row))
theorem prodW_pos {b : Nat} (hb : 1 ≤ b) (rows : List (List Int)) : 0 < prodW b rows 0 := prod_pos hb rows 1 (by decide)
theorem ways_gv (b : Nat) (row : List Int) (t : Int) : 0 ≤ (look (waysW b row) t).getD 0 := by
  have o := ways_tw b row
  cases e : (waysW b row).find? fun q => decide (q.1 = t) with
  | none => rw [look, e]; exact Int.le_refl _
  | some q => rw [look, e]; exact o.nn q (List.mem_of_find?_eq_some e)
theorem prod_nn {b : Nat} {t : Int} : ∀ (rows : List (List Int)) (m : Int), 0 ≤ m → 0 ≤ rows.foldl (fun m row => m * (look (waysW b row) t).getD 0) m
  | [], _, h => h
  | row :: rows, m, h => by
    rw [List.foldl_cons]
    exact prod_nn rows _ (Int.mul_nonneg h (ways_gv b row t))
theorem prod_zero {b : Nat} {t : Int} : ∀ (rows : List (List Int)), rows.foldl (fun m row => m * (look (waysW b row) t).getD 0) 0 = 0
  | [] => rfl
  | row :: rows => by
    rw [List.foldl_cons, Int.zero_mul]
    exact prod_zero rows
theorem look_none {f : List (Int × Int)} {t : Int} (h : t ∉ keys f) : look f t = none := by
  cases e : f.find? fun q => decide (q.1 = t) with
  | none => rw [look, e]; rfl
  | some q =>
    exfalso
    exact h (List.mem_map.mpr ⟨q, List.mem_of_find?_eq_some e, by simpa using List.find?_some e⟩)
theorem prodW_off {b : Nat} {rows : List (List Int)} {row : List Int} {t : Int} (h : rows[0]? = some row) (ht : t ∉ keys (waysW b row)) : prodW b rows t = 0 := by
  cases rows with
  | nil => cases h
  | cons r rows =>
    have e : r = row := Option.some.inj h
    subst e
    unfold prodW
    rw [List.foldl_cons, look_none ht]
    exact prod_zero rows
theorem even_look {b : Nat} {rows : List (List Int)} {row : List Int} (h : rows[0]? = some row) (nd : (keys (waysW b row)).Nodup) (t : Int) : (look (evenL b rows (keys (waysW b row))) t).getD 0 = prodW b rows t := by
  by_cases ht : t ∈ keys (evenL b rows (keys (waysW b row)))
  · obtain ⟨p, hp, e⟩ := List.mem_map.mp ht
    have e1 := look_mem (even_nd nd) hp
    rw [← e, e1]
    obtain ⟨k, _, hk⟩ := List.mem_map.mp hp
    rw [← hk]
    rfl
  · rw [look_none ht]
    rw [even_keys, List.mem_filter] at ht
    show 0 = _
    by_cases h1 : t ∈ keys (waysW b row)
    · have h2 : ¬ 0 < prodW b rows t := fun z => ht ⟨h1, decide_eq_true z⟩
      have h3 : 0 ≤ prodW b rows t := prod_nn rows 1 (by decide)
      lia
    · exact (prodW_off h h1).symm
theorem even_zero {b : Nat} {rows : List (List Int)} {row : List Int} (hb : 1 ≤ b) : 0 ∈ keys (evenL b rows (keys (waysW b row))) := by
  rw [even_keys, List.mem_filter]
  exact ⟨List.mem_map.mpr ⟨_, gv_mem (ways_zero hb row), rfl⟩, decide_eq_true (prodW_pos hb rows)⟩
theorem sum_perm {l m : List Int} (h : l.Perm m) : l.sum = m.sum := by
  induction h with
  | nil => rfl
  | cons x _ ih => rw [List.sum_cons, List.sum_cons, ih]
  | swap x y l => simp only [List.sum_cons]; lia
  | trans _ _ a b => exact a.trans b
theorem tot_perm {f g : List (Int × Int)} (h : f.Perm g) : tot f = tot g := sum_perm (h.map _)
end Me
namespace Mq
noncomputable def sm (f : Int → Int) (a : Int) : Nat → Int
  | 0 => 0
  | n + 1 => sm f a n + f (a + n)
theorem sm_add (f : Int → Int) (a : Int) (n : Nat) : ∀ m : Nat, sm f a (n + m) = sm f a n + sm f (a + n) m
  | 0 => by simp [sm]
  | m + 1 => by
    rw [← Nat.add_assoc, sm, sm, sm_add f a n m]
    have e : a + ((n + m : Nat) : Int) = a + n + m := by push_cast; lia
    rw [e]
    lia
theorem sm_zero {f : Int → Int} {a : Int} : ∀ {n : Nat}, (∀ t, a ≤ t → t < a + n → f t = 0) → sm f a n = 0
  | 0, _ => rfl
  | n + 1, h => by
    rw [sm, sm_zero (n := n) fun t h1 h2 => h t h1 (by push_cast; lia), h (a + n) (by lia) (by push_cast; lia)]
    rfl
theorem sm_congr {f g : Int → Int} {a : Int} : ∀ {n : Nat}, (∀ t, a ≤ t → t < a + n → f t = g t) → sm f a n = sm g a n
  | 0, _ => rfl
  | n + 1, h => by
    rw [sm, sm, sm_congr (n := n) fun t h1 h2 => h t h1 (by push_cast; lia), h (a + n) (by lia) (by push_cast; lia)]
theorem sm_end {f : Int → Int} {a h : Int} {n m : Nat} (hf : ∀ t, h < t → f t = 0) (hn : h < a + n) (hm : h < a + m) : sm f a n = sm f a m := by
  have key : ∀ {n m : Nat}, n ≤ m → h < a + n → sm f a n = sm f a m := fun {n m} hle hn => by
    obtain ⟨k, rfl⟩ := Nat.exists_eq_add_of_le hle
    rw [sm_add, sm_zero (f := f) (a := a + n) (n := k) fun t h1 _ => hf t (by lia)]
    lia
  rcases Nat.le_total n m with z | z
  · exact key z hn
  · exact (key z hm).symm
theorem sm_part {g : Int → Int} {a b : Int} {n m : Nat} (h1 : a ≤ b) (h2 : b + m ≤ a + n) (z1 : ∀ t, a ≤ t → t < b → g t = 0) (z2 : ∀ t, b + m ≤ t → t < a + n → g t = 0) : sm g a n = sm g b m := by
  obtain ⟨k, rfl⟩ : ∃ k : Nat, b = a + k := ⟨(b - a).toNat, by lia⟩
  obtain ⟨r, rfl⟩ : ∃ r : Nat, n = k + (m + r) := ⟨n - k - m, by lia⟩
  rw [sm_add, sm_add, sm_zero (f := g) (a := a) (n := k) fun t h1 h2 => z1 t h1 h2, sm_zero (f := g) (a := a + k + m) (n := r) fun t h1 h2 => z2 t (by lia) (by push_cast; lia)]
  lia
noncomputable def pr (fs : List (Int → Int)) (a : Int) (n : Nat) : Int := fs.foldl (fun m f => m * sm f a n) 1
theorem fold_zero {fs : List (Int → Int)} {a : Int} {n : Nat} : fs.foldl (fun m f => m * sm f a n) 0 = 0 := by
  induction fs with
  | nil => rfl
  | cons f r ih => simpa using ih
theorem pr_zero {fs : List (Int → Int)} {a : Int} {n : Nat} {f : Int → Int} (hf : f ∈ fs) (h : sm f a n = 0) : pr fs a n = 0 := by
  have key : ∀ (fs : List (Int → Int)) (c : Int), f ∈ fs → fs.foldl (fun m f => m * sm f a n) c = 0 := fun fs => by
    induction fs with
    | nil => intro c h; simp at h
    | cons q r ih =>
      intro c hq
      rcases List.mem_cons.mp hq with rfl | hq
      · rw [List.foldl_cons, h, Int.mul_zero]; exact fold_zero
      · rw [List.foldl_cons]; exact ih _ hq
  exact key fs 1 hf
theorem pr_congr {fs : List (Int → Int)} {a b : Int} {n m : Nat} (h : ∀ f ∈ fs, sm f a n = sm f b m) : pr fs a n = pr fs b m := by
  have key : ∀ (fs : List (Int → Int)) (c : Int), (∀ f ∈ fs, sm f a n = sm f b m) → fs.foldl (fun m f => m * sm f a n) c = fs.foldl (fun q f => q * sm f b m) c := fun fs => by
    induction fs with
    | nil => intro c _; rfl
    | cons q r ih =>
      intro c hq
      rw [List.foldl_cons, List.foldl_cons, hq q (by simp)]
      exact ih _ fun f hf => hq f (by simp [hf])
  exact key fs 1 h
noncomputable def gat (fs : List (Int → Int)) (d : Nat) (t : Int) : Int := pr fs t (d + 1) - pr fs (t + 1) d
theorem gat_cut {fs : List (Int → Int)} {d r : Nat} {t low high : Int} (hs : ∀ f ∈ fs, ∀ u, high < u → f u = 0) (ht : low ≤ t) (hr : (r : Int) = d ∨ (high - low ≤ r ∧ high - low ≤ d)) : gat fs d t = gat fs r t := by
  rcases hr with hr | ⟨h1, h2⟩
  · rw [show d = r by lia]
  · unfold gat
    rw [pr_congr (fs := fs) (a := t) (b := t) (n := d + 1) (m := r + 1) fun f hf => sm_end (h := high) (hs f hf) (by push_cast; lia) (by push_cast; lia),
      pr_congr (fs := fs) (a := t + 1) (b := t + 1) (n := d) (m := r) fun f hf => sm_end (h := high) (hs f hf) (by push_cast; lia) (by push_cast; lia)]
theorem gat_up {fs : List (Int → Int)} {d : Nat} {t last : Int} {f : Int → Int} (hf : f ∈ fs) (h : ∀ u, last < u → f u = 0) (ht : last < t) : gat fs d t = 0 := by
  unfold gat
  rw [pr_zero hf (sm_zero fun u h1 _ => h u (by lia)), pr_zero hf (sm_zero fun u h1 _ => h u (by lia))]
  rfl
theorem gat_dn {fs : List (Int → Int)} {d : Nat} {t l : Int} {f : Int → Int} (hf : f ∈ fs) (h : ∀ u, u < l → f u = 0) (ht : t + d < l) : gat fs d t = 0 := by
  unfold gat
  rw [pr_zero hf (sm_zero fun u _ h2 => h u (by push_cast at h2; lia)), pr_zero hf (sm_zero fun u _ h2 => h u (by push_cast at h2; lia))]
  rfl
theorem near_eq {fs : List (Int → Int)} {d : Nat} {low high maxl ming : Int} {fl fg : Int → Int} (hs : ∀ f ∈ fs, ∀ u, high < u → f u = 0) (hl : fl ∈ fs) (hl' : ∀ u, u < maxl → fl u = 0) (hg : fg ∈ fs) (hg' : ∀ u, ming < u → fg u = 0)
    (o1 : low ≤ maxl) (o2 : ming ≤ high) (o3 : low ≤ high) (o4 : low ≤ ming) (o5 : maxl ≤ high) {r : Nat} (hr : (r : Int) = if high - low < d then high - low else d) {first : Int} (hfirst : first = if maxl - r > low then maxl - r else low) :
    sm (gat fs d) low (high - low + 1).toNat = sm (gat fs r) first (ming - first + 1).toNat := by
  have hr2 : (r : Int) = d ∨ (high - low ≤ r ∧ high - low ≤ d) := by split at hr <;> lia
  have e : sm (gat fs d) low (high - low + 1).toNat = sm (gat fs r) low (high - low + 1).toNat := sm_congr fun t h1 _ => gat_cut hs h1 hr2
  rw [e]
  have up : ∀ t, ming < t → gat fs r t = 0 := fun t h => gat_up hg hg' h
  have dn : ∀ t, t + r < maxl → gat fs r t = 0 := fun t h => gat_dn hl hl' h
  have f1 : low ≤ first := by rw [hfirst]; split <;> lia
  have f2 : ∀ t, low ≤ t → t < first → t + r < maxl := fun t a b => by rw [hfirst] at b; split at b <;> lia
  by_cases hc : first ≤ ming + 1
  · exact sm_part f1 (by lia) (fun t a b => dn t (f2 t a b)) fun t a b => up t (by lia)
  · rw [sm_zero (f := gat fs r) (a := low) fun t a b => ?_, sm_zero (f := gat fs r) (a := first) fun t a b => up t (by lia)]
    by_cases q : t < first
    · exact dn t (f2 t a q)
    · exact up t (by lia)
end Mq
namespace Me
noncomputable def fw (b : Nat) (row : List Int) : Int → Int := fun t => gv (waysW b row) t
noncomputable def fws (b : Nat) (rows : List (List Int)) : List (Int → Int) := rows.map (fw b)
noncomputable def loW (b : Nat) (row : List Int) : Int := Ma.minL (keys (waysW b row))
noncomputable def hiW (b : Nat) (row : List Int) : Int := Ma.maxL (keys (waysW b row))
noncomputable def los (b : Nat) (rows : List (List Int)) : List Int := rows.map (loW b)
noncomputable def his (b : Nat) (rows : List (List Int)) : List Int := rows.map (hiW b)
noncomputable def nearV (b : Nat) (rows : List (List Int)) (d : Nat) : Int := Mq.sm (Mq.gat (fws b rows) d) (Ma.minL (los b rows)) (Ma.maxL (his b rows) - Ma.minL (los b rows) + 1).toNat
theorem keys_ne {b : Nat} (hb : 1 ≤ b) (row : List Int) : 0 < (keys (waysW b row)).length := by
  have h := gv_mem (ways_zero hb row)
  have : (0 : Int) ∈ keys (waysW b row) := List.mem_map.mpr ⟨_, h, rfl⟩
  exact List.length_pos_of_mem this
theorem zero_key {b : Nat} (hb : 1 ≤ b) (row : List Int) : (0 : Int) ∈ keys (waysW b row) := List.mem_map.mpr ⟨_, gv_mem (ways_zero hb row), rfl⟩
theorem lo_le {b : Nat} (hb : 1 ≤ b) (row : List Int) : loW b row ≤ 0 := (Ma.minL_spec _ (keys_ne hb row)).2 0 (zero_key hb row)
theorem hi_ge {b : Nat} (hb : 1 ≤ b) (row : List Int) : 0 ≤ hiW b row := (Ma.maxL_spec _ (keys_ne hb row)).2 0 (zero_key hb row)
theorem fw_dn {b : Nat} (hb : 1 ≤ b) {row : List Int} {t : Int} (h : t < loW b row) : fw b row t = 0 := by
  have n : t ∉ keys (waysW b row) := fun z => by
    have := (Ma.minL_spec _ (keys_ne hb row)).2 t z
    unfold loW at h
    lia
  unfold fw gv
  rw [look_none n]
  rfl
theorem fw_up {b : Nat} (hb : 1 ≤ b) {row : List Int} {t : Int} (h : hiW b row < t) : fw b row t = 0 := by
  have n : t ∉ keys (waysW b row) := fun z => by
    have := (Ma.maxL_spec _ (keys_ne hb row)).2 t z
    unfold hiW at h
    lia
  unfold fw gv
  rw [look_none n]
  rfl
theorem lo_bd {b : Nat} (hb1 : 1 ≤ b) (hb : b ≤ 16) {row : List Int} (hw : ∀ w ∈ row, -9 ≤ w ∧ w ≤ 9) (hl : row.length ≤ 6) : -810 ≤ loW b row ∧ hiW b row ≤ 810 := by
  have ok := ways_ok' (b := b) hw hb
  have h1 := ok.bd _ (Ma.minL_spec _ (keys_ne hb1 row)).1
  have h2 := ok.bd _ (Ma.maxL_spec _ (keys_ne hb1 row)).1
  unfold loW hiW
  lia
theorem sm_bd {f : Int → Int} (h : ∀ t, 0 ≤ f t ∧ f t ≤ 16777216) (a : Int) : ∀ n : Nat, 0 ≤ Mq.sm f a n ∧ Mq.sm f a n ≤ 16777216 * n
  | 0 => ⟨Int.le_refl _, Int.le_refl _⟩
  | n + 1 => by
    have ih := sm_bd h a n
    have := h (a + n)
    simp only [Mq.sm]
    push_cast
    lia
theorem bounds {b : Nat} {rows : List (List Int)} (hb1 : 1 ≤ b) (hb : b ≤ 16) (hne : 0 < rows.length) (hrs : ∀ row ∈ rows, (∀ x ∈ row, -9 ≤ x ∧ x ≤ 9) ∧ row.length ≤ 6) :
    -810 ≤ Ma.minL (los b rows) ∧ Ma.minL (los b rows) ≤ Ma.maxL (los b rows) ∧ Ma.maxL (los b rows) ≤ 0 ∧ 0 ≤ Ma.minL (his b rows) ∧ Ma.minL (his b rows) ≤ Ma.maxL (his b rows) ∧ Ma.maxL (his b rows) ≤ 810 := by
  have nl : 0 < (los b rows).length := by rw [los, List.length_map]; exact hne
  have nh : 0 < (his b rows).length := by rw [his, List.length_map]; exact hne
  obtain ⟨m1, m2⟩ := Ma.minL_spec _ nl
  obtain ⟨m3, m4⟩ := Ma.maxL_spec _ nl
  obtain ⟨m5, m6⟩ := Ma.minL_spec _ nh
  obtain ⟨m7, m8⟩ := Ma.maxL_spec _ nh
  obtain ⟨rl, hrl, erl⟩ := List.mem_map.mp m3
  obtain ⟨rg, hrg, erg⟩ := List.mem_map.mp m5
  obtain ⟨r1, hr1, er1⟩ := List.mem_map.mp m1
  obtain ⟨r7, hr7, er7⟩ := List.mem_map.mp m7
  have a1 := lo_le hb1 rl
  have a2 := hi_ge hb1 rg
  have a3 := (lo_bd hb1 hb (hrs r1 hr1).1 (hrs r1 hr1).2).1
  have a4 := (lo_bd hb1 hb (hrs r7 hr7).1 (hrs r7 hr7).2).2
  exact ⟨by lia, m2 _ m3, by lia, by lia, m6 _ m7, by lia⟩
theorem near_prog {b : Nat} {rows : List (List Int)} (hb : 1 ≤ b) (hne : 0 < rows.length) {d r : Nat} {first : Int} (hr : (r : Int) = if Ma.maxL (his b rows) - Ma.minL (los b rows) < d then Ma.maxL (his b rows) - Ma.minL (los b rows) else d)
    (hf : first = if Ma.maxL (los b rows) - r > Ma.minL (los b rows) then Ma.maxL (los b rows) - r else Ma.minL (los b rows)) :
    Mq.sm (Mq.gat (fws b rows) r) first (Ma.minL (his b rows) - first + 1).toNat = nearV b rows d := by
  have nl : 0 < (los b rows).length := by rw [los, List.length_map]; exact hne
  have nh : 0 < (his b rows).length := by rw [his, List.length_map]; exact hne
  obtain ⟨m1, m2⟩ := Ma.minL_spec _ nl
  obtain ⟨m3, m4⟩ := Ma.maxL_spec _ nl
  obtain ⟨m5, m6⟩ := Ma.minL_spec _ nh
  obtain ⟨m7, m8⟩ := Ma.maxL_spec _ nh
  obtain ⟨rl, hrl, erl⟩ := List.mem_map.mp m3
  obtain ⟨rg, hrg, erg⟩ := List.mem_map.mp m5
  obtain ⟨r1, hr1, er1⟩ := List.mem_map.mp m1
  obtain ⟨r7, hr7, er7⟩ := List.mem_map.mp m7
  have a1 := lo_le hb rl
  have a2 := hi_ge hb rg
  have a3 := lo_le hb r1
  have a4 := hi_ge hb r7
  unfold nearV
  exact (Mq.near_eq (fs := fws b rows) (fl := fw b rl) (fg := fw b rg) (fun f hf u hu => by
      obtain ⟨row, hrow, rfl⟩ := List.mem_map.mp hf
      exact fw_up hb (by have := m8 _ (List.mem_map.mpr ⟨row, hrow, rfl⟩); lia))
    (List.mem_map.mpr ⟨rl, hrl, rfl⟩) (fun u hu => fw_dn hb (by lia)) (List.mem_map.mpr ⟨rg, hrg, rfl⟩) (fun u hu => fw_up hb (by lia)) (m2 _ m3) (m8 _ m5) (by lia) (by lia) (by lia) hr hf).symm
end Me
namespace Mq
end Mq
namespace Me
open Mq
theorem keys_in_lh {b : Nat} (hb : 1 ≤ b) {rows : List (List Int)} {row : List Int} (hr : row ∈ rows) : ∀ k ∈ keys (waysW b row), Ma.minL (los b rows) ≤ k ∧ k ≤ Ma.maxL (his b rows) := fun k hk => by
  have h1 := (Ma.minL_spec _ (keys_ne hb row)).2 k hk
  have h2 := (Ma.maxL_spec _ (keys_ne hb row)).2 k hk
  have nl : 0 < (los b rows).length := by rw [los, List.length_map]; exact List.length_pos_of_mem hr
  have nh : 0 < (his b rows).length := by rw [his, List.length_map]; exact List.length_pos_of_mem hr
  have h3 := (Ma.minL_spec _ nl).2 (loW b row) (List.mem_map.mpr ⟨row, hr, rfl⟩)
  have h4 := (Ma.maxL_spec _ nh).2 (hiW b row) (List.mem_map.mpr ⟨row, hr, rfl⟩)
  unfold loW at h3
  unfold hiW at h4
  lia
theorem cuts_lens (ps : List Nat) : ∀ ws : List Int, ws.length = ps.sum → (Ma.cuts ps ws).map List.length = ps := by
  induction ps with
  | nil => intro ws _; rfl
  | cons p ps ih =>
    intro ws h
    rw [List.sum_cons] at h
    rw [Ma.cuts, List.map_cons, ih (ws.drop p) (by rw [List.length_drop]; lia), List.length_take]
    congr 1
    lia
end Me
namespace Ma
noncomputable def num (b : Nat) (ds : List Nat) : Nat := ds.foldl (fun x d => x * b + d) 0
noncomputable def behind (b n L : Nat) : Nat := num b (dws b n L L).reverse
end Ma
namespace Mg
open Me Mq
noncomputable def ns (g : Nat → Int) : Nat → Int
  | 0 => 0
  | n + 1 => ns g n + g n
theorem ns_congr {g h : Nat → Int} : ∀ {n : Nat}, (∀ i, i < n → g i = h i) → ns g n = ns h n
  | 0, _ => rfl
  | n + 1, e => by rw [ns, ns, ns_congr (n := n) fun i hi => e i (by omega), e n (by omega)]
theorem ns_add (g : Nat → Int) (n : Nat) : ∀ m : Nat, ns g (n + m) = ns g n + ns (fun i => g (n + i)) m
  | 0 => by simp [ns]
  | m + 1 => by
    rw [← Nat.add_assoc, ns, ns, ns_add g n m]
    omega
theorem ns_sub (g h : Nat → Int) : ∀ n : Nat, ns (fun i => g i - h i) n = ns g n - ns h n
  | 0 => rfl
  | n + 1 => by simp only [ns]; rw [ns_sub g h n]; omega
theorem ns_two (g : Nat → Int) (b : Nat) : ∀ a : Nat, ns g (a * b) = ns (fun i => ns (fun j => g (i * b + j)) b) a
  | 0 => by simp [ns]
  | a + 1 => by
    rw [Nat.succ_mul, ns_add, ns, ns_two g b a]
noncomputable def tg (f : List (Int × Int)) (G : Int → Int) : Int := (f.map fun q => q.2 * G q.1).sum
theorem tg_cons (p : Int × Int) (f : List (Int × Int)) (G : Int → Int) : tg (p :: f) G = p.2 * G p.1 + tg f G := by simp [tg]
theorem tg_add {k n : Int} {G : Int → Int} : ∀ {f : List (Int × Int)}, (keys f).Nodup → tg (addTo f k n) G = tg f G + n * G k
  | [], _ => by simp [addTo, put, look, tg]
  | (a, x) :: f, nd => by
    have nd1 : a ∉ keys f := (List.nodup_cons.mp nd).1
    have nd2 : (keys f).Nodup := (List.nodup_cons.mp nd).2
    by_cases e : a = k
    · subst e
      rw [add_hit nd1, tg_cons, tg_cons]
      simp only
      rw [Int.add_mul]
      omega
    · rw [add_miss e, tg_cons, tg_cons, tg_add (k := k) (n := n) nd2]
      omega
theorem tg_figs {p : Int × Int} {w : Int} {G : Int → Int} {acc : List (Int × Int)} (nd : (keys acc).Nodup) : ∀ n : Nat, tg (figs p w n acc) G = tg acc G + p.2 * ns (fun (d : Nat) => G (p.1 + (d : Int) * w)) n
  | 0 => by simp [ns, figs]
  | n + 1 => by
    rw [figs_succ, tg_add (figs_nd nd n), tg_figs nd n, ns, Int.mul_add]
    omega
theorem tg_more {b : Nat} {w : Int} {G : Int → Int} : ∀ (f acc : List (Int × Int)), (keys acc).Nodup → tg (f.foldl (fun acc p => figs p w b acc) acc) G = tg acc G + tg f fun x => ns (fun (d : Nat) => G (x + (d : Int) * w)) b
  | [], acc, _ => by simp [tg]
  | p :: f, acc, nd => by
    rw [List.foldl_cons, tg_more f _ (figs_nd nd b), tg_figs nd b, tg_cons]
    omega
theorem tg_one {b : Nat} {w : Int} {G : Int → Int} (f : List (Int × Int)) : tg (oneMore f b w) G = tg f fun x => ns (fun (d : Nat) => G (x + (d : Int) * w)) b := by
  have := tg_more (b := b) (w := w) (G := G) f [] (by simp [keys])
  have e : tg [] G = 0 := rfl
  rw [e, Int.zero_add] at this
  exact this
noncomputable def ws1 (b d : Nat) (row : List Int) : Int := (Ma.wts b d row.length row).sum
theorem dws_up (b d e L : Nat) (he : e < b) : Ma.dws b (d * b + e) (L + 1) (L + 1) = Ma.dws b d L L ++ [e] := by
  rw [Ma.dws_succ]
  congr 1
  · unfold Ma.dws
    apply List.map_congr_left
    intro j hj
    have hj' := List.mem_range.mp hj
    have e1 : L + 1 - 1 - j = (L - 1 - j) + 1 := by omega
    rw [e1, Nat.pow_succ', ← Nat.div_div_eq_div_mul]
    have e2 : (d * b + e) / b = d := by
      rw [Nat.mul_comm d b, Nat.mul_add_div (by omega), Nat.div_eq_of_lt he, Nat.add_zero]
    rw [e2]
  · have e1 : L + 1 - 1 - L = 0 := by omega
    rw [e1, Nat.pow_zero, Nat.div_one, Nat.mul_comm d b, Nat.mul_add_mod, Nat.mod_eq_of_lt he]
theorem ws1_up (b d e : Nat) (row : List Int) (w : Int) (he : e < b) : ws1 b (d * b + e) (row ++ [w]) = ws1 b d row + e * w := by
  unfold ws1 Ma.wts
  rw [List.length_append, List.length_singleton, dws_up b d e row.length he, List.zipWith_append (by rw [Ma.dws_len]), List.sum_append]
  simp
theorem ways_all (b : Nat) (G : Int → Int) (row : List Int) : ns (fun d => G (ws1 b d row)) (b ^ row.length) = tg (waysW b row) G := by
  have key : ∀ (n : Nat) (row : List Int), row.length = n → ∀ G : Int → Int, ns (fun d => G (ws1 b d row)) (b ^ row.length) = tg (waysW b row) G := fun n => by
    induction n with
    | zero =>
      intro row h G
      have : row = [] := List.eq_nil_of_length_eq_zero h
      subst this
      simp [ns, tg, waysW, ws1, Ma.wts]
    | succ n ih =>
      intro row h G
      obtain ⟨r, w, rfl⟩ : ∃ r w, row = r ++ [w] := by
        refine ⟨row.dropLast, row.getLast (by intro z; rw [z] at h; simp at h), ?_⟩
        exact (List.dropLast_concat_getLast _).symm
      have hr : r.length = n := by simpa using h
      have e1 : waysW b (r ++ [w]) = oneMore (waysW b r) b w := by
        unfold waysW
        rw [List.foldl_append]
        rfl
      rw [e1, tg_one, ← ih r hr, List.length_append, List.length_singleton, Nat.pow_succ, ns_two]
      apply ns_congr
      intro d _
      apply ns_congr
      intro e he
      rw [ws1_up b d e r w he]
  exact key row.length row rfl G
theorem dws_parts (b d m p L : Nat) (hb : 0 < b) (hm : m < b ^ L) : Ma.dws b (d * b ^ L + m) (p + L) (p + L) = Ma.dws b d p p ++ Ma.dws b m L L := by
  have gen : ∀ i, i ≤ L → Ma.dws b (d * b ^ L + m) (p + L) (p + i) = Ma.dws b d p p ++ Ma.dws b m L i := fun i => by
    induction i with
    | zero =>
      intro _
      unfold Ma.dws
      simp only [Nat.add_zero, List.range_zero, List.map_nil, List.append_nil]
      apply List.map_congr_left
      intro j hj
      have hj' := List.mem_range.mp hj
      have e1 : p + L - 1 - j = (p - 1 - j) + L := by omega
      rw [e1, Nat.pow_add, Nat.mul_comm (b ^ (p - 1 - j)), ← Nat.div_div_eq_div_mul]
      have e2 : (d * b ^ L + m) / b ^ L = d := by
        rw [Nat.mul_comm d, Nat.mul_add_div (Nat.pow_pos hb), Nat.div_eq_of_lt hm, Nat.add_zero]
      rw [e2]
    | succ i ih =>
      intro hi
      rw [← Nat.add_assoc, Ma.dws_succ, Ma.dws_succ, ih (by omega), List.append_assoc]
      congr 3
      have e1 : p + L - 1 - (p + i) = L - 1 - i := by omega
      rw [e1]
      have e3 : b ^ L = b ^ (L - 1 - i) * b * b ^ i := by
        rw [← Nat.pow_succ, ← Nat.pow_add]
        congr 1
        omega
      have e4 : d * b ^ L + m = b ^ (L - 1 - i) * (d * b ^ i * b) + m := by
        rw [e3]
        congr 1
        rw [Nat.mul_assoc (b ^ (L - 1 - i)), ← Nat.mul_assoc d, Nat.mul_comm d, Nat.mul_assoc (b ^ (L - 1 - i))]
        congr 1
        rw [Nat.mul_comm b, ← Nat.mul_assoc]
      rw [e4, Nat.mul_add_div (Nat.pow_pos hb), Nat.add_comm, Nat.add_mul_mod_self_right]
  exact gen L (Nat.le_refl _)
noncomputable abbrev sumsN (b n : Nat) (ps : List Nat) (ws : List Int) : List Int := Ma.psums ps (Ma.wts b n ps.sum ws)
theorem sums_cons {b d m p : Nat} {ps : List Nat} {ws : List Int} (hb : 0 < b) (hm : m < b ^ ps.sum) (hw : ws.length = p + ps.sum) : sumsN b (d * b ^ ps.sum + m) (p :: ps) ws = ws1 b d (ws.take p) :: sumsN b m ps (ws.drop p) := by
  have hl : (ws.take p).length = p := by rw [List.length_take]; omega
  have e : Ma.wts b (d * b ^ ps.sum + m) (p :: ps).sum ws = Ma.wts b d p (ws.take p) ++ Ma.wts b m ps.sum (ws.drop p) := by
    unfold Ma.wts
    rw [List.sum_cons, dws_parts b d m p ps.sum hb hm]
    conv => lhs; rw [← List.take_append_drop p ws]
    rw [List.zipWith_append (by rw [Ma.dws_len, hl])]
  show Ma.psums (p :: ps) (Ma.wts b (d * b ^ ps.sum + m) (p :: ps).sum ws) = _
  rw [e]
  have l1 : (Ma.wts b d p (ws.take p)).length = p := Ma.wts_len _ _ _ _ hl
  unfold Ma.psums
  rw [Ma.cuts, List.map_cons]
  congr 1
  · rw [List.take_left' l1]
    unfold ws1
    rw [hl]
  · rw [List.drop_left' l1]
    rfl
noncomputable def tr (b : Nat) : List (List Int) → (List Int → Int) → Int
  | [], F => F []
  | row :: rows, F => tg (waysW b row) fun x => tr b rows fun v => F (x :: v)
theorem all_tr {b : Nat} (hb : 0 < b) : ∀ (ps : List Nat) (ws : List Int) (F : List Int → Int), ws.length = ps.sum → ns (fun n => F (sumsN b n ps ws)) (b ^ ps.sum) = tr b (Ma.cuts ps ws) F
  | [], ws, F, _ => by
    show ns _ (b ^ 0) = F []
    rw [Nat.pow_zero]
    simp only [ns, Int.zero_add]
    rfl
  | p :: ps, ws, F, h => by
    rw [List.sum_cons] at h
    have hl : (ws.take p).length = p := by rw [List.length_take]; omega
    rw [List.sum_cons, Nat.pow_add, ns_two, Ma.cuts, tr, ← ways_all, hl]
    apply ns_congr
    intro d _
    rw [← all_tr hb ps (ws.drop p) _ (by rw [List.length_drop]; omega)]
    apply ns_congr
    intro m hm
    rw [sums_cons hb hm h]
theorem tg_congr {f : List (Int × Int)} {G H : Int → Int} (h : ∀ x, G x = H x) : tg f G = tg f H := by
  unfold tg
  congr 1
  exact List.map_congr_left fun p _ => by rw [h]
theorem tr_congr {b : Nat} : ∀ {rows : List (List Int)} {F G : List Int → Int}, (∀ v, v.length = rows.length → F v = G v) → tr b rows F = tr b rows G
  | [], _, _, h => h [] rfl
  | _ :: rows, _, _, h => tg_congr fun x => tr_congr fun v hv => h (x :: v) (by simp [hv])
theorem tg_mul (c : Int) (f : List (Int × Int)) (G : Int → Int) : tg f (fun x => c * G x) = c * tg f G := by
  induction f with
  | nil => simp [tg]
  | cons p f ih => rw [tg_cons, tg_cons, ih, Int.mul_add, ← Int.mul_assoc, ← Int.mul_assoc, Int.mul_comm p.2 c]
theorem tg_sub (f : List (Int × Int)) (G H : Int → Int) : tg f (fun x => G x - H x) = tg f G - tg f H := by
  induction f with
  | nil => simp [tg]
  | cons p f ih => rw [tg_cons, tg_cons, tg_cons, ih, Int.mul_sub]; omega
theorem tg_plus (f : List (Int × Int)) (G H : Int → Int) : tg f (fun x => G x + H x) = tg f G + tg f H := by
  induction f with
  | nil => simp [tg]
  | cons p f ih => rw [tg_cons, tg_cons, tg_cons, ih, Int.mul_add]; omega
theorem tr_mul {b : Nat} (c : Int) : ∀ (rows : List (List Int)) (F : List Int → Int), tr b rows (fun v => c * F v) = c * tr b rows F
  | [], _ => rfl
  | row :: rows, F => by
    show tg _ _ = c * tg _ _
    rw [← tg_mul]
    exact tg_congr fun x => tr_mul c rows _
theorem tr_sub {b : Nat} : ∀ (rows : List (List Int)) (F G : List Int → Int), tr b rows (fun v => F v - G v) = tr b rows F - tr b rows G
  | [], _, _ => rfl
  | row :: rows, F, G => by
    show tg _ _ = tg _ _ - tg _ _
    rw [← tg_sub]
    exact tg_congr fun x => tr_sub rows _ _
theorem tr_plus {b : Nat} : ∀ (rows : List (List Int)) (F G : List Int → Int), tr b rows (fun v => F v + G v) = tr b rows F + tr b rows G
  | [], _, _ => rfl
  | row :: rows, F, G => by
    show tg _ _ = tg _ _ + tg _ _
    rw [← tg_plus]
    exact tg_congr fun x => tr_plus rows _ _
theorem tr_zero {b : Nat} (rows : List (List Int)) : tr b rows (fun _ => 0) = 0 := by
  have := tr_mul (b := b) 0 rows fun _ => 0
  simp only [Int.zero_mul] at this
  exact this
theorem tr_sm {b : Nat} (rows : List (List Int)) (F : Int → List Int → Int) (a : Int) : ∀ n : Nat, tr b rows (fun v => sm (fun t => F t v) a n) = sm (fun t => tr b rows (F t)) a n
  | 0 => tr_zero rows
  | n + 1 => by
    simp only [sm]
    rw [tr_plus, tr_sm rows F a n]
noncomputable def fp (h : Int → Int) (v : List Int) : Int := v.foldl (fun m x => m * h x) 1
theorem fold_out (h : Int → Int) : ∀ (v : List Int) (c : Int), v.foldl (fun m x => m * h x) c = c * v.foldl (fun m x => m * h x) 1
  | [], c => by simp
  | x :: v, c => by
    rw [List.foldl_cons, List.foldl_cons, fold_out h v (c * h x), fold_out h v (1 * h x), Int.one_mul, Int.mul_assoc]
theorem tr_prod {b : Nat} (h : Int → Int) : ∀ rows : List (List Int), tr b rows (fp h) = rows.foldl (fun m row => m * tg (waysW b row) h) 1
  | [] => rfl
  | row :: rows => by
    have e : ∀ (rs : List (List Int)) (c : Int), rs.foldl (fun m row => m * tg (waysW b row) h) c = c * rs.foldl (fun m row => m * tg (waysW b row) h) 1 := fun rs => by
      induction rs with
      | nil => intro c; simp
      | cons r rs ih => intro c; rw [List.foldl_cons, List.foldl_cons, ih (c * _), ih (1 * _), Int.one_mul, Int.mul_assoc]
    rw [List.foldl_cons, e rows, Int.one_mul, ← tr_prod h rows]
    show tg (waysW b row) (fun x => tr b rows fun v => fp h (x :: v)) = _
    have e2 : ∀ x, tr b rows (fun v => fp h (x :: v)) = tr b rows (fp h) * h x := fun x => by
      rw [Int.mul_comm, ← tr_mul]
      exact tr_congr fun v _ => by
        unfold fp
        rw [List.foldl_cons, fold_out, Int.one_mul]
    rw [tg_congr e2, tg_mul, Int.mul_comm]
noncomputable def iv (a : Int) (n : Nat) (x : Int) : Int := if a ≤ x ∧ x < a + n then 1 else 0
theorem sm_delta (x a : Int) : ∀ n : Nat, sm (fun t => if x = t then 1 else 0) a n = iv a n x
  | 0 => by
    unfold iv
    rw [if_neg (by omega)]
    rfl
  | n + 1 => by
    simp only [sm]
    rw [sm_delta x a n]
    unfold iv
    by_cases h1 : a ≤ x ∧ x < a + n
    · rw [if_pos h1, if_neg (by omega), if_pos (by push_cast; omega)]
      rfl
    · by_cases h2 : x = a + n
      · rw [if_neg h1, if_pos h2, if_pos (by push_cast; omega)]
        rfl
      · rw [if_neg h1, if_neg h2, if_neg (by push_cast; omega)]
        rfl
theorem tg_delta {t : Int} : ∀ {f : List (Int × Int)}, (keys f).Nodup → tg f (fun x => if x = t then 1 else 0) = gv f t
  | [], _ => rfl
  | (a, x) :: f, nd => by
    have nd1 : a ∉ keys f := (List.nodup_cons.mp nd).1
    have nd2 : (keys f).Nodup := (List.nodup_cons.mp nd).2
    rw [tg_cons, tg_delta nd2]
    unfold gv
    by_cases e : a = t
    · subst e
      rw [look_hit, look_none nd1, if_pos rfl]
      simp
    · rw [look_miss e, if_neg e]
      simp
theorem tg_sm (f : List (Int × Int)) (F : Int → Int → Int) (a : Int) : ∀ n : Nat, tg f (fun x => sm (fun t => F t x) a n) = sm (fun t => tg f (F t)) a n
  | 0 => by
    have := tg_mul 0 f fun _ => 0
    simp only [Int.zero_mul] at this
    exact this
  | n + 1 => by
    simp only [sm]
    rw [tg_plus, tg_sm f F a n]
theorem tg_iv {b : Nat} (row : List Int) (a : Int) (n : Nat) : tg (waysW b row) (iv a n) = sm (fw b row) a n := by
  have e : ∀ x, iv a n x = sm (fun t => if x = t then 1 else 0) a n := fun x => (sm_delta x a n).symm
  rw [tg_congr e, tg_sm (waysW b row) (fun t x => if x = t then 1 else 0)]
  apply sm_congr
  intro t _ _
  exact tg_delta (ways_tw b row).nd
theorem tr_iv {b : Nat} (rows : List (List Int)) (a : Int) (n : Nat) : tr b rows (fp (iv a n)) = pr (fws b rows) a n := by
  rw [tr_prod]
  unfold pr fws
  rw [List.foldl_map]
  congr 1
  funext m row
  rw [tg_iv]
end Mg
namespace Mg
open Me Mq
theorem tg_congrK {f : List (Int × Int)} {G H : Int → Int} (h : ∀ x ∈ keys f, G x = H x) : tg f G = tg f H := by
  unfold tg
  congr 1
  exact List.map_congr_left fun p hp => by rw [h p.1 (List.mem_map.mpr ⟨p, hp, rfl⟩)]
theorem tr_congrB {b : Nat} {lo hi : Int} : ∀ {rows : List (List Int)} {F G : List Int → Int}, (∀ row ∈ rows, ∀ k ∈ keys (waysW b row), lo ≤ k ∧ k ≤ hi) → (∀ v, v.length = rows.length → (∀ x ∈ v, lo ≤ x ∧ x ≤ hi) → F v = G v) → tr b rows F = tr b rows G
  | [], _, _, _, h => h [] rfl fun _ z => by simp at z
  | row :: rows, _, _, hk, h => tg_congrK fun x hx => tr_congrB (fun r hr => hk r (by simp [hr])) fun v hv hb => h (x :: v) (by simp [hv]) fun y hy => by
      rcases List.mem_cons.mp hy with rfl | hy
      · exact hk row (by simp) _ hx
      · exact hb y hy
theorem fp_all (q : Int → Prop) [DecidablePred q] : ∀ v : List Int, fp (fun x => if q x then 1 else 0) v = if ∀ x ∈ v, q x then 1 else 0
  | [] => by simp [fp]
  | x :: v => by
    have e : fp (fun x => if q x then 1 else 0) (x :: v) = (if q x then 1 else 0) * fp (fun x => if q x then 1 else 0) v := by
      unfold fp
      rw [List.foldl_cons, fold_out, Int.one_mul]
    rw [e, fp_all q v]
    by_cases h1 : q x
    · by_cases h2 : ∀ y ∈ v, q y
      · rw [if_pos h1, if_pos h2, if_pos (by intro y hy; rcases List.mem_cons.mp hy with rfl | hy; exact h1; exact h2 y hy)]; rfl
      · rw [if_pos h1, if_neg h2, if_neg (fun z => h2 fun y hy => z y (by simp [hy]))]; rfl
    · have h3 : ¬ ∀ y ∈ x :: v, q y := fun z => h1 (z x List.mem_cons_self)
      rw [if_neg h1, if_neg h3, Int.zero_mul]
noncomputable def sprd (v : List Int) : Int := Ma.maxL v - Ma.minL v
theorem all_in {v : List Int} (hv : 0 < v.length) {a : Int} {n : Nat} : (∀ x ∈ v, a ≤ x ∧ x < a + n) ↔ a ≤ Ma.minL v ∧ Ma.maxL v < a + n := by
  obtain ⟨m1, m2⟩ := Ma.minL_spec v hv
  obtain ⟨m3, m4⟩ := Ma.maxL_spec v hv
  constructor
  · intro h
    exact ⟨(h _ m1).1, (h _ m3).2⟩
  · rintro ⟨h1, h2⟩ x hx
    have := m2 x hx
    have := m4 x hx
    omega
theorem fp_iv {v : List Int} (hv : 0 < v.length) (a : Int) (n : Nat) : fp (iv a n) v = if a ≤ Ma.minL v ∧ Ma.maxL v < a + n then 1 else 0 := by
  have := fp_all (fun x => a ≤ x ∧ x < a + n) v
  have e : iv a n = fun x => if a ≤ x ∧ x < a + (n : Int) then 1 else 0 := rfl
  rw [e, this]
  by_cases h : ∀ x ∈ v, a ≤ x ∧ x < a + n
  · rw [if_pos h, if_pos ((all_in hv).mp h)]
  · rw [if_neg h, if_neg fun z => h ((all_in hv).mpr z)]
theorem win {v : List Int} (hv : 0 < v.length) {d : Nat} {A : Int} {N : Nat} (h1 : A ≤ Ma.minL v) (h2 : Ma.minL v < A + N) : (if sprd v ≤ d then 1 else 0) = sm (fun a => fp (iv a (d + 1)) v - fp (iv (a + 1) d) v) A N := by
  have e : sm (fun a => fp (iv a (d + 1)) v - fp (iv (a + 1) d) v) A N = sm (fun a => if Ma.minL v = a then (if sprd v ≤ d then 1 else 0) else 0) A N := by
    apply sm_congr
    intro a _ _
    rw [fp_iv hv, fp_iv hv]
    unfold sprd
    obtain ⟨m1, m2⟩ := Ma.minL_spec v hv
    obtain ⟨m3, m4⟩ := Ma.maxL_spec v hv
    have mm := m2 _ m3
    push_cast
    by_cases q1 : Ma.minL v = a
    · rw [if_pos q1]
      by_cases q2 : Ma.maxL v - Ma.minL v ≤ d
      · rw [if_pos (by omega), if_neg (by omega), if_pos q2]; rfl
      · rw [if_neg (by omega), if_neg (by omega), if_neg q2]; rfl
    · rw [if_neg q1]
      by_cases q2 : a ≤ Ma.minL v ∧ Ma.maxL v < a + (d + 1)
      · rw [if_pos q2, if_pos (by omega)]; rfl
      · rw [if_neg q2, if_neg (by omega)]; rfl
  rw [e]
  by_cases q : sprd v ≤ d
  · rw [if_pos q, sm_delta]
    unfold iv
    rw [if_pos ⟨h1, h2⟩]
  · rw [if_neg q]
    refine (sm_zero fun t _ _ => ?_).symm
    split <;> rfl
section
variable {b : Nat} {ps : List Nat} {ws : List Int}
theorem cnt_even (hb : 0 < b) (hw : ws.length = ps.sum) (hp : 0 < ps.length) (t : Int) : ns (fun n => if sprd (sumsN b n ps ws) = 0 ∧ (sumsN b n ps ws)[0]? = some t then 1 else 0) (b ^ ps.sum) = prodW b (Ma.cuts ps ws) t := by
  rw [all_tr hb ps ws (fun v => if sprd v = 0 ∧ v[0]? = some t then 1 else 0) hw]
  have e : tr b (Ma.cuts ps ws) (fun v => if sprd v = 0 ∧ v[0]? = some t then 1 else 0) = tr b (Ma.cuts ps ws) (fp fun x => if x = t then 1 else 0) := tr_congr fun v hv => by
    rw [Ma.cuts_len] at hv
    have hv0 : 0 < v.length := by omega
    rw [fp_all (fun x => x = t)]
    obtain ⟨m1, m2⟩ := Ma.minL_spec v hv0
    obtain ⟨m3, m4⟩ := Ma.maxL_spec v hv0
    have ev : v[0]? = some v[0] := by simp [hv0]
    unfold sprd
    by_cases q : ∀ x ∈ v, x = t
    · rw [if_pos q, if_pos ⟨by rw [q _ m1, q _ m3]; omega, by rw [ev, q _ (List.getElem_mem hv0)]⟩]
    · rw [if_neg q, if_neg]
      rintro ⟨z1, z2⟩
      rw [ev] at z2
      have z2' : v[0] = t := Option.some.inj z2
      refine q fun x hx => ?_
      have a1 := m2 x hx
      have a2 := m4 x hx
      have a3 := m2 _ (List.getElem_mem hv0)
      have a4 := m4 _ (List.getElem_mem hv0)
      omega
  rw [e, tr_prod]
  unfold prodW
  congr 1
  funext m row
  rw [tg_delta (ways_tw b row).nd]
theorem cnt_near (hb : 0 < b) (hw : ws.length = ps.sum) (hp : 0 < ps.length) (d : Nat) : ns (fun n => if sprd (sumsN b n ps ws) ≤ d then 1 else 0) (b ^ ps.sum) = nearV b (Ma.cuts ps ws) d := by
  rw [all_tr hb ps ws (fun v => if sprd v ≤ d then 1 else 0) hw]
  have hne : 0 < (Ma.cuts ps ws).length := by rw [Ma.cuts_len]; exact hp
  rw [tr_congrB (G := fun v => sm (fun a => fp (iv a (d + 1)) v - fp (iv (a + 1) d) v) (Ma.minL (los b (Ma.cuts ps ws))) (Ma.maxL (his b (Ma.cuts ps ws)) - Ma.minL (los b (Ma.cuts ps ws)) + 1).toNat) (lo := Ma.minL (los b (Ma.cuts ps ws))) (hi := Ma.maxL (his b (Ma.cuts ps ws)))
    (fun row hr k hk => keys_in_lh hb hr k hk) fun v hv hx => ?_]
  · rw [tr_sm (Ma.cuts ps ws) fun a v => fp (iv a (d + 1)) v - fp (iv (a + 1) d) v]
    unfold nearV
    apply sm_congr
    intro a _ _
    rw [tr_sub, tr_iv, tr_iv]
    rfl
  · have hv0 : 0 < v.length := by omega
    have m1 := hx _ (Ma.minL_spec v hv0).1
    exact win hv0 (by omega) (by omega)
theorem tg_const (f : List (Int × Int)) (c : Int) : tg f (fun _ => c) = tot f * c := by
  induction f with
  | nil => simp [tg, tot]
  | cons p f ih =>
    rw [tg_cons, ih]
    simp only [tot, List.map_cons, List.sum_cons]
    rw [Int.add_mul]
theorem tr_one (rows : List (List Int)) : tr b rows (fun _ => 1) = (b : Int) ^ (rows.map List.length).sum := by
  induction rows with
  | nil => rfl
  | cons row rows ih =>
    show tg _ (fun _ => tr b rows fun _ => 1) = _
    rw [ih, tg_const, (ways_tw b row).tt, List.map_cons, List.sum_cons, Int.pow_add]
theorem tr_part (t : Int) : ∀ (rows : List (List Int)) (j : Nat) (row : List Int), rows[j]? = some row → tr b rows (fun v => if v[j]? = some t then 1 else 0) * (b : Int) ^ row.length = gv (waysW b row) t * (b : Int) ^ (rows.map List.length).sum
  | [], _, _, h => by simp at h
  | r :: rows, 0, row, h => by
    have er : r = row := by simpa using h
    subst er
    have e : tr b (r :: rows) (fun v => if v[0]? = some t then 1 else 0) = gv (waysW b r) t * (b : Int) ^ (rows.map List.length).sum := by
      show tg _ _ = _
      have e1 : ∀ x : Int, tr b rows (fun v => if (x :: v)[0]? = some t then 1 else 0) = (b : Int) ^ (rows.map List.length).sum * (if x = t then 1 else 0) := fun x => by
        by_cases q : x = t
        · rw [if_pos q, ← tr_one (b := b) rows, Int.mul_one]
          exact tr_congr fun v _ => by simp [q]
        · rw [if_neg q, Int.mul_zero]
          refine Eq.trans ?_ (tr_zero (b := b) rows)
          exact tr_congr fun v _ => if_neg fun z => q (by simpa using z)
      rw [tg_congr e1, tg_mul, tg_delta (ways_tw b r).nd, Int.mul_comm]
    rw [e, List.map_cons, List.sum_cons, Int.pow_add, Int.mul_assoc, Int.mul_comm ((b : Int) ^ (rows.map List.length).sum)]
  | r :: rows, j + 1, row, h => by
    have ih := tr_part t rows j row (by simpa using h)
    have e : tr b (r :: rows) (fun v => if v[j + 1]? = some t then 1 else 0) = tot (waysW b r) * tr b rows (fun v => if v[j]? = some t then 1 else 0) := by
      show tg _ (fun x => tr b rows fun v => if (x :: v)[j + 1]? = some t then 1 else 0) = _
      simp only [List.getElem?_cons_succ]
      exact tg_const (waysW b r) (tr b rows fun v => if v[j]? = some t then 1 else 0)
    rw [e, Int.mul_assoc, ih, (ways_tw b r).tt, List.map_cons, List.sum_cons, Int.pow_add, ← Int.mul_assoc, ← Int.mul_assoc, Int.mul_comm ((b : Int) ^ r.length)]
theorem le_sum {p : Nat} : ∀ {l : List Nat}, p ∈ l → p ≤ l.sum
  | [], h => by simp at h
  | q :: l, h => by
    rw [List.sum_cons]
    rcases List.mem_cons.mp h with rfl | h
    · omega
    · have := le_sum h; omega
theorem cnt_part (hb : 0 < b) (hw : ws.length = ps.sum) {j p : Nat} {row : List Int} (hj : (Ma.cuts ps ws)[j]? = some row) (hp : ps[j]? = some p) (t : Int) : ns (fun n => if (sumsN b n ps ws)[j]? = some t then 1 else 0) (b ^ ps.sum) = gv (waysW b row) t * ((b ^ ps.sum / b ^ p : Nat) : Int) := by
  rw [all_tr hb ps ws (fun v => if v[j]? = some t then 1 else 0) hw]
  have h := tr_part (b := b) t (Ma.cuts ps ws) j row hj
  have el := Me.cuts_lens ps ws hw
  have hrl : row.length = p := by
    have h1 := congrArg (fun l => l[j]?) el
    simp only [List.getElem?_map, hj, hp, Option.map_some] at h1
    exact Option.some.inj h1
  rw [el, hrl] at h
  have hle : p ≤ ps.sum := by
    have := List.mem_of_getElem? hp
    exact le_sum this
  have e1 : b ^ ps.sum / b ^ p = b ^ (ps.sum - p) := Nat.pow_div hle hb
  have e2 : (b : Int) ^ ps.sum = ((b ^ (ps.sum - p) : Nat) : Int) * (b : Int) ^ p := by
    rw [Int.natCast_pow, ← Int.pow_add]
    congr 1
    omega
  rw [e1]
  rw [e2, ← Int.mul_assoc] at h
  have hpos : (b : Int) ^ p ≠ 0 := by
    have : 0 < b ^ p := Nat.pow_pos hb
    have e : ((b ^ p : Nat) : Int) = (b : Int) ^ p := Int.natCast_pow b p
    omega
  exact Int.eq_of_mul_eq_mul_right hpos h
end
noncomputable def cd (w : Nat → Bool) (k : Nat → Int) : Nat → List (Int × Int)
  | 0 => []
  | n + 1 => if w n = true then addTo (cd w k n) (k n) 1 else cd w k n
structure Pos (f : List (Int × Int)) : Prop where
  nd : (keys f).Nodup
  ps : ∀ p ∈ f, 1 ≤ p.2
theorem add_pos {k n : Int} (hn : 1 ≤ n) : ∀ {f : List (Int × Int)}, Pos f → Pos (addTo f k n)
  | [], _ => ⟨by simp [addTo, put, look, keys], fun p hp => by
      have : p = (k, 0 + n) := by simpa [addTo, put, look] using hp
      rw [this]; show 1 ≤ 0 + n; omega⟩
  | (a, x) :: f, o => by
    have nd1 : a ∉ keys f := (List.nodup_cons.mp o.nd).1
    have nd2 : (keys f).Nodup := (List.nodup_cons.mp o.nd).2
    have hx : 1 ≤ x := o.ps (a, x) (by simp)
    refine ⟨add_nd o.nd, ?_⟩
    by_cases e : a = k
    · subst e
      rw [add_hit nd1]
      intro p hp
      rcases List.mem_cons.mp hp with rfl | hp
      · show 1 ≤ x + n; omega
      · exact o.ps p (by simp [hp])
    · rw [add_miss e]
      intro p hp
      rcases List.mem_cons.mp hp with rfl | hp
      · exact hx
      · exact (add_pos hn (f := f) ⟨nd2, fun q hq => o.ps q (by simp [hq])⟩).ps p hp
theorem cd_pos (w : Nat → Bool) (k : Nat → Int) : ∀ n, Pos (cd w k n)
  | 0 => ⟨by simp [cd, keys], fun p hp => by simp [cd] at hp⟩
  | n + 1 => by
    unfold cd
    split
    · exact add_pos (by decide) (cd_pos w k n)
    · exact cd_pos w k n
theorem cd_tg (w : Nat → Bool) (k : Nat → Int) (G : Int → Int) : ∀ n, tg (cd w k n) G = ns (fun i => if w i = true then G (k i) else 0) n
  | 0 => rfl
  | n + 1 => by
    unfold cd
    rw [ns]
    split
    · rw [tg_add (cd_pos w k n).nd, cd_tg w k G n, Int.one_mul]
    · rw [cd_tg w k G n]; omega
theorem cd_gv (w : Nat → Bool) (k : Nat → Int) (t : Int) (n : Nat) : gv (cd w k n) t = ns (fun i => if w i = true ∧ k i = t then 1 else 0) n := by
  rw [← tg_delta (cd_pos w k n).nd, cd_tg]
  apply ns_congr
  intro i _
  by_cases h : w i = true
  · by_cases q : k i = t
    · rw [if_pos h, if_pos q, if_pos ⟨h, q⟩]
    · rw [if_pos h, if_neg q, if_neg fun z => q z.2]
  · rw [if_neg h, if_neg fun z => h z.1]
theorem figs_pos {p : Int × Int} {w : Int} (hp : 1 ≤ p.2) {acc : List (Int × Int)} (o : Pos acc) : ∀ n : Nat, Pos (figs p w n acc)
  | 0 => o
  | n + 1 => by rw [figs_succ]; exact add_pos hp (figs_pos hp o n)
theorem more_pos {b : Nat} {w : Int} : ∀ {f acc : List (Int × Int)}, Pos acc → (∀ p ∈ f, 1 ≤ p.2) → Pos (f.foldl (fun acc p => figs p w b acc) acc)
  | [], _, o, _ => o
  | p :: f, acc, o, h => by
    rw [List.foldl_cons]
    exact more_pos (figs_pos (h p (by simp)) o b) fun q hq => h q (by simp [hq])
theorem ways_pos (b : Nat) (row : List Int) : Pos (waysW b row) := by
  have key : ∀ (row : List Int) (f : List (Int × Int)), Pos f → Pos (row.foldl (fun f w => oneMore f b w) f) := fun row => by
    induction row with
    | nil => intro f o; exact o
    | cons w row ih => intro f o; exact ih _ (more_pos ⟨by simp [keys], fun p hp => by simp at hp⟩ o.ps)
  exact key row [(0, 1)] ⟨by simp [keys], fun p hp => by have : p = (0, 1) := by simpa using hp
                                                         rw [this]; decide⟩
theorem even_pos {b : Nat} {rows : List (List Int)} {ks : List Int} (nd : ks.Nodup) : Pos (evenL b rows ks) := ⟨even_nd nd, fun p hp => by
  obtain ⟨k, hk, rfl⟩ := List.mem_map.mp hp
  have h1 := (List.mem_filter.mp hk).2
  have h2 : 0 < prodW b rows k := by simpa using h1
  show 1 ≤ prodW b rows k
  omega⟩
theorem nodup_of_keys {f : List (Int × Int)} (nd : (keys f).Nodup) : f.Nodup := by
  induction f with
  | nil => exact List.nodup_nil
  | cons p f ih =>
    obtain ⟨n1, n2⟩ := List.nodup_cons.mp nd
    exact List.nodup_cons.mpr ⟨fun z => n1 (List.mem_map.mpr ⟨p, z, rfl⟩), ih n2⟩
theorem mem_of_gv {f g : List (Int × Int)} (o : Pos f) (h : ∀ t, gv f t = gv g t) : ∀ p ∈ f, p ∈ g := fun p hp => by
  have e1 := look_mem o.nd hp
  have e2 : gv f p.1 = p.2 := by unfold gv; rw [e1]; rfl
  have e3 := o.ps p hp
  rw [h] at e2
  have := gv_mem (f := g) (k := p.1) (by rw [e2]; exact e3)
  rw [e2] at this
  exact this
theorem perm_of_gv {f g : List (Int × Int)} (o : Pos f) (u : Pos g) (h : ∀ t, gv f t = gv g t) : f.Perm g :=
  (List.perm_ext_iff_of_nodup (nodup_of_keys o.nd) (nodup_of_keys u.nd)).mpr fun p => ⟨mem_of_gv o h p, mem_of_gv u (fun t => (h t).symm) p⟩
theorem scale_pos {f : List (Int × Int)} {c : Int} (o : Pos f) (hc : 1 ≤ c) : Pos (f.map fun q => (q.1, q.2 * c)) := ⟨by
    have : keys (f.map fun q => (q.1, q.2 * c)) = keys f := by unfold keys; rw [List.map_map]; rfl
    rw [this]; exact o.nd, fun p hp => by
    obtain ⟨q, hq, rfl⟩ := List.mem_map.mp hp
    have := o.ps q hq
    have h2 := Int.mul_le_mul this hc (by decide) (by omega)
    simpa using h2⟩
theorem scale_gv (c t : Int) : ∀ f : List (Int × Int), gv (f.map fun q => (q.1, q.2 * c)) t = gv f t * c
  | [] => by simp [gv, look]
  | (a, x) :: f => by
    have ih := scale_gv c t f
    unfold gv at ih ⊢
    rw [List.map_cons]
    by_cases e : a = t
    · subst e
      rw [look_hit, look_hit]; rfl
    · rw [look_miss e, look_miss e]
      exact ih
theorem upto_sum (f : List (Int × Int)) (d : Int) : ((f.filter fun q => decide (q.1 ≤ d)).map (·.2)).sum = tg f fun x => if x ≤ d then 1 else 0 := by
  induction f with
  | nil => rfl
  | cons p f ih =>
    rw [tg_cons, ← ih]
    by_cases h : p.1 ≤ d
    · rw [List.filter_cons_of_pos (by simpa using h), if_pos h, List.map_cons, List.sum_cons, Int.mul_one]
    · rw [List.filter_cons_of_neg (by simpa using h), if_neg h, Int.mul_zero, Int.zero_add]
end Mg
namespace Mg
open Me Mq
theorem mem_put {f : List (Int × Int)} {k v x : Int} (h : x ∈ keys (put f k v)) : x ∈ keys f ∨ x = k := by
  unfold put at h
  split at h
  · rw [keys_repl] at h; exact .inl h
  · rw [keys, List.map_append] at h
    rcases List.mem_append.mp h with h | h
    · exact .inl h
    · exact .inr (by simpa using h)
theorem cd_prop {w : Nat → Bool} {k : Nat → Int} {q : Int → Prop} (h : ∀ i, q (k i)) : ∀ n, ∀ x ∈ keys (cd w k n), q x
  | 0 => fun x hx => by simp [cd, keys] at hx
  | n + 1 => fun x hx => by
    unfold cd at hx
    split at hx
    · rcases mem_put hx with hx | rfl
      · exact cd_prop h n x hx
      · exact h n
    · exact cd_prop h n x hx
theorem put_ne (f : List (Int × Int)) (k v : Int) : 0 < (put f k v).length := by
  unfold put
  split
  · rename_i h
    rw [List.length_map]
    cases f with
    | nil => simp at h
    | cons _ _ => simp
  · simp
theorem cd_ne {k : Nat → Int} {n : Nat} (hn : 0 < n) : 0 < (cd (fun _ => true) k n).length := by
  obtain ⟨m, rfl⟩ : ∃ m, n = m + 1 := ⟨n - 1, by lia⟩
  have : cd (fun _ => true) k (m + 1) = addTo (cd (fun _ => true) k m) (k m) 1 := if_pos rfl
  rw [this]
  exact put_ne _ _ _
theorem sprd_nn (v : List Int) (h : 0 < v.length) : 0 ≤ sprd v := by
  have h1 := (Ma.maxL_spec v h).1
  have h2 := (Ma.minL_spec v h).2 _ h1
  unfold sprd
  lia
section
variable {b : Nat} {ps : List Nat} {ws : List Int}
theorem even_perm {row : List Int} (hb : 0 < b) (hw : ws.length = ps.sum) (hp : 0 < ps.length) (h0 : (Ma.cuts ps ws)[0]? = some row) :
    (evenL b (Ma.cuts ps ws) (keys (waysW b row))).Perm (cd (fun n => decide (sprd (sumsN b n ps ws) = 0)) (fun n => (sumsN b n ps ws).getD 0 0) (b ^ ps.sum)) := by
  have nd := (ways_tw b row).nd
  refine perm_of_gv (even_pos nd) (cd_pos _ _ _) fun t => ?_
  rw [cd_gv]
  refine (even_look h0 nd t).trans ?_
  rw [← cnt_even hb hw hp t]
  apply ns_congr
  intro n _
  have hl : 0 < (sumsN b n ps ws).length := by
    show 0 < (Ma.psums ps _).length
    rw [Ma.psums_len]; exact hp
  have e : (sumsN b n ps ws)[0]? = some ((sumsN b n ps ws).getD 0 0) := by rw [List.getD_eq_getElem?_getD, List.getElem?_eq_getElem hl]; rfl
  rw [e]
  by_cases h1 : sprd (sumsN b n ps ws) = 0
  · by_cases h2 : (sumsN b n ps ws).getD 0 0 = t
    · rw [if_pos ⟨h1, by rw [h2]⟩, if_pos ⟨decide_eq_true h1, h2⟩]
    · rw [if_neg (fun z => h2 (Option.some.inj z.2)), if_neg fun z => h2 z.2]
  · rw [if_neg (fun z => h1 z.1), if_neg fun z => h1 (of_decide_eq_true z.1)]
theorem ms_near (hb : 0 < b) (hw : ws.length = ps.sum) (hp : 0 < ps.length) (d : Nat) : tg (cd (fun _ => true) (fun n => sprd (sumsN b n ps ws)) (b ^ ps.sum)) (fun x => if x ≤ d then 1 else 0) = nearV b (Ma.cuts ps ws) d := by
  rw [cd_tg, ← cnt_near hb hw hp d]
  apply ns_congr
  intro n _
  rw [if_pos rfl]
theorem ms_gv (hb : 0 < b) (hw : ws.length = ps.sum) (hp : 0 < ps.length) (d : Nat) : gv (cd (fun _ => true) (fun n => sprd (sumsN b n ps ws)) (b ^ ps.sum)) d = if d = 0 then nearV b (Ma.cuts ps ws) 0 else nearV b (Ma.cuts ps ws) d - nearV b (Ma.cuts ps ws) (d - 1) := by
  rw [cd_gv]
  have hnn : ∀ n, 0 ≤ sprd (sumsN b n ps ws) := fun n => sprd_nn _ (by
    show 0 < (Ma.psums ps _).length
    rw [Ma.psums_len]; exact hp)
  by_cases h0 : d = 0
  · subst h0
    rw [if_pos rfl, ← cnt_near hb hw hp 0]
    apply ns_congr
    intro n _
    have := hnn n
    by_cases h : sprd (sumsN b n ps ws) = ((0 : Nat) : Int)
    · rw [if_pos ⟨rfl, h⟩, if_pos (by lia)]
    · rw [if_neg (fun z => h z.2), if_neg (by lia)]
  · rw [if_neg h0, ← cnt_near hb hw hp d, ← cnt_near hb hw hp (d - 1), ← ns_sub]
    apply ns_congr
    intro n _
    by_cases h : sprd (sumsN b n ps ws) = (d : Int)
    · rw [if_pos ⟨rfl, h⟩, if_pos (by lia), if_neg (by lia)]; rfl
    · rw [if_neg (fun z => h z.2)]
      by_cases h1 : sprd (sumsN b n ps ws) ≤ (d : Int)
      · rw [if_pos h1, if_pos (by lia)]; rfl
      · rw [if_neg h1, if_neg (by lia)]; rfl
end
end Mg
namespace L2
open PySem PySem.Spec PyProof.Rows

section
variable {κ : Type} [DecidableEq κ]
noncomputable def valV (kvs : List (κ × V)) (k : κ) : Option V := (kvs.find? fun kv => decide (kv.1 = k)).map (·.2)
noncomputable def putK (kvs : List (κ × V)) (k : κ) (v : V) : List (κ × V) :=
  if (kvs.any fun kv => decide (kv.1 = k)) = true then kvs.map (fun kv => if kv.1 = k then (kv.1, v) else kv) else kvs ++ [(k, v)]
theorem valV_pos {p : κ × V} {r : List (κ × V)} {k : κ} (e : p.1 = k) : valV (p :: r) k = some p.2 := by simp [valV, List.find?_cons, e]
theorem valV_neg {p : κ × V} {r : List (κ × V)} {k : κ} (e : ¬ p.1 = k) : valV (p :: r) k = valV r k := by simp [valV, List.find?_cons, e]
theorem valV_any (k : κ) : ∀ kvs : List (κ × V), (kvs.any fun kv => decide (kv.1 = k)) = (valV kvs k).isSome
  | [] => rfl
  | p :: r => by
    rw [List.any_cons]
    by_cases e : p.1 = k
    · simp only [valV_pos e, decide_eq_true e, Bool.true_or, Option.isSome_some]
    · rw [valV_neg e, decide_eq_false e, Bool.false_or]; exact valV_any k r
theorem length_putK (kvs : List (κ × V)) (k : κ) (v : V) : (putK kvs k v).length ≤ kvs.length + 1 := by
  unfold putK
  split
  · rw [List.length_map]; lia
  · rw [List.length_append, List.length_cons, List.length_nil]; lia
theorem RelO.isSome_eq {o : Option V} {u : Option Value} (r : RelO o u) : o.isSome = u.isSome := by
  cases o with
  | none => cases u with
    | none => rfl
    | some _ => exact (show False from r).elim
  | some _ => cases u with
    | none => exact (show False from r).elim
    | some _ => rfl
theorem RelO.getD {o : Option V} {u : Option Value} {d : V} {d' : Value} (r : RelO o u) (rd : RelV d d') : RelV (o.getD d) (u.getD d') := by
  cases o with
  | none => cases u with
    | none => exact rd
    | some _ => exact (show False from r).elim
  | some _ => cases u with
    | none => exact (show False from r).elim
    | some _ => exact r

theorem KV.val {kvs : List (κ × V)} {vs : List (κ × Value)} (r : KV kvs vs) (k : κ) : RelO (valV kvs k) (valueAt vs k) := by
  unfold KV at r
  induction r with
  | nil => exact True.intro
  | @cons p q ps qs h t ih =>
    obtain ⟨h1, h2⟩ := h
    by_cases e : p.1 = k
    · have e' : q.1 = k := h1.symm.trans e
      have b : valueAt (q :: qs) k = some q.2 := by simp [valueAt, List.find?_cons, e']
      rw [valV_pos e, b]; exact h2
    · have e' : ¬ q.1 = k := fun z => e (h1.trans z)
      have b : valueAt (q :: qs) k = valueAt qs k := by simp [valueAt, List.find?_cons, e']
      rw [valV_neg e, b]; exact ih
theorem KV.any {kvs : List (κ × V)} {vs : List (κ × Value)} (r : KV kvs vs) (k : κ) : (kvs.any fun kv => decide (kv.1 = k)) = vs.any fun kv => decide (kv.1 = k) := by
  unfold KV at r
  induction r with
  | nil => rfl
  | cons h t ih => rw [List.any_cons, List.any_cons, ih, h.1]
theorem KV.repl {kvs : List (κ × V)} {vs : List (κ × Value)} (r : KV kvs vs) (k : κ) {y : V} {u : Value} (ry : RelV y u) :
    KV (kvs.map fun kv => if kv.1 = k then (kv.1, y) else kv) (vs.map fun kv => if kv.1 = k then (kv.1, u) else kv) := by
  unfold KV at r ⊢
  induction r with
  | nil => exact .nil
  | @cons p q ps qs h t ih =>
    rw [List.map_cons, List.map_cons]
    refine .cons ?_ ih
    obtain ⟨h1, h2⟩ := h
    by_cases e : p.1 = k
    · rw [if_pos e, if_pos (h1.symm.trans e)]; exact ⟨h1, ry⟩
    · rw [if_neg e, if_neg (fun z => e (h1.trans z))]; exact ⟨h1, h2⟩
theorem KV.put {kvs : List (κ × V)} {vs : List (κ × Value)} (r : KV kvs vs) (k : κ) {y : V} {u : Value} (ry : RelV y u) : KV (putK kvs k y) (stored vs k u) := by
  unfold putK stored
  rw [r.any k]
  by_cases e : (vs.any fun kv => decide (kv.1 = k)) = true
  · rw [if_pos e, if_pos e]; exact r.repl k ry
  · rw [if_neg e, if_neg e]; exact Paired.snoc r ⟨rfl, ry⟩
theorem KV.keys {kvs : List (κ × V)} {vs : List (κ × Value)} (r : KV kvs vs) : kvs.map (·.1) = vs.map (·.1) := by
  unfold KV at r
  induction r with
  | nil => rfl
  | cons h t ih => rw [List.map_cons, List.map_cons, ih, h.1]
theorem KV.length {kvs : List (κ × V)} {vs : List (κ × Value)} (r : KV kvs vs) : kvs.length = vs.length := Paired.length r
end


theorem kV_is {P : Program} {w : World} {k : Key} {u : Value} (r : RelV (kV k) u) : (mixKind P w).is k u = true := by
  cases k with
  | inl i => obtain ⟨t, e⟩ := (show ∃ t, u = Value.int i t from r); subst e; exact mixKind_int P w i t
  | inr x => obtain ⟨t, e⟩ := (show ∃ t, u = Value.str x t from r); subst e; exact mixKind_str P w x t
theorem items_are {P : Program} {w : World} : ∀ {ks : List Key} {us : List Value}, Vals (ks.map kV) us → ItemsAre (mixKind P w) ks us
  | [], _, r => by rw [List.map_nil] at r; cases r; exact .nil
  | k :: ks, _, r => by
    rw [List.map_cons] at r
    cases r with
    | cons h t => exact .cons (kV_is h) (items_are t)

noncomputable abbrev KT (H : Hp) : List (List Key × V) → List (List Key × Addr × Value) → Prop := Paired fun p q => p.1 = q.1 ∧ H q.2.1 = some (.tup (p.1.map kV)) ∧ RelV p.2 q.2.2
theorem KT.val {H : Hp} {kvs : List (List Key × V)} {xs : List (List Key × Addr × Value)} (r : KT H kvs xs) (k : List Key) : RelO (valV kvs k) ((atKey xs k).map (·.2)) := by
  induction r with
  | nil => exact True.intro
  | @cons p q ps qs h t ih =>
    obtain ⟨h1, _, h2⟩ := h
    by_cases e : p.1 = k
    · have e' : q.1 = k := h1.symm.trans e
      have b : atKey (q :: qs) k = some q.2 := by simp [atKey, List.find?_cons, e']
      rw [valV_pos e, b]; exact h2
    · have e' : ¬ q.1 = k := fun z => e (h1.trans z)
      have b : atKey (q :: qs) k = atKey qs k := by simp [atKey, List.find?_cons, e']
      rw [valV_neg e, b]; exact ih
theorem KT.repl {H : Hp} {kvs : List (List Key × V)} {xs : List (List Key × Addr × Value)} (r : KT H kvs xs) (k : List Key) {y : V} {u : Value} (ry : RelV y u) :
    KT H (kvs.map fun kv => if kv.1 = k then (kv.1, y) else kv) (xs.map (putAt k u)) := by
  induction r with
  | nil => exact .nil
  | @cons p q ps qs h t ih =>
    rw [List.map_cons, List.map_cons]
    refine .cons ?_ ih
    obtain ⟨h1, h2, h3⟩ := h
    unfold putAt
    by_cases e : p.1 = k
    · rw [if_pos e, if_pos (h1.symm.trans e)]; exact ⟨h1, h2, ry⟩
    · rw [if_neg e, if_neg (fun z => e (h1.trans z))]; exact ⟨h1, h2, h3⟩
theorem KT.put {H : Hp} {kvs : List (List Key × V)} {xs : List (List Key × Addr × Value)} (r : KT H kvs xs) (k : List Key) {b : Addr} {y : V} {u : Value} (hb : H b = some (.tup (k.map kV))) (ry : RelV y u) :
    KT H (putK kvs k y) (storedH xs k b u) := by
  have e : (kvs.any fun kv => decide (kv.1 = k)) = (atKey xs k).isSome := by
    rw [valV_any, (r.val k).isSome_eq, Option.isSome_map]
  unfold putK storedH
  rw [e]
  by_cases q : (atKey xs k).isSome = true
  · rw [if_pos q, if_pos q]; exact r.repl k ry
  · rw [if_neg q, if_neg q]; exact Paired.snoc r ⟨rfl, hb, ry⟩
theorem KT.keeps {H H' : Hp} {kvs : List (List Key × V)} {xs : List (List Key × Addr × Value)} (r : KT H kvs xs) (ht : ∀ b ys, H b = some (.tup ys) → H' b = some (.tup ys)) : KT H' kvs xs :=
  Paired.mapP r fun _ _ z => ⟨z.1, ht _ _ z.2.1, z.2.2⟩

section
variable {P : Program} {w : World} {H : Hp} {h : Heap} {a : Addr}
theorem rd_of {u : HO} (ok : HOk P w H h) (e : Rd H a u) : ObjOk P w H h a u := e.ok ok
theorem dk_rd {kvs : List (Key × V)} (ok : HOk P w H h) (e : Rd H a (.dK kvs)) : kvs.length ≤ sizeLine ∧ (a == sysModules) = false ∧ ∃ vs, KV kvs vs ∧ h.DictOf (mixKind P w) a vs :=
  show ObjOk P w H h a (.dK kvs) from rd_of ok e
theorem dk_of {kvs : List (Key × V)} (ok : HOk P w H h) (e : H a = some (.dK kvs)) : kvs.length ≤ sizeLine ∧ (a == sysModules) = false ∧ ∃ vs, KV kvs vs ∧ h.DictOf (mixKind P w) a vs := dk_rd ok (.inl e)
theorem key_of {ks : List Key} (ok : HOk P w H h) (e : H a = some (.tup (ks.map kV))) : (tupleKind (mixKind P w)).is h ks a := by
  obtain ⟨_, its, r, o, h1, h2, n, h3⟩ := (show ObjOk P w H h a (.tup (ks.map kV)) from ok a _ e)
  exact ⟨o, its.toArray, n, h1, h2, h3, by simpa using items_are r⟩
theorem dt_rd {kvs : List (List Key × V)} (ok : HOk P w H h) (e : Rd H a (.dT kvs)) : kvs.length ≤ sizeLine ∧ (a == sysModules) = false ∧
    ∃ xs, KT H kvs xs ∧ h.DictOfH (tupleKind (mixKind P w)) a xs := by
  obtain ⟨z, y, xs, r, o, es, ep, h1, h2, h3, h4, h5⟩ := (show ObjOk P w H h a (.dT kvs) from rd_of ok e)
  refine ⟨z, y, xs, r, o, es, ep, h1, h2, h3, h4, fun x hx => ?_, h5⟩
  have all : ∀ {l : List (List Key × V)} {m : List (List Key × Addr × Value)}, KT H l m → ∀ x ∈ m, (tupleKind (mixKind P w)).is h x.1 x.2.1 := by
    intro l m q
    induction q with
    | nil => intro x hx; exact nomatch hx
    | @cons p q ps qs hq t ih =>
      intro x hx
      rcases List.mem_cons.mp hx with e | hx
      · subst e
        exact key_of ok (by rw [← hq.1]; exact hq.2.1)
      · exact ih x hx
  exact all r x hx
theorem dt_of {kvs : List (List Key × V)} (ok : HOk P w H h) (e : H a = some (.dT kvs)) : kvs.length ≤ sizeLine ∧ (a == sysModules) = false ∧
    ∃ xs, KT H kvs xs ∧ h.DictOfH (tupleKind (mixKind P w)) a xs := dt_rd ok (.inl e)
end

noncomputable def DGet (H : Hp) (a : Addr) (y : V) (r : Option V) : Prop :=
  (∃ kvs k, Rd H a (.dK kvs) ∧ y = kV k ∧ r = valV kvs k) ∨ ∃ kvs k b, Rd H a (.dT kvs) ∧ y = .ref b ∧ H b = some (.tup (k.map kV)) ∧ r = valV kvs k
noncomputable def DPut (H : Hp) (a : Addr) (y v : V) (H' : Hp) : Prop :=
  (∃ kvs k, H a = some (.dK kvs) ∧ y = kV k ∧ kvs.length < sizeLine ∧ H' = upd H a (.dK (putK kvs k v))) ∨
  ∃ kvs k b, H a = some (.dT kvs) ∧ y = .ref b ∧ H b = some (.tup (k.map kV)) ∧ kvs.length < sizeLine ∧ H' = upd H a (.dT (putK kvs k v))
theorem DPut.k {H : Hp} {a : Addr} {kvs : List (Key × V)} {k : Key} {v : V} (e : H a = some (.dK kvs)) (hl : kvs.length < sizeLine) : DPut H a (kV k) v (upd H a (.dK (putK kvs k v))) := .inl ⟨kvs, k, e, rfl, hl, rfl⟩
section
variable {X : Cx} {pins : List (Addr × Obj)} {σ : St} {H : Hp} {s : Shared} {a : Addr} {y v : V} {u r : Value} {o : Option V} {A : Around} {E : Value → Shared → Prop}

theorem Inv.big (I : Inv X pins σ H s) : sysModules < s.heap.objs.size := by
  have h : mainGlobals < s.heap.objs.size := (I.mod.glob.keeps I.bk).lt
  exact Nat.lt_trans (by decide) h

theorem d_getItem {Q : Value → Shared → Prop} (hu : A.units + 1 < cLine) (I : Inv X pins σ H s) (g : DGet H a y (some v)) (ry : RelV y u) (h : ∀ w' s', Inv X pins σ H s' → RelV v w' → Q w' s') :
    wpAny (model X.prog X.w) A (getItem (.ref a) u) Q E s := by
  rcases g with ⟨kvs, k, e, ey, l⟩ | ⟨kvs, k, b, e, ey, eb, l⟩
  · subst ey
    obtain ⟨z, hd, vs, rel, dd⟩ := dk_rd I.hok e
    obtain ⟨w', hw, rw'⟩ := RelO.some_of (v := v) (o := valueAt vs k) (by rw [l]; exact rel.val k)
    exact wpAny_getItem_of (kV_is ry) dd.mapOf hw (h w' _ (I.tok _) rw')
  · subst ey
    cases (show u = Value.ref b from ry)
    obtain ⟨z, hd, xs, rel, dd⟩ := dt_rd I.hok e
    obtain ⟨w', hw, rw'⟩ := RelO.some_of (v := v) (o := (atKey xs k).map (·.2)) (by rw [l]; exact rel.val k)
    obtain ⟨p, hp, hp2⟩ := Option.map_eq_some_iff.mp hw
    refine wpAny_getItem_heap (tupleKind_room_in1 hu) (key_of I.hok eb) dd hp ?_
    rw [hp2]
    exact h w' _ (I.tok _) rw'
theorem d_write {h' : Heap} {t' : Nat} {ob : HO} (I : Inv X pins σ H s) (mu : Mut (H a)) (hs : Heap.SameBut a s.heap h') (he : ∃ q, h'.get? a = some q) (new : ObjOk X.prog X.w (upd H a ob) h' a ob) :
    Inv X pins σ (upd H a ob) { s with heap := h', toks := t' } :=
  I.write (x := a) (e := a) mu (.inl rfl) (fun b q hb z => (hs.2 b hb).trans z) he new
theorem dk_new {P : Program} {w : World} {H' : Hp} {h' : Heap} {kvs : List (Key × V)} {vs : List (Key × Value)} (z : kvs.length ≤ sizeLine) (hd : (a == sysModules) = false) (rel : KV kvs vs) (dd : h'.DictOf (mixKind P w) a vs) :
    ObjOk P w H' h' a (.dK kvs) := ⟨z, hd, vs, rel, dd⟩
theorem d_setItem {H' : Hp} {Q : Unit → Shared → Prop} (hu : A.units + 1 < cLine) (I : Inv X pins σ H s) (g : DPut H a y v H') (ry : RelV y u) (rv : RelV v r) (h : ∀ s', Inv X pins σ H' s' → Q () s') :
    wpAny (model X.prog X.w) A (setItem (.ref a) u r) Q E s := by
  rcases g with ⟨kvs, k, e, ey, l, eH⟩ | ⟨kvs, k, b, e, ey, eb, l, eH⟩
  · subst ey eH
    obtain ⟨z, hd, vs, rel, dd⟩ := dk_of I.hok e
    have hz : vs.length ≤ sizeLine := by rw [← rel.length]; exact z
    have hl : (putK kvs k v).length ≤ sizeLine := by have := length_putK kvs k v; lia
    refine wpAny_setItem_pairs (hsz := hz) (kV_is ry) dd fun h' dd' hs => h _ ?_
    have he : ∃ q, h'.get? a = some q := let ⟨q, _, _, hq, _⟩ := dd'; ⟨q, hq⟩
    exact d_write I (by rw [e]; exact True.intro) hs he (dk_new hl hd (rel.put k rv) dd')
  · subst ey eH
    cases (show u = Value.ref b from ry)
    obtain ⟨z, hd, xs, rel, dd⟩ := dt_of I.hok e
    have hz : xs.length ≤ sizeLine := by rw [← Paired.length rel]; exact z
    have hl : (putK kvs k v).length ≤ sizeLine := by have := length_putK kvs k v; lia
    refine wpAny_setItem_heap (hsz := hz) (tupleKind_room_in1 hu) (key_of I.hok eb) dd fun h' dd' hs => h _ ?_
    obtain ⟨q, es, ep, hq, h2, h3, h4, _, h5⟩ := dd'
    refine d_write I (by rw [e]; exact True.intro) hs ⟨q, hq⟩ ⟨hl, hd, _, (rel.put k eb rv).keeps fun c ys ec => ?_, q, es, ep, hq, h2, h3, h4, h5⟩
    rw [upd_ne (ne_of ec e (fun z => nomatch z))]
    exact ec
end

section
variable {X : Cx} {pins : List (Addr × Obj)} {σ : St} {H : Hp} {s : Shared} {a : Addr} {kvs : List (Key × V)} {k : Key} {u : Value} {A : Around} {E : Value → Shared → Prop}
end


noncomputable def NoSl (i : Expr) : Prop := ∀ ov iv, subscripted i false ov iv = operate [ov, iv] (getItem ov iv)
theorem subD_of {prog : Program} {w : World} {A : Around} {E : Value → Shared → Prop} {s : Shared} {env : Env} {value slice : Expr} {pos : Pos} {T id : String} {Q : Value → Shared → Prop}
    (hl : typeLookup (.type T) "__getitem__" = pure (some (.builtin id))) (hs : NoSl slice)
    (h : wpAny (model prog w) A (eval value env) (fun o s₁ => wpAny (model prog w) A (eval slice env) (fun i s₂ => s₂.TypeIs o T ∧ wpAny (model prog w) A (getItem o i) Q E s₂) E s₁) E s) :
    wpAny (model prog w) A (eval (.Subscript value slice pos) env) Q E s := by
  refine Subscript_ (wpAny_mono h (fun o s₁ h₁ => wpAny_mono h₁ (fun i s₂ h₂ => ?_) fun _ _ x => x) fun _ _ x => x)
  obtain ⟨hT, h₂⟩ := h₂
  unfold subscriptTail
  refine wpAny_bind ?_
  rw [getitemInPython_of_ne hT.not_modules]
  refine wpAny_bind (wpAny_specialOf hT hl ?_)
  have fin : wpAny (model prog w) A (subscripted slice false o i) (fun r s₃ => wpAny (model prog w) A (letTemporaryGo value o r >>= fun _ => pure r) Q E s₃) E s₂ := by
    rw [hs o i]
    exact wpAny_operating (wpAny_mono h₂ (fun r s₃ h₃ => wpAny_bind (wpAny_letTemporaryGo (wpAny_pure h₃))) fun _ _ x => x)
  first
    | exact wpAny_pure (wpAny_bind fin)
    | exact wpAny_bind (wpAny_pure (wpAny_bind fin))
    | exact wpAny_bind fin

theorem dict_typeIs {X : Cx} {pins : List (Addr × Obj)} {σ : St} {H : Hp} {s : Shared} {a : Addr} {y : V} {o : Option V} (I : Inv X pins σ H s) (g : DGet H a y o) : s.TypeIs (.ref a) "dict" := by
  rcases g with ⟨kvs, k, e, _, _⟩ | ⟨kvs, k, b, e, _, _, _⟩
  · obtain ⟨_, _, vs, _, dd⟩ := dk_rd I.hok e
    exact dd.typeIs
  · obtain ⟨_, _, xs, _, dd⟩ := dt_rd I.hok e
    exact dd.typeIs
noncomputable def tDGet (td ty : TE) : TE := fun σ H Q => td σ H fun x H1 => ty σ H1 fun y H2 => ∃ a v, x = .ref a ∧ DGet H2 a y (some v) ∧ Q v H2
noncomputable def sDPut (td ty tv : TE) : TS := fun D σ H => tv σ H fun v H1 => td σ H1 fun x H2 => ty σ H2 fun y H3 => ∃ a H4, x = .ref a ∧ DPut H3 a y v H4 ∧ D.nx σ H4
section
variable {X : Cx} {o i e value : Expr} {pos pos' tpos : Pos} {td ty tv : TE}
theorem pe_dget (hu : X.A.units + 1 < cLine) (ho : PE X o td) (hi : PE X i ty) (hs : NoSl i) : PE X (.Subscript o i pos) (tDGet td ty) := by
  intro pins s σ H Q I h
  refine subD_of PySem.F.slot_dict_getitem.lookup hs (thnE (ho pins s σ H _ I h) fun u s1 x H1 I1 rx q1 => thnE (hi pins s1 σ H1 _ I1 q1) fun iv s2 y H2 I2 ry ⟨a, v, ex, g, q2⟩ => ?_)
  subst ex
  obtain rfl : u = Value.ref a := rx
  exact ⟨dict_typeIs I2 g, d_getItem hu I2 g ry fun w' s3 I3 rw' => ⟨v, H2, I3, rw', q2⟩⟩
theorem ps_dput (hu : X.A.units + 1 < cLine) (ho : PE X o td) (hi : PE X i ty) (hv : PE X value tv) (hs : swapsWith value (some (.Subscript o i pos')) pos.line X.env = pure false) :
    PS X (.Assign [.Subscript o i pos'] value pos) (sDPut td ty tv) := by
  intro pins s σ H D I h
  refine wpAny_Assign_Subscript (thnE (hv pins s σ H _ I h) fun r s1 v H1 I1 rv q1 => thnE (ho pins s1 σ H1 _ I1 q1) fun u s2 x H2 I2 rx q2 => thnE (hi pins s2 σ H2 _ I2 q2) fun iv s3 y H3 I3 ry ⟨a, H4, ex, g, q3⟩ => ?_) hs
  subst ex
  obtain rfl : u = Value.ref a := rx
  exact d_setItem hu I3 g ry rv fun s4 I4 => ⟨σ, H4, I4, q3⟩
end


theorem dk_empty {P : Program} {w : World} {H : Hp} (h : Heap) (hb : sysModules < h.objs.size) : ObjOk P w H (h.push { cls := .type "dict", data := .dict #[] }) h.objs.size (.dK []) :=
  ⟨Nat.zero_le _, beq_eq_false_iff_ne.mpr (Ne.symm (Nat.ne_of_lt hb)), [], .nil, Heap.DictOf.new h⟩
noncomputable def tDNewK : TE := fun _ H Q => ∀ p, H p = none → Q (.ref p) (upd H p (.dK []))
section
variable {X : Cx} {pos : Pos}
theorem pe_dnewK : PE X (.Dict [] [] pos) tDNewK := fun pins s σ H Q I h =>
  wpAny_Dict_empty ⟨.ref s.heap.objs.size, _, I.laid (a := s.heap.objs.size) (o := .dK []) (t' := s.toks) (fun _ _ q => Heap.get?_push_of_some _ q) (Nat.le_refl _) (dk_empty s.heap I.big), rfl, h _ (I.hok.fresh (Nat.le_refl _))⟩
end

noncomputable def tPairs : List (TE × TE) → St → Hp → (List (V × V) → Hp → Prop) → Prop
  | [], _, H, Q => Q [] H
  | (tk, tv) :: r, σ, H, Q => tk σ H fun x H1 => tv σ H1 fun y H2 => tPairs r σ H2 fun ps H3 => Q ((x, y) :: ps) H3
noncomputable abbrev VV : List (V × V) → List (Value × Value) → Prop := Paired fun p q => RelV p.1 q.1 ∧ RelV p.2 q.2
noncomputable def PPs (X : Cx) (pos : Pos) (keys : List (Option Expr)) (values : List Expr) (trs : List (TE × TE)) : Prop :=
  ∀ (pins : List (Addr × Obj)) (s : Shared) (σ : St) (H : Hp) (Q : List (V × V) → Hp → Prop), Inv X pins σ H s → tPairs trs σ H Q →
    wpAny (model X.prog X.w) X.A (evalPairs (pairTrees keys values X.env pos)) (fun vs s' => ∃ ps H', Inv X pins σ H' s' ∧ VV ps vs ∧ Q ps H') X.xe s
theorem pps_nil {X : Cx} {pos : Pos} : PPs X pos [] [] [] := fun pins s σ H Q I h => pairTrees_nil_walk ⟨[], H, I, .nil, h⟩
theorem pps_cons {X : Cx} {pos : Pos} {k v : Expr} {ks : List (Option Expr)} {vs : List Expr} {tk tv : TE} {trs : List (TE × TE)} (hk : PE X k tk) (hv : PE X v tv) (hr : PPs X pos ks vs trs) :
    PPs X pos (some k :: ks) (v :: vs) ((tk, tv) :: trs) := fun pins s σ H Q I h =>
  pairTrees_cons_walk (thnE (hk pins s σ H _ I h) fun u s1 x H1 I1 rx q1 => thnE (hv pins s1 σ H1 _ I1 q1) fun w2 s2 y H2 I2 ry q2 =>
    thnE (hr pins s2 σ H2 _ I2 q2) fun ws s3 ps H3 I3 rel q3 => ⟨(x, y) :: ps, H3, I3, .cons ⟨rx, ry⟩ rel, q3⟩)

noncomputable def mergeK (kvs more : List (Key × V)) : List (Key × V) := more.foldl (fun acc kv => putK acc kv.1 kv.2) kvs
theorem KV.merge : ∀ {more : List (Key × V)} {rs : List (Key × Value)} {kvs : List (Key × V)} {vs : List (Key × Value)}, KV more rs → KV kvs vs → KV (mergeK kvs more) (merged vs rs) := by
  intro more rs kvs vs r
  unfold KV at r
  induction r generalizing kvs vs with
  | nil => intro q; exact q
  | @cons p q ps qs h t ih =>
    intro r0
    have e : KV (putK kvs p.1 p.2) (stored vs q.1 q.2) := by
      have := r0.put p.1 h.2
      rw [← h.1]; exact this
    exact ih e
theorem length_mergeK : ∀ (more kvs : List (Key × V)), (mergeK kvs more).length ≤ kvs.length + more.length
  | [], kvs => by show kvs.length ≤ kvs.length + 0; lia
  | p :: r, kvs => by
    have h1 := length_mergeK r (putK kvs p.1 p.2)
    have h2 := length_putK kvs p.1 p.2
    show (mergeK (putK kvs p.1 p.2) r).length ≤ _
    rw [List.length_cons]; lia
theorem carries_of {P : Program} {w : World} : ∀ {kvs : List (Key × V)} {ws : List (Value × Value)}, VV (kvs.map fun kv => (kV kv.1, kv.2)) ws → ∃ rs, Carries (mixKind P w) ws rs ∧ KV kvs rs
  | [], _, r => by rw [List.map_nil] at r; cases r; exact ⟨[], True.intro, .nil⟩
  | p :: kvs, _, r => by
    rw [List.map_cons] at r
    cases r with
    | @cons a b as bs h t =>
      obtain ⟨rs, c, q⟩ := carries_of (P := P) (w := w) t
      obtain ⟨b1, b2⟩ := b
      exact ⟨(p.1, b2) :: rs, ⟨kV_is h.1, rfl, c⟩, .cons ⟨rfl, h.2⟩ q⟩
noncomputable def tDisp (trs : List (TE × TE)) : TE := fun σ H Q => ∀ p, H p = none → tPairs trs σ (upd H p (.dK [])) fun ps H2 => H2 p = some (.dK []) ∧ ∃ kvs : List (Key × V), ps = kvs.map (fun kv => (kV kv.1, kv.2)) ∧ kvs.length ≤ 15 ∧ Q (.ref p) (upd H2 p (.dK (mergeK [] kvs)))
theorem pe_disp {X : Cx} {pos : Pos} {keys : List (Option Expr)} {values : List Expr} {trs : List (TE × TE)} (h : PPs X pos keys values trs) (hall : keys.all (·.isSome) = true) (hl : keys.length = values.length) (h0 : keys ≠ [])
    (h15 : keys.length ≤ 15) : PE X (.Dict keys values pos) (tDisp trs) := by
  intro pins s σ H Q I q
  have hn := I.hok.fresh (Nat.le_refl s.heap.objs.size)
  have I1 := I.laid (a := s.heap.objs.size) (o := .dK []) (h' := s.heap.push { cls := .type "dict", data := .dict #[] }) (t' := s.toks) (fun _ _ q => Heap.get?_push_of_some _ q) (Nat.le_refl _) (dk_empty s.heap I.big)
  refine wpAny_Dict_walk (knd := mixKind X.prog X.w) hall hl h0 h15 (thnE (h pins _ σ _ _ I1 (q _ hn)) fun ws s2 ps H2 I2 rel ⟨e, kvs, ep, lk, q2⟩ => ?_)
  subst ep
  obtain ⟨rs, c, rk⟩ := carries_of (P := X.prog) (w := X.w) rel
  obtain ⟨z, hd, vs0, r0, dd⟩ := dk_of I2.hok e
  cases r0
  refine ⟨rs, c, dd, fun h' dd' hs => ⟨.ref s.heap.objs.size, _, ?_, rfl, q2⟩⟩
  have hz : (mergeK [] kvs).length ≤ sizeLine := by
    have h1 := length_mergeK kvs []
    rw [List.length_nil] at h1
    rw [sizeLine_eq]; lia
  have he : ∃ q, h'.get? s.heap.objs.size = some q := let ⟨q, _, _, hq, _⟩ := dd'; ⟨q, hq⟩
  exact d_write I2 (by rw [e]; exact True.intro) hs he (dk_new hz hd (rk.merge .nil) dd')


structure M2 (X : Cx) (o : Expr) (m : Str) (apos : Pos) (e f : Expr) (cpos : Pos) : Prop where
  base : attributeBase o m X.env (eval o X.env) = eval o X.env
  few : ((backTo cpos (starEach [e, f] X.env)).all (fun x => !x.1) && (backToKw cpos (keywordEach [] X.env)).all (fun x => x.1.isSome)
    && decide (([e, f] : List Expr).length + ([] : List Keyword).length + (if ([] : List Keyword).isEmpty then 0 else 1) < 30)) = true
  line : (apos.endLine == cpos.line) = true
  trees : backTo cpos (starEach [e, f] X.env) = [(false, eval e X.env), (false, eval f X.env)]

noncomputable def IsD (H : Hp) (a : Addr) : Prop := (∃ kvs, Rd H a (.dK kvs)) ∨ ∃ kvs, Rd H a (.dT kvs)
theorem isD_at {X : Cx} {pins : List (Addr × Obj)} {σ : St} {H : Hp} {s : Shared} {a : Addr} (I : Inv X pins σ H s) (d : IsD H a) :
    s.TypeIs (.ref a) "dict" ∧ (∀ b, Value.ref a = .ref b → ∃ ob, s.heap.get? b = some ob ∧ ob.dict = none) ∧ (a == sysModules) = false := by
  rcases d with ⟨kvs, e⟩ | ⟨kvs, e⟩
  · obtain ⟨_, hd, vs, _, dd⟩ := dk_rd I.hok e
    refine ⟨dd.typeIs, fun b q => ?_, hd⟩
    cases q
    obtain ⟨ob, _, _, h1, h2, _⟩ := dd
    exact ⟨ob, h1, h2.2.1⟩
  · obtain ⟨_, hd, xs, _, dd⟩ := dt_rd I.hok e
    refine ⟨dd.typeIs, fun b q => ?_, hd⟩
    cases q
    obtain ⟨ob, _, _, h1, h2, _⟩ := dd
    exact ⟨ob, h1, h2.2.1⟩

section
variable {X : Cx} {pins : List (Addr × Obj)} {σ : St} {H : Hp} {s : Shared} {a : Addr} {y d : V} {u r : Value} {o : Option V} {A : Around} {E : Value → Shared → Prop}
theorem d_get2 {Q : Value → Shared → Prop} (hu : A.units + 1 < cLine) (I : Inv X pins σ H s) (g : DGet H a y o) (ry : RelV y u) (rd : RelV d r) (h : ∀ w' s', Inv X pins σ H s' → RelV (o.getD d) w' → Q w' s') :
    wpAny (model X.prog X.w) A (call (.builtin "dict.get") [.ref a, u, r]) Q E s := by
  rcases g with ⟨kvs, k, e, ey, l⟩ | ⟨kvs, k, b, e, ey, eb, l⟩
  · subst ey
    obtain ⟨z, hd, vs, rel, dd⟩ := dk_rd I.hok e
    refine call_meetsIn PySem.F.slot_dict_get dd.typeIs PySem.F.entry_dict_get (PySem.F.args_dict_get_3 _ _ _) (meets_dict_get_default (mixKind X.prog X.w) a (kV_is ry) hd r) ⟨_, dd.mapOf, h _ _ (I.tok _) ?_⟩
    rw [l]
    exact (rel.val k).getD rd
  · subst ey
    cases (show u = Value.ref b from ry)
    obtain ⟨z, hd, xs, rel, dd⟩ := dt_rd I.hok e
    refine call_meetsIn PySem.F.slot_dict_get dd.typeIs PySem.F.entry_dict_get (PySem.F.args_dict_get_3 _ _ _) (meetsH_dict_get_default (tupleKind (mixKind X.prog X.w)) a b hd r) ⟨tupleKind_room_in1 hu, k, xs, key_of I.hok eb, dd, h _ _ (I.tok _) ?_⟩
    rw [l]
    exact (rel.val k).getD rd
end

noncomputable def tDGet2 (td ty tx : TE) : TE := fun σ H Q => td σ H fun x H1 => ∃ a, x = .ref a ∧ IsD H1 a ∧ ty σ H1 fun y H2 => tx σ H2 fun z H3 => ∃ o, DGet H3 a y o ∧ Q (o.getD z) H3
section
variable {X : Cx} {o e f : Expr} {apos cpos : Pos} {td ty tx : TE}
theorem pe_dget2 (hu : X.A.units + 1 < cLine) (ho : PE X o td) (he : PE X e ty) (hf : PE X f tx) (m : M2 X o "get" apos e f cpos) : PE X (.Call (.Attribute o "get" apos) [e, f] [] cpos) (tDGet2 td ty tx) := by
  intro pins s σ H Q I h
  refine wpAny_Call_method m.base m.few m.line PySem.F.plainAttrs_dict PySem.F.slot_dict_get PySem.F.type_dict_get (thnE (ho pins s σ H _ I h) fun u s1 x H1 I1 rx ⟨a, ex, d, q1⟩ => ?_)
  subst ex
  obtain rfl : u = Value.ref a := rx
  obtain ⟨t1, t2, _⟩ := isD_at I1 d
  refine ⟨t1, t2, ?_⟩
  rw [m.trees]
  refine Calls.callWith_builtin rfl (Calls.evalArgs_plain (Calls.spliced_cons (thnE (he pins s1 σ H1 _ I1 q1) fun iv s2 y H2 I2 ry q2 =>
    Calls.spliced_cons (thnE (hf pins s2 σ H2 _ I2 q2) fun fv s3 z H3 I3 rz ⟨ov, g, q3⟩ => Calls.spliced_nil ?_))))
  exact d_get2 hu I3 g ry rz fun w' s4 I4 rw' => ⟨_, H3, I4, rw', q3⟩
end

section
variable {X : Cx} {pins : List (Addr × Obj)} {σ : St} {H : Hp} {s : Shared} {a : Addr} {kvs : List (Key × V)} {A : Around} {E : Value → Shared → Prop}
end


section
variable {X : Cx} {pins : List (Addr × Obj)} {σ : St} {H : Hp} {s : Shared} {a : Addr} {y : V} {u : Value} {A : Around} {E : Value → Shared → Prop}
end
end L2

namespace L2
open PySem PySem.Spec PyProof.Rows
section
variable {X : Cx}
end
section
variable {κ : Type} [DecidableEq κ]
end
end L2
namespace L2
open PySem PySem.Spec PyProof.Rows
theorem rel_key {k : Key} {v : Value} (h : keyIs k v = true) : RelV (kV k) v := by
  rcases keyIs_shape h with ⟨i, t, rfl, rfl⟩ | ⟨x, t, rfl, rfl⟩ <;> exact ⟨_, rfl⟩
theorem KV.at {kvs : List (Key × V)} {vs : List (Key × Value)} (r : KV kvs vs) : ∀ {i : Nat} {p : Key × V}, kvs[i]? = some p → ∃ u, vs[i]? = some (p.1, u) ∧ RelV p.2 u := by
  unfold KV at r
  induction r with
  | nil => intro i p e; simp at e
  | @cons a b as bs h t ih =>
    intro i p e
    cases i with
    | zero =>
      simp at e
      subst e
      exact ⟨b.2, by rw [h.1]; rfl, h.2⟩
    | succ i => simpa using ih (i := i) (p := p) (by simpa using e)
section
variable {X : Cx} {pins : List (Addr × Obj)} {σ : St} {H : Hp} {s : Shared} {a : Addr} {o : Obj} {kvs : List (Key × V)}
theorem Inv.freeze (I : Inv X pins σ H s) (e : H a = some (.dK kvs)) (ho : s.heap.get? a = some o) : Inv X pins σ (upd H a (.frz o (.dK kvs))) s :=
  I.write (x := a) (e := a) (t' := s.toks) (h' := s.heap) (by rw [e]; trivial) (.inl rfl) (fun b q _ z => z) ⟨o, ho⟩ ⟨ho, I.hok a _ e⟩
theorem Inv.thaw (I : Inv X pins σ H s) (e : H a = some (.frz o (.dK kvs))) (hb : ∀ o u, X.H₀ a ≠ some (.frz o u)) : Inv X pins σ (upd H a (.dK kvs)) s := by
  have ne : ∀ b, H b = none → b ≠ a := fun b n z => by rw [z, e] at n; cases n
  refine ⟨I.ok, I.os, I.bare, ⟨I.base.keep, I.base.slot, fun b ob q n hx => ?_, I.base.there, fun b xs q => ?_, fun b ob u q => ?_, fun b ps q => ?_⟩, I.loc, I.cell, ?_, fun x c q => ?_, fun p hp => ?_, fun b u q => ?_, I.len⟩
  · have := I.base.free b ob q n hx
    rw [upd_ne (ne b this)]; exact this
  · have q' := I.base.tups b xs q
    rw [upd_ne (fun z => by rw [z, e] at q'; cases q')]; exact q'
  · have q' := I.base.frzs b ob u q
    rw [upd_ne (fun z => hb ob u (by rw [← z]; exact q))]; exact q'
  · obtain ⟨m, q'⟩ := I.base.tbls b ps q
    exact ⟨m, by rw [upd_ne (fun z => by rw [z, e] at q'; cases q')]; exact q'⟩
  · rw [upd_ne (ne _ I.free)]; exact I.free
  · rw [upd_ne (ne _ (I.freeC x c q))]; exact I.freeC x c q
  · obtain ⟨h1, h2, h3⟩ := I.pin p hp
    exact ⟨h1, by rw [upd_ne (ne _ h2)]; exact h2, h3⟩
  · by_cases hba : b = a
    · subst hba
      rw [upd_same] at q
      cases q
      exact (I.hok b _ e).2
    · rw [upd_ne hba] at q
      refine (I.hok b u q).stay (fun _ _ _ z => z) (fun c z => ?_) fun c xs z => ?_
      · rw [upd_ne (fun y => by rw [y, e] at z; cases z)]; exact z
      · rw [upd_ne (fun y => by rw [y, e] at z; cases z)]; exact z
inductive tThaw (H₀ : Hp) (u : TS) (D : Ends) (σ : St) (H : Hp) : Prop
  | mk : ∀ a o kvs, (H a = some (.frz o (.dK kvs))) → ((∀ o u, H₀ a ≠ some (.frz o u))) → (u D σ (upd H a (.dK kvs))) → tThaw H₀ u D σ H
theorem pss_thaw {rest : List Stmt} {u : TS} (h : PSs X rest u) : PSs X rest (tThaw X.H₀ u) := fun pins s σ H D I q => by
  obtain ⟨a, o, kvs, e, hb, q⟩ := q
  exact h pins s σ _ D (I.thaw e hb) q
end
noncomputable def Itd (a : Addr) (o : Obj) (kvs : List (Key × V)) : It :=
  ⟨fun i H => H a = some (.frz o (.dK kvs)) ∧ i < kvs.length, fun i H x H' => H' = H ∧ ∃ k v, kvs[i]? = some (k, v) ∧ x = kV k, fun i H => H a = some (.frz o (.dK kvs)) ∧ kvs.length ≤ i⟩
theorem turn_dict {P : Program} {w : World} {K : PySem.W.Frag} {tg : Expr} {a it : Addr} {o : Obj} {kvs : List (Key × V)} {vs : List (Key × Value)} {ep : Nat} (rel : KV kvs vs)
    (da : ∀ h : Heap, h.get? a = some o → h.DictAt (mixKind P w) a vs ep) : Turn P w K tg (Itd a o kvs) [it] it (fun i h => h.IsKeyIter it a i vs.length ep) where
  mem := by simp
  obj := fun i h st b hb => by
    have e : b = it := by simpa using hb
    subst e
    obtain ⟨o, e, c, d⟩ := st
    exact ⟨o, e, fun v z => by rw [d] at z; cases z⟩
  keep := fun i h h' st k => st.at fun o e => k it (by simp) o e
  item := by
    intro X hP hw hK hc i pins s σ H E I hf st hg
    subst hP hw hK
    obtain ⟨hq, hi⟩ := hg
    obtain ⟨f0, f1, f2, f3, f4, f5⟩ := hf it (by simp)
    have hx : kvs[i]? = some kvs[i] := by simp [hi]
    obtain ⟨u, hu, ru⟩ := rel.at hx
    refine wpAny_pyNext_dict_item st (da _ (I.hok a _ hq).1) hu fun key h' hk st' sb => ?_
    have I1 : Inv X pins σ H { s with heap := h' } := I.turned (t' := s.toks) (fun b o hb e => (sb.2 b hb).trans e) f0 f1 f3 f4 f5
    obtain ⟨oi, e, c, d⟩ := id st'
    exact ⟨key, rfl, go_of (s := { s with heap := h' }) e c d (by decide) ⟨kV (kvs[i]).1, H, I1, rel_key hk, ⟨rfl, (kvs[i]).1, (kvs[i]).2, hx, rfl⟩, st', fun b hb => (hf b hb).1⟩⟩
  done := by
    intro X hP hw hK hc i pins s σ H E I hf st hg
    subst hP hw hK
    obtain ⟨hq, hi⟩ := hg
    obtain ⟨f0, f1, f2, f3, f4, f5⟩ := hf it (by simp)
    have hl := rel.length
    exact wpAny_pyNext_dict_end (I.ok.hd hc) st (da _ (I.hok a _ hq).1) (by simp; lia) fun h' eb => ⟨rfl, I.turned (t' := s.toks) (fun b o hb e => eb b o hb e) f0 f1 f3 f4 f5⟩
  self := fun _ _ _ _ _ st h => wpAny_pyIter_keyiter st h
noncomputable def iDict (tl : TE) : TI := fun σ H R => tl σ H fun x H1 => ∃ a kvs, x = .ref a ∧ H1 a = some (.dK kvs) ∧ ∀ o, R (Itd a o kvs) (upd H1 a (.frz o (.dK kvs)))
theorem pi_dict {X : Cx} {tg l : Expr} {tl : TE} (hl : PE X l tl) : PI X tg l (iDict tl) := by
  intro pins s σ H R I h
  refine thnE (hl pins s σ H _ I h) fun v s1 x H1 I1 r1 q1 => ?_
  obtain ⟨a, kvs, e, he, q⟩ := q1
  subst e
  cases r1
  obtain ⟨z, hd, vs, rel, o, es, ep, ho, dd⟩ := dk_of I1.hok he
  refine wpAny_pyIter_dict hd (ep := ep) ⟨o, es, ho, dd⟩ ?_
  have I2 := I1.freeze he ho
  refine ⟨s1.heap.objs.size, [s1.heap.objs.size], _, _, _, rfl, I2.kept (t' := s1.toks) fun b o e => Heap.get?_push_of_some _ e, turn_dict (ep := ep) rel fun h e => ⟨o, es, e, dd⟩, ⟨_, Heap.get?_push_size _ rfl, rfl, rfl⟩, fun b hb => ?_, q o⟩
  have e : b = s1.heap.objs.size := by simpa using hb
  subst e
  exact I2.fpOk (Nat.le_refl _) (I2.hok.fresh (Nat.le_refl _))
theorem for_dict {a : Addr} {o : Obj} {kvs : List (Key × V)} {g : TG} {tb : TS} {D : Ends} {σ : St} {H : Hp} (Pv : Nat → St → Hp → Prop) (h0 : Pv 0 σ H) (hl : ∀ i σ H, i ≤ kvs.length → Pv i σ H → H a = some (.frz o (.dK kvs)))
    (hs : ∀ i k v σ H, kvs[i]? = some (k, v) → Pv i σ H → g (kV k) σ H fun σ2 H2 => tb { D with nx := Pv (i + 1), ct := Pv (i + 1), bk := D.nx } σ2 H2) (hd : ∀ σ H, Pv kvs.length σ H → D.nx σ H) :
    ∃ W : Nat → Nat → St → Hp → Prop, (∃ m, W 0 m σ H) ∧ ∀ i m σ H, W i m σ H →
      ((Itd a o kvs).stop i H ∧ D.nx σ H) ∨ ((Itd a o kvs).go i H ∧ ∃ N : St → Hp → Prop, (∀ σ' H', N σ' H' → ∃ m', m' < m ∧ W (i + 1) m' σ' H') ∧ ∀ x H', (Itd a o kvs).yld i H x H' → g x σ H' fun σ2 H2 => tb { D with nx := N, ct := N, bk := D.nx } σ2 H2) := by
  refine ⟨fun i m σ H => m = kvs.length - i ∧ i ≤ kvs.length ∧ Pv i σ H, ⟨kvs.length, by simp, Nat.zero_le _, h0⟩, ?_⟩
  rintro i m σ H ⟨rfl, hi, p⟩
  have q := hl i σ H hi p
  by_cases hlt : i < kvs.length
  · refine .inr ⟨⟨q, hlt⟩, Pv (i + 1), fun σ' H' p' => ⟨kvs.length - (i + 1), by lia, rfl, hlt, p'⟩, fun x H' y => ?_⟩
    obtain ⟨e, k, v, hk, rfl⟩ := y
    subst e
    exact hs i k v σ _ hk p
  · have e : i = kvs.length := by lia
    subst e
    exact .inl ⟨⟨q, Nat.le_refl _⟩, hd σ H p⟩
end L2
namespace L2
open PySem PySem.Spec PyProof.Rows
noncomputable def Iti (a : Addr) (o : Obj) (kvs : List (Key × V)) : It :=
  ⟨fun i H => H a = some (.frz o (.dK kvs)) ∧ i < kvs.length, fun i H v H' => ∃ t k x, v = .ref t ∧ H t = none ∧ kvs[i]? = some (k, x) ∧ H' = upd H t (.tup [kV k, x]), fun i H => H a = some (.frz o (.dK kvs)) ∧ kvs.length ≤ i⟩
theorem turn_items {P : Program} {w : World} {K : PySem.W.Frag} {elts : List Expr} {x1} {pos : Pos} {a it : Addr} {o : Obj} {kvs : List (Key × V)} {vs : List (Key × Value)} {ep : Nat} (rel : KV kvs vs)
    (da : ∀ h : Heap, h.get? a = some o → h.DictAt (mixKind P w) a vs ep) : Turn P w K (.Tuple elts x1 pos) (Iti a o kvs) [it] it (fun i h => ∃ ok ov, IsItemIter h it a i vs.length ep ok ov) where
  mem := by simp
  obj := fun i h st b hb => by
    obtain ⟨ok, ov, h1⟩ := st
    have e : b = it := by simpa using hb
    subst e
    exact ⟨_, h1, fun v z => by cases z⟩
  keep := fun i h h' st k => by
    obtain ⟨ok, ov, h1⟩ := st
    exact ⟨ok, ov, k it (by simp) _ h1⟩
  item := by
    intro X hP hw hK hc i pins s σ H E I hf st hg
    subst hP hw hK
    obtain ⟨ok, ov, h1⟩ := st
    obtain ⟨hq, hi⟩ := hg
    have hx : kvs[i]? = some kvs[i] := by simp [hi]
    obtain ⟨u, hu, ru⟩ := rel.at hx
    have e1 := Heap.lt_size h1
    refine wpAny_pyNext_items_item h1 (da _ (I.hok a _ hq).1) hu fun key h' hk g1 g3 gz g5 => ⟨_, rfl, ?_⟩
    refine wpAny_letOwnedTupleGo_items g1 fun h2' g6 g7 => ?_
    have kk : ∀ b o, b ∉ [it] → s.heap.get? b = some o → h2'.get? b = some o := fun b o hb q => g7.extBut b o (fun z => hb (by simp [z])) (g5 b o (fun z => hb (by simp [z])) q)
    have tT : h2'.get? s.heap.objs.size = some { cls := .type "tuple", data := .seq #[key, u] } := g7.extBut _ _ (Nat.ne_of_gt e1) g3
    have I1 := I.turnedNew (t' := s.toks) (T := s.heap.objs.size) (o := .tup [kV (kvs[i]).1, (kvs[i]).2]) kk hf (Nat.le_refl _) ⟨by show 2 ≤ sizeLine; decide, [key, u], .cons (rel_key hk) (.cons ru .nil), ⟨_, tT, rfl, _, rfl⟩⟩
    have hn : H s.heap.objs.size = none := I.hok.fresh (Nat.le_refl _)
    refine ⟨.ref s.heap.objs.size, _, I1, rfl, ⟨_, _, _, rfl, hn, hx, rfl⟩, ⟨_, _, g6⟩, fun b hb => ?_⟩
    obtain ⟨f0, _⟩ := hf b hb
    have e : b = it := by simpa using hb
    subst e
    rw [upd_ne (Nat.ne_of_lt e1)]; exact f0
  done := by
    intro X hP hw hK hc i pins s σ H E I hf st hg
    subst hP hw hK
    obtain ⟨ok, ov, h1⟩ := st
    obtain ⟨hq, hi⟩ := hg
    have hl := rel.length
    exact wpAny_pyNext_items_end (I.ok.hd hc) h1 (da _ (I.hok a _ hq).1) (by simp; lia) fun h' eb => ⟨rfl, I.turnedL (t' := s.toks) (ch := [it]) (fun b o hb q => eb b o (fun z => hb (by simp [z])) q) hf⟩
  self := fun _ _ _ _ _ st h => by
    obtain ⟨ok, ov, h1⟩ := st
    have hT : Shared.TypeIs _ (.ref it) "dict_itemiterator" := ⟨_, h1, rfl⟩
    refine wpAny_pyIter_slot hT PySem.F.slot_dict_itemiterator_iter (wpAny_call_entry PySem.F.slot_dict_itemiterator_iter hT PySem.W.kcp_entry ?_ (PySem.F.args_dict_itemiterator_iter_1 _))
    show wpAny _ _ (ret (.ref it)) _ _ _
    exact wpAny_pure ⟨_, rfl, "dict_itemiterator", _, hT, PySem.F.slot_dict_itemiterator_next.lookup, h⟩
noncomputable def iItems (tl : TE) : TI := fun σ H R => tl σ H fun x H1 => ∃ a kvs, x = .ref a ∧ H1 a = some (.dK kvs) ∧ ∀ o, R (Iti a o kvs) (upd H1 a (.frz o (.dK kvs)))
theorem pi_items {X : Cx} {o : Expr} {td : TE} {elts : List Expr} {x1} {apos cpos tpos : Pos} (ho : PE X o td) (hbase : attributeBase o "items" X.env (eval o X.env) = eval o X.env := by rfl) (hline : (apos.endLine == cpos.line) = true := by rfl) :
    PI X (.Tuple elts x1 tpos) (.Call (.Attribute o "items" apos) [] [] cpos) (iItems td) := by
  intro pins s σ H R I h
  refine wpAny_Call_method0_late hbase hline (thnE (ho pins s σ H _ I h) fun v s1 x H1 I1 r1 ⟨a, kvs, ex, he, q⟩ => ?_)
  subst ex
  obtain rfl : v = Value.ref a := r1
  obtain ⟨t1, t2, _⟩ := isD_at I1 (.inl ⟨kvs, .inl he⟩)
  obtain ⟨z, hd, vs, rel, dd⟩ := dk_of I1.hok he
  refine ⟨"dict", "dict.items", PySem.F.plainAttrs_dict, PySem.F.slot_dict_items, PySem.F.type_dict_items, t1, t2, Calls.callWith_builtin rfl (PySem.evalArgs_none ?_)⟩
  refine call_meetsIn PySem.F.slot_dict_items dd.typeIs PySem.F.entry_dict_items (PySem.F.args_dict_items_1 _) (meets_dict_items (mixKind X.prog X.w) a hd) ⟨⟨_, dd⟩, ?_⟩
  have I2 := I1.kept (t' := s1.toks) (h' := s1.heap.push { cls := .type "dict_items", data := .fields #[.ref a] }) fun b o e => Heap.get?_push_of_some _ e
  obtain ⟨ob, es, ep, hob, rest⟩ := dd
  have hob2 := Heap.get?_push_of_some { cls := .type "dict_items", data := .fields #[.ref a] } hob
  have I3 := I2.freeze he hob2
  show wpAny _ _ (pyIter (.ref s1.heap.objs.size)) _ _ _
  refine wpAny_pyIter_items (d := a) (kvs := vs) (ep := ep) ⟨_, Heap.get?_push_size _ rfl, rfl, rfl⟩ ⟨ob, es, hob2, rest⟩ ?_
  refine ⟨_, [_], _, _, _, rfl, I3.kept (t' := s1.toks) fun b o e => Heap.get?_push_of_some _ e, turn_items (ep := ep) rel fun h e => ⟨ob, es, e, rest⟩, ⟨_, _, Heap.get?_push_size _ rfl⟩, fun b hb => ?_, q ob⟩
  have e := List.mem_singleton.mp hb
  subst e
  exact I3.fpOk (Nat.le_refl _) (I3.hok.fresh (Nat.le_refl _))
end L2
namespace L2
open PySem PySem.Spec PyProof.Rows
theorem comp_items {a : Addr} {o : Obj} {kvs : List (Key × V)} {G : V → Hp → (List V → Hp → Prop) → List V → Prop} {Fin : List V → Hp → Prop} {H : Hp} (Pv : Nat → List V → Hp → Prop) (h0 : Pv 0 [] H) (hl : ∀ i ys H, i ≤ kvs.length → Pv i ys H → H a = some (.frz o (.dK kvs)))
    (hz : ∀ i ys H, i < kvs.length → Pv i ys H → ys.length < sizeLine) (hs : ∀ i k v ys H t, kvs[i]? = some (k, v) → Pv i ys H → H t = none → G (.ref t) (upd H t (.tup [kV k, v])) (Pv (i + 1)) ys) (hd : ∀ ys H, Pv kvs.length ys H → Fin ys H) :
    ∃ W : Nat → Nat → List V → Hp → Prop, (∃ m, W 0 m [] H) ∧ ∀ i m ys H, W i m ys H →
      ((Iti a o kvs).stop i H ∧ Fin ys H) ∨ ((Iti a o kvs).go i H ∧ ys.length < sizeLine ∧ ∃ Nx : List V → Hp → Prop, (∀ ys' H', Nx ys' H' → ∃ m', m' < m ∧ W (i + 1) m' ys' H') ∧ ∀ x H', (Iti a o kvs).yld i H x H' → G x H' Nx ys) := by
  refine ⟨fun i m ys H => m = kvs.length - i ∧ i ≤ kvs.length ∧ Pv i ys H, ⟨kvs.length, by simp, Nat.zero_le _, h0⟩, ?_⟩
  rintro i m ys H ⟨rfl, hi, p⟩
  have q := hl i ys H hi p
  by_cases hlt : i < kvs.length
  · refine .inr ⟨⟨q, hlt⟩, hz i ys H hlt p, Pv (i + 1), fun ys' H' p' => ⟨kvs.length - (i + 1), by omega, rfl, hlt, p'⟩, fun x H' y => ?_⟩
    obtain ⟨t, k, v, rfl, ht, hk, rfl⟩ := y
    exact hs i k v ys H t hk p ht
  · have e : i = kvs.length := by omega
    subst e
    exact .inl ⟨⟨q, Nat.le_refl _⟩, hd ys H p⟩
end L2
namespace Srt
open PySem PyProof.Rows
structure Ok (a₀ : Array Keyed) (p : Array (Nat × Nat × Nat)) (st : SortSt) : Prop where
  perm : (arrOf st).Perm a₀
  kind : kindOf st = oneType'
  failed : failedOf st = none
  pend : pendingOf st = p
noncomputable abbrev IntK (x : Keyed) : Prop := ∃ n t, x.1 = .int n t
section
variable {prog : Program} {w : World} {A : Around} {E : Value → Shared → Prop} {s : Shared} {a₀ : Array Keyed} {p : Array (Nat × Nat × Nat)} {st : SortSt}
theorem Ok.size (h : Ok a₀ p st) : (arrOf st).size = a₀.size := h.perm.size_eq
theorem Ok.set (h : Ok a₀ p st) {xs : Array Keyed} (hp : xs.Perm (arrOf st)) : Ok a₀ p (setArr st xs) := ⟨hp.trans h.perm, h.kind, h.failed, h.pend⟩
theorem Ok.keys (h : Ok a₀ p st) (h0 : IntKeys a₀) : IntKeys (arrOf st) := fun x hx => h0 x ((Array.perm_iff_toList_perm.mp h.perm).mem_iff.mp hx)
theorem keys_at {xs : Array Keyed} (h : IntKeys xs) {i : Nat} (hi : i < xs.size) : IntK xs[i] := h _ (by simp)
theorem wpS_lt {x y : Keyed} {Q : Option Bool → SortSt → Prop} (hk : kindOf st = oneType') (hx : IntK x) (hy : IntK y) (h : ∀ r, Q (some r) st) : wpS (model prog w) A E s (lt' x y) Q st := by
  obtain ⟨a, t, hx⟩ := hx
  obtain ⟨b, u, hy⟩ := hy
  rw [lt'_eq]
  refine wpS_bind (wpS_get ?_)
  rw [hk, keyLt'_oneType, hx, hy]
  refine wpS_bind (wpS_lift (wpAny_attempt (oneLt_int ⟨rfl, ?_⟩)))
  exact wpS_pure (h _)
theorem wpS_elem {arr : Array Keyed} {i : Nat} {Q : Keyed → SortSt → Prop} (hi : i < arr.size) (h : Q arr[i] st) : wpS (model prog w) A E s (elem' arr i) Q st := by
  rw [elem'_eq, getElem?_pos arr i hi]
  exact wpS_pure h
theorem wpS_ltP {i j : Nat} {Q : Option Bool → SortSt → Prop} (ok : Ok a₀ p st) (h0 : IntKeys a₀) (hi : i < a₀.size) (hj : j < a₀.size) (h : ∀ r, Q (some r) st) : wpS (model prog w) A E s (ltAt' i j) Q st := by
  rw [ltAt'_eq]
  refine wpS_bind (wpS_get ?_)
  have sz := ok.size
  have hk := ok.keys h0
  exact wpS_bind (wpS_elem (by lia) (wpS_bind (wpS_elem (by lia) (wpS_lt ok.kind (keys_at hk _) (keys_at hk _) h))))
theorem wpS_rev {i j : Nat} {Q : Unit → SortSt → Prop} (ok : Ok a₀ p st) (h : ∀ st', Ok a₀ p st' → Q () st') : wpS (model prog w) A E s (reverseSlice' i j) Q st := by
  rw [reverseSlice'_eq]
  exact wpS_modify (h _ (ok.set (mirror_perm _ _ _ _)))
theorem wpS_down {i j : Nat} {Q : Unit → SortSt → Prop} (ok : Ok a₀ p st) (h : ∀ st', Ok a₀ p st' → Q () st') : wpS (model prog w) A E s (moveDown' i j) Q st := by
  rw [moveDown'_eq]
  exact wpS_modify (h _ (ok.set (bubble_perm _ _ _)))
theorem wpS_count {lo nrem : Nat} {Q : Option Nat → SortSt → Prop} (h0 : IntKeys a₀) (hn : lo + nrem ≤ a₀.size) (h1 : 1 ≤ nrem) (ok : Ok a₀ p st)
    (h : ∀ m st', Ok a₀ p st' → 1 ≤ m → m ≤ nrem → Q (some m) st') : wpS (model prog w) A E s (countRun' lo nrem) Q st := by
  rw [countRun'_eq]
  refine wpS_bind (wpS_mono (wpS_forRange (I := fun x c st' => c = (none, x) ∧ Ok a₀ p st') (Q := fun c st' => ∃ n, c = (none, n) ∧ 1 ≤ n ∧ n ≤ nrem ∧ Ok a₀ p st') ?step ?fin ⟨rfl, ok⟩) ?post)
  case step =>
    rintro x c st' hx1 hx2 ⟨rfl, ok'⟩
    refine wpS_bind (wpS_ltP ok' h0 (by lia) (by lia) fun r => ?_)
    cases r with
    | true => exact wpS_pure ⟨x, rfl, hx1, by lia, ok'⟩
    | false => exact wpS_pure ⟨rfl, ok'⟩
  case fin =>
    rintro c st' ⟨rfl, ok'⟩
    exact ⟨max 1 nrem, rfl, by lia, by lia, ok'⟩
  case post =>
    rintro c st' ⟨n, rfl, hn1, hn2, ok'⟩
    dsimp only
    by_cases hnn : n = nrem
    · rw [if_pos (by simpa using hnn)]
      exact wpS_pure (h n _ ok' hn1 hn2)
    · rw [if_neg (by simpa using hnn)]
      by_cases hgt : n > 1
      · rw [if_pos hgt]
        refine wpS_bind (wpS_ltP ok' h0 (by lia) (by lia) fun r => ?_)
        cases r with
        | true => exact wpS_pure (h n _ ok' hn1 hn2)
        | false =>
          dsimp only
          rw [if_neg Bool.false_ne_true]
          refine wpS_bind (wpS_rev ok' fun st4 ok4 => ?_)
          refine wpS_bind (wpS_lift (wpAny_rule ⟨rfl, ?_⟩))
          refine wpS_bind (wpS_mono (wpS_forRange (I := fun x c st' => (∃ q, c = (none, x, q)) ∧ Ok a₀ p st') (Q := fun c st' => ∃ m q, c = (none, m, q) ∧ 1 ≤ m ∧ m ≤ nrem ∧ Ok a₀ p st') ?_ ?_ ⟨⟨0, rfl⟩, ok4⟩) ?_)
          · rintro x c st' hx1 hx2 ⟨⟨q, rfl⟩, ok'⟩
            dsimp only
            refine wpS_bind (wpS_ltP ok' h0 (by lia) (by lia) fun r => ?_)
            cases r with
            | true =>
              dsimp only
              by_cases hq : q > 0
              · rw [if_pos rfl, if_pos hq]
                exact wpS_bind (wpS_rev ok' fun st2 ok2 => wpS_pure ⟨⟨0, rfl⟩, ok2⟩)
              · rw [if_pos rfl, if_neg hq]
                exact wpS_pure ⟨⟨0, rfl⟩, ok'⟩
            | false =>
              dsimp only
              rw [if_neg Bool.false_ne_true]
              refine wpS_bind (wpS_ltP ok' h0 (by lia) (by lia) fun r => ?_)
              cases r with
              | true => exact wpS_pure ⟨x, q, rfl, by lia, by lia, ok'⟩
              | false => exact wpS_pure ⟨⟨q + 1, rfl⟩, ok'⟩
          · rintro c st' ⟨⟨q, rfl⟩, ok'⟩
            exact ⟨_, q, rfl, by lia, by lia, ok'⟩
          · rintro c st' ⟨m, q, rfl, hm1, hm2, ok2⟩
            dsimp only
            by_cases hq : q > 0
            · rw [if_pos hq]
              refine wpS_bind (wpS_rev ok2 fun st3 ok3 => ?_)
              refine wpS_bind (wpS_rev ok3 fun stY okY => ?_)
              refine wpS_bind (wpS_mono (wpS_forRange (I := fun x c st' => c = (none, x) ∧ Ok a₀ p st') (Q := fun c st' => ∃ n, c = (none, n) ∧ 1 ≤ n ∧ n ≤ nrem ∧ Ok a₀ p st') ?_ ?_ ⟨rfl, okY⟩) ?_)
              · rintro x c st' hx1 hx2 ⟨rfl, ok'⟩
                refine wpS_bind (wpS_ltP ok' h0 (by lia) (by lia) fun r => ?_)
                cases r with
                | true => exact wpS_pure ⟨x, rfl, by lia, by lia, ok'⟩
                | false => exact wpS_pure ⟨rfl, ok'⟩
              · rintro c st' ⟨rfl, ok'⟩
                exact ⟨_, rfl, by lia, by lia, ok'⟩
              · rintro c st' ⟨n, rfl, hn1, hn2, ok'⟩
                exact wpS_pure (h n _ ok' hn1 hn2)
            · rw [if_neg hq]
              refine wpS_bind (wpS_rev ok2 fun stY okY => ?_)
              refine wpS_bind (wpS_mono (wpS_forRange (I := fun x c st' => c = (none, x) ∧ Ok a₀ p st') (Q := fun c st' => ∃ n, c = (none, n) ∧ 1 ≤ n ∧ n ≤ nrem ∧ Ok a₀ p st') ?_ ?_ ⟨rfl, okY⟩) ?_)
              · rintro x c st' hx1 hx2 ⟨rfl, ok'⟩
                refine wpS_bind (wpS_ltP ok' h0 (by lia) (by lia) fun r => ?_)
                cases r with
                | true => exact wpS_pure ⟨x, rfl, by lia, by lia, ok'⟩
                | false => exact wpS_pure ⟨rfl, ok'⟩
              · rintro c st' ⟨rfl, ok'⟩
                exact ⟨_, rfl, by lia, by lia, ok'⟩
              · rintro c st' ⟨n, rfl, hn1, hn2, ok'⟩
                exact wpS_pure (h n _ ok' hn1 hn2)
      · rw [if_neg hgt]
        refine wpS_bind (wpS_lift (wpAny_rule ⟨rfl, ?_⟩))
        refine wpS_bind (wpS_mono (wpS_forRange (I := fun x c st' => (∃ q, c = (none, x, q)) ∧ Ok a₀ p st') (Q := fun c st' => ∃ m q, c = (none, m, q) ∧ 1 ≤ m ∧ m ≤ nrem ∧ Ok a₀ p st') ?_ ?_ ⟨⟨0, rfl⟩, ok'⟩) ?_)
        · rintro x c st' hx1 hx2 ⟨⟨q, rfl⟩, ok'⟩
          dsimp only
          refine wpS_bind (wpS_ltP ok' h0 (by lia) (by lia) fun r => ?_)
          cases r with
          | true =>
            dsimp only
            by_cases hq : q > 0
            · rw [if_pos rfl, if_pos hq]
              exact wpS_bind (wpS_rev ok' fun st2 ok2 => wpS_pure ⟨⟨0, rfl⟩, ok2⟩)
            · rw [if_pos rfl, if_neg hq]
              exact wpS_pure ⟨⟨0, rfl⟩, ok'⟩
          | false =>
            dsimp only
            rw [if_neg Bool.false_ne_true]
            refine wpS_bind (wpS_ltP ok' h0 (by lia) (by lia) fun r => ?_)
            cases r with
            | true => exact wpS_pure ⟨x, q, rfl, by lia, by lia, ok'⟩
            | false => exact wpS_pure ⟨⟨q + 1, rfl⟩, ok'⟩
        · rintro c st' ⟨⟨q, rfl⟩, ok'⟩
          exact ⟨_, q, rfl, by lia, by lia, ok'⟩
        · rintro c st' ⟨m, q, rfl, hm1, hm2, ok2⟩
          dsimp only
          by_cases hq : q > 0
          · rw [if_pos hq]
            refine wpS_bind (wpS_rev ok2 fun st3 ok3 => ?_)
            refine wpS_bind (wpS_rev ok3 fun stY okY => ?_)
            refine wpS_bind (wpS_mono (wpS_forRange (I := fun x c st' => c = (none, x) ∧ Ok a₀ p st') (Q := fun c st' => ∃ n, c = (none, n) ∧ 1 ≤ n ∧ n ≤ nrem ∧ Ok a₀ p st') ?_ ?_ ⟨rfl, okY⟩) ?_)
            · rintro x c st' hx1 hx2 ⟨rfl, ok'⟩
              refine wpS_bind (wpS_ltP ok' h0 (by lia) (by lia) fun r => ?_)
              cases r with
              | true => exact wpS_pure ⟨x, rfl, by lia, by lia, ok'⟩
              | false => exact wpS_pure ⟨rfl, ok'⟩
            · rintro c st' ⟨rfl, ok'⟩
              exact ⟨_, rfl, by lia, by lia, ok'⟩
            · rintro c st' ⟨n, rfl, hn1, hn2, ok'⟩
              exact wpS_pure (h n _ ok' hn1 hn2)
          · rw [if_neg hq]
            refine wpS_bind (wpS_rev ok2 fun stY okY => ?_)
            refine wpS_bind (wpS_mono (wpS_forRange (I := fun x c st' => c = (none, x) ∧ Ok a₀ p st') (Q := fun c st' => ∃ n, c = (none, n) ∧ 1 ≤ n ∧ n ≤ nrem ∧ Ok a₀ p st') ?_ ?_ ⟨rfl, okY⟩) ?_)
            · rintro x c st' hx1 hx2 ⟨rfl, ok'⟩
              refine wpS_bind (wpS_ltP ok' h0 (by lia) (by lia) fun r => ?_)
              cases r with
              | true => exact wpS_pure ⟨x, rfl, by lia, by lia, ok'⟩
              | false => exact wpS_pure ⟨rfl, ok'⟩
            · rintro c st' ⟨rfl, ok'⟩
              exact ⟨_, rfl, by lia, by lia, ok'⟩
            · rintro c st' ⟨n, rfl, hn1, hn2, ok'⟩
              exact wpS_pure (h n _ ok' hn1 hn2)
theorem wpS_bin {lo n ok : Nat} {Q : Bool → SortSt → Prop} (h0 : IntKeys a₀) (hn : lo + n ≤ a₀.size) (hB : Ok a₀ p st) (h : ∀ st', Ok a₀ p st' → Q true st') : wpS (model prog w) A E s (binarySort' lo n ok) Q st := by
  rw [binarySort'_eq]
  refine wpS_bind (wpS_mono (wpS_forRange (I := fun k c st' => c = (none, ()) ∧ Ok a₀ p st') (Q := fun c st' => c = (none, ()) ∧ Ok a₀ p st') ?step (fun _ _ z => z) ⟨rfl, hB⟩) ?post)
  case post =>
    rintro c st' ⟨rfl, ok'⟩
    exact wpS_pure (h _ ok')
  case step =>
    rintro k c st' hk1 hk2 ⟨rfl, ok'⟩
    refine wpS_bind (wpS_mono (wpS_forRange (I := fun _ c st2 => (∃ l r, c = (none, l, r) ∧ r ≤ k) ∧ Ok a₀ p st2) (Q := fun c st2 => (∃ l r, c = (none, l, r) ∧ r ≤ k) ∧ Ok a₀ p st2) ?_ (fun _ _ z => z) ⟨⟨0, k, rfl, Nat.le_refl _⟩, ok'⟩) ?_)
    · rintro x c st2 _ _ ⟨⟨l, r, rfl, hr⟩, ok2⟩
      dsimp only
      by_cases hlr : l ≥ r
      · rw [if_pos hlr]
        exact wpS_pure ⟨⟨l, r, rfl, hr⟩, ok2⟩
      · rw [if_neg hlr]
        refine wpS_bind (wpS_ltP ok2 h0 (by lia) (by lia) fun less => ?_)
        cases less with
        | true => exact wpS_pure ⟨⟨l, (l + r) / 2, rfl, by lia⟩, ok2⟩
        | false => exact wpS_pure ⟨⟨(l + r) / 2 + 1, r, rfl, hr⟩, ok2⟩
    · rintro c st2 ⟨⟨l, r, rfl, hr⟩, ok2⟩
      exact wpS_bind (wpS_down ok2 fun st3 ok3 => wpS_pure ⟨rfl, ok3⟩)
end
end Srt
namespace Srt
open PySem PyProof.Rows
noncomputable def gallopP : Bool → Keyed → Array Keyed → Nat → Nat → Nat → StateT SortSt Sem (Option Nat) := sortPriv% PySem.Builtin.gallop
section
variable {prog : Program} {w : World} {A : Around} {E : Value → Shared → Prop} {s : Shared} {st : SortSt}
theorem wpS_beyond {left : Bool} {key : Keyed} {arr : Array Keyed} {i : Nat} {Q : Option Bool → SortSt → Prop} (hk : kindOf st = oneType') (h0 : IntKeys arr) (hkey : IntK key) (hi : i < arr.size) (h : ∀ r, Q (some r) st) :
    wpS (model prog w) A E s (elem' arr i >>= fun x => if left = true then lt' x key else lt' key x >>= fun r => pure (Option.map (fun x => !x) r)) Q st := by
  refine wpS_bind (wpS_elem hi ?_)
  cases left with
  | true => exact wpS_lt hk (keys_at h0 hi) hkey h
  | false => exact wpS_bind (wpS_lt hk hkey (keys_at h0 hi) fun r => wpS_pure (h _))
theorem wpS_gallop {left : Bool} {key : Keyed} {arr : Array Keyed} {base n hint : Nat} {Q : Option Nat → SortSt → Prop} (hk : kindOf st = oneType') (h0 : IntKeys arr) (hkey : IntK key) (hb : base + n ≤ arr.size) (hh : hint < n)
    (h : ∀ k, k ≤ n → Q (some k) st) : wpS (model prog w) A E s (gallopP left key arr base n hint) Q st := by
  unfold gallopP
  show wpS _ _ _ _ (_ >>= _) _ _
  dsimp only
  refine wpS_bind (wpS_beyond hk h0 hkey (by lia) fun right => ?_)
  cases right with
  | true =>
    dsimp only
    rw [if_pos rfl]
    refine wpS_bind (wpS_mono (wpS_forRange (I := fun _ c st2 => (∃ l r, c = (none, l, r)) ∧ st = st2) (Q := fun c st2 => (∃ l r, c = (none, l, r)) ∧ st = st2) ?_ (fun _ _ z => z) ⟨⟨_, _, rfl⟩, rfl⟩) ?_)
    · rintro x c st2 _ _ ⟨⟨l, r, rfl⟩, rfl⟩
      dsimp only
      by_cases hlr : r ≥ n - hint
      · rw [if_pos hlr]
        exact wpS_pure ⟨⟨l, r, rfl⟩, rfl⟩
      · rw [if_neg hlr]
        refine wpS_bind (wpS_beyond hk h0 hkey (by lia) fun more => ?_)
        cases more with
        | true => exact wpS_pure ⟨⟨_, _, rfl⟩, rfl⟩
        | false => exact wpS_pure ⟨⟨_, _, rfl⟩, rfl⟩
    · rintro c st2 ⟨⟨l, r, rfl⟩, rfl⟩
      refine wpS_bind (wpS_mono (wpS_forRange (I := fun _ c st2 => (∃ l r, c = (none, l, r) ∧ r ≤ n) ∧ st = st2) (Q := fun c st2 => (∃ l r, c = (none, l, r) ∧ r ≤ n) ∧ st = st2) ?_ (fun _ _ z => z) ⟨⟨_, _, rfl, by lia⟩, rfl⟩) ?_)
      · rintro x c st2 _ _ ⟨⟨l, r, rfl, hr⟩, rfl⟩
        dsimp only
        by_cases hlr : l ≥ r
        · rw [if_pos hlr]
          exact wpS_pure ⟨⟨l, r, rfl, hr⟩, rfl⟩
        · rw [if_neg hlr]
          refine wpS_bind (wpS_beyond hk h0 hkey (by lia) fun more => ?_)
          cases more with
          | true => exact wpS_pure ⟨⟨l + (r - l) / 2 + 1, r, rfl, hr⟩, rfl⟩
          | false => exact wpS_pure ⟨⟨l, l + (r - l) / 2, rfl, by lia⟩, rfl⟩
      · rintro c st2 ⟨⟨l, r, rfl, hr⟩, rfl⟩
        exact wpS_pure (h _ hr)
  | false =>
    dsimp only
    rw [if_neg Bool.false_ne_true]
    refine wpS_bind (wpS_mono (wpS_forRange (I := fun _ c st2 => (∃ l r, c = (none, l, r)) ∧ st = st2) (Q := fun c st2 => (∃ l r, c = (none, l, r)) ∧ st = st2) ?_ (fun _ _ z => z) ⟨⟨_, _, rfl⟩, rfl⟩) ?_)
    · rintro x c st2 _ _ ⟨⟨l, r, rfl⟩, rfl⟩
      dsimp only
      by_cases hlr : r ≥ hint + 1
      · rw [if_pos hlr]
        exact wpS_pure ⟨⟨l, r, rfl⟩, rfl⟩
      · rw [if_neg hlr]
        refine wpS_bind (wpS_beyond hk h0 hkey (by lia) fun more => ?_)
        cases more with
        | true => exact wpS_pure ⟨⟨_, _, rfl⟩, rfl⟩
        | false => exact wpS_pure ⟨⟨_, _, rfl⟩, rfl⟩
    · rintro c st2 ⟨⟨l, r, rfl⟩, rfl⟩
      refine wpS_bind (wpS_mono (wpS_forRange (I := fun _ c st2 => (∃ l r, c = (none, l, r) ∧ r ≤ n) ∧ st = st2) (Q := fun c st2 => (∃ l r, c = (none, l, r) ∧ r ≤ n) ∧ st = st2) ?_ (fun _ _ z => z) ⟨⟨_, _, rfl, by lia⟩, rfl⟩) ?_)
      · rintro x c st2 _ _ ⟨⟨l, r, rfl, hr⟩, rfl⟩
        dsimp only
        by_cases hlr : l ≥ r
        · rw [if_pos hlr]
          exact wpS_pure ⟨⟨l, r, rfl, hr⟩, rfl⟩
        · rw [if_neg hlr]
          refine wpS_bind (wpS_beyond hk h0 hkey (by lia) fun more => ?_)
          cases more with
          | true => exact wpS_pure ⟨⟨l + (r - l) / 2 + 1, r, rfl, hr⟩, rfl⟩
          | false => exact wpS_pure ⟨⟨l, l + (r - l) / 2, rfl, by lia⟩, rfl⟩
      · rintro c st2 ⟨⟨l, r, rfl, hr⟩, rfl⟩
        exact wpS_pure (h _ hr)
end
end Srt
namespace Srt
open PySem PyProof.Rows
theorem addA {α : Type} {o A B X : List α} (h : o.Perm (A ++ B)) : (o ++ X).Perm ((A ++ X) ++ B) := by
  refine (h.append_right X).trans ?_
  rw [List.append_assoc, List.append_assoc]
  exact List.perm_append_comm.append_left A
theorem addB {α : Type} {o A B X : List α} (h : o.Perm (A ++ B)) : (o ++ X).Perm (A ++ (B ++ X)) := by
  rw [← List.append_assoc]
  exact h.append_right X
noncomputable abbrev Outs (a b : Array Keyed) (o : Array Keyed) (i j : Nat) : Prop := o.toList.Perm (a.toList.take i ++ b.toList.take j)
section
variable {a b o : Array Keyed} {i j k : Nat}
theorem ext_list (a : Array Keyed) (i k : Nat) : (a.extract i (i + k)).toList = (a.toList.drop i).take k := by
  rw [Array.toList_extract, List.extract_eq_take_drop, Nat.add_sub_cancel_left]
theorem ext_all (a : Array Keyed) (i : Nat) : (a.extract i a.size).toList = a.toList.drop i := by
  rw [Array.toList_extract, List.extract_eq_take_drop]
  exact List.take_of_length_le (by simp)
theorem Outs.pushA (h : Outs a b o i j) (hi : i < a.size) : Outs a b (o.push a[i]) (i + 1) j := by
  unfold Outs at h ⊢
  rw [Array.toList_push, List.take_add_one, show a.toList[i]? = some a[i] by simp [hi]]
  exact addA h
theorem Outs.pushB (h : Outs a b o i j) (hj : j < b.size) : Outs a b (o.push b[j]) i (j + 1) := by
  unfold Outs at h ⊢
  rw [Array.toList_push, List.take_add_one, show b.toList[j]? = some b[j] by simp [hj]]
  exact addB h
theorem Outs.extA (h : Outs a b o i j) (k : Nat) : Outs a b (o ++ a.extract i (i + k)) (i + k) j := by
  unfold Outs at h ⊢
  rw [Array.toList_append, ext_list, List.take_add]
  exact addA h
theorem Outs.extB (h : Outs a b o i j) (k : Nat) : Outs a b (o ++ b.extract j (j + k)) i (j + k) := by
  unfold Outs at h ⊢
  rw [Array.toList_append, ext_list, List.take_add]
  exact addB h
theorem Outs.done (h : Outs a b o i j) : (o ++ a.extract i a.size ++ b.extract j b.size).toList.Perm (a.toList ++ b.toList) := by
  unfold Outs at h
  rw [Array.toList_append, Array.toList_append, ext_all, ext_all]
  have := addB (X := b.toList.drop j) (addA (X := a.toList.drop i) h)
  rwa [List.take_append_drop, List.take_append_drop] at this
theorem Outs.last (h : Outs a b o i j) : (o ++ b.extract j b.size ++ a.extract i a.size).toList.Perm (a.toList ++ b.toList) := by
  unfold Outs at h
  rw [Array.toList_append, Array.toList_append, ext_all, ext_all]
  have := addA (X := a.toList.drop i) (addB (X := b.toList.drop j) h)
  rwa [List.take_append_drop, List.take_append_drop] at this
end
end Srt
namespace Srt
open PySem PyProof.Rows
noncomputable def setMinP : Nat → StateT SortSt Sem Unit := sortPriv% PySem.Builtin.setMinGallop
noncomputable def mergeLoP : Array Keyed → Array Keyed → StateT SortSt Sem (Array Keyed) := sortPriv% PySem.Builtin.mergeLo
noncomputable abbrev Still (a₀ : Array Keyed) (p : Array (Nat × Nat × Nat)) (x : Array Keyed) (st : SortSt) : Prop := Ok a₀ p st ∧ arrOf st = x
section
variable {prog : Program} {w : World} {A : Around} {E : Value → Shared → Prop} {s : Shared} {st : SortSt} {a₀ x₀ : Array Keyed} {p : Array (Nat × Nat × Nat)}
theorem wpS_setMin {g : Nat} {Q : Unit → SortSt → Prop} (ok : Still a₀ p x₀ st) (h : ∀ st', Still a₀ p x₀ st' → Q () st') : wpS (model prog w) A E s (setMinP g) Q st := by
  unfold setMinP
  exact wpS_modify (h _ ⟨⟨ok.1.perm, ok.1.kind, ok.1.failed, ok.1.pend⟩, ok.2⟩)
inductive ExR {β : Type} (l : List Keyed) (S : Prop) (c : Option (Array Keyed) × β) : Prop
  | mk (r : Array Keyed) (rest : β) : c = (some r, rest) → r.toList.Perm l → S → ExR l S c
inductive ExA {α : Type} (f : Array Keyed → Nat → Nat → Nat → α) (P : Array Keyed → Nat → Nat → Prop) (S : Prop) (c : α) : Prop
  | mk (o : Array Keyed) (i j g : Nat) : c = f o i j g → P o i j → S → ExA f P S c
inductive ExB {α : Type} (f : Array Keyed → Nat → Nat → Nat → Nat → α) (P : Array Keyed → Nat → Nat → Prop) (S : Prop) (c : α) : Prop
  | mk (o : Array Keyed) (i j ac bc : Nat) : c = f o i j ac bc → P o i j → S → ExB f P S c
inductive ExC {α : Type} (f : Array Keyed → Nat → Nat → Nat → Nat → Nat → α) (P : Array Keyed → Nat → Nat → Prop) (S : Prop) (c : α) : Prop
  | mk (o : Array Keyed) (i j g ac bc : Nat) : c = f o i j g ac bc → P o i j → S → ExC f P S c
inductive HxA {α : Type} (f : Nat → Nat → Array Keyed → Nat → α) (P : Array Keyed → Nat → Nat → Prop) (S : Prop) (c : α) : Prop
  | mk (i j : Nat) (o : Array Keyed) (g : Nat) : c = f i j o g → P o i j → S → HxA f P S c
inductive HxB {α : Type} (f : Nat → Nat → Array Keyed → Nat → Nat → α) (P : Array Keyed → Nat → Nat → Prop) (S : Prop) (c : α) : Prop
  | mk (i j : Nat) (o : Array Keyed) (ac bc : Nat) : c = f i j o ac bc → P o i j → S → HxB f P S c
inductive HxC {α : Type} (f : Nat → Nat → Array Keyed → Nat → Nat → Nat → α) (P : Array Keyed → Nat → Nat → Prop) (S : Prop) (c : α) : Prop
  | mk (i j : Nat) (o : Array Keyed) (g ac bc : Nat) : c = f i j o g ac bc → P o i j → S → HxC f P S c
noncomputable abbrev LoOn (a b : Array Keyed) (m : Nat) (o : Array Keyed) (i j : Nat) : Prop := Outs a b o i j ∧ i + 1 < a.size ∧ j < b.size ∧ m ≤ i + j
theorem nbeq {a b : Nat} (h : ¬ a = b) : ¬ (a == b) = true := fun z => h (beq_iff_eq.mp z)
theorem wpS_beq {α : Type} {x y : Nat} {a b : StateT SortSt Sem α} {Q : α → SortSt → Prop} (h1 : x = y → wpS (model prog w) A E s a Q st) (h2 : ¬ x = y → wpS (model prog w) A E s b Q st) : wpS (model prog w) A E s (if (x == y) = true then a else b) Q st := by
  by_cases h : x = y
  · rw [if_pos (beq_iff_eq.mpr h)]; exact h1 h
  · rw [if_neg (nbeq h)]; exact h2 h
theorem wpS_ite {α : Type} {c : Prop} [Decidable c] {a b : StateT SortSt Sem α} {Q : α → SortSt → Prop} (h1 : c → wpS (model prog w) A E s a Q st) (h2 : ¬ c → wpS (model prog w) A E s b Q st) : wpS (model prog w) A E s (if c then a else b) Q st := by
  by_cases h : c
  · rw [if_pos h]; exact h1 h
  · rw [if_neg h]; exact h2 h
theorem via1 {T : Nat → Prop} {G : Prop} (key : ∀ g', T g') (main : (∀ g', T g') → G) : G := main key
theorem via3 {T : Array Keyed → Nat → Nat → Prop} {G : Prop} (P : Array Keyed → Nat → Prop) (key : ∀ o i k, P o i → T o i k) (main : (∀ o i k, P o i → T o i k) → G) : G := main key
theorem wpS_mergeLo {a b : Array Keyed} {Q : Array Keyed → SortSt → Prop} (ok : Still a₀ p x₀ st) (ha : IntKeys a) (hb : IntKeys b) (ha1 : 1 ≤ a.size) (hb1 : 1 ≤ b.size)
    (h : ∀ o st', Still a₀ p x₀ st' → o.toList.Perm (a.toList ++ b.toList) → Q o st') : wpS (model prog w) A E s (mergeLoP a b) Q st := by
  unfold mergeLoP
  show wpS _ _ _ _ (_ >>= _) _ _
  refine wpS_bind (wpS_lift (wpAny_rule ⟨rfl, ?_⟩))
  refine wpS_bind (wpS_elem (by lia) ?_)
  have o1 : Outs a b #[b[0]] 0 1 := by
    have : Outs a b #[] 0 0 := by simp [Outs]
    exact this.pushB (by lia)
  refine wpS_beq (fun h1 => wpS_pure (h _ _ ok o1.done)) (fun h1 => ?_)
  refine wpS_beq (fun h2 => wpS_pure (h _ _ ok o1.last)) (fun h2 => ?_)
  refine wpS_bind (wpS_get ?_)
  refine wpS_bind (wpS_mono (wpS_forRange (I := fun m c st' => ExA (fun o i j g => (none, o, i, j, g)) (LoOn a b m) (Still a₀ p x₀ st') c)
    (Q := fun c st' => ExR (a.toList ++ b.toList) (Still a₀ p x₀ st') c) ?step ?fin ⟨_, _, _, _, rfl, ⟨o1, by lia, by lia, by lia⟩, ok⟩) ?post)
  case fin =>
    rintro c st' ⟨o, i, j, g, rfl, ⟨_, h3, h4, h5⟩, _⟩
    omega
  case post =>
    rintro c st' ⟨r, rest, rfl, hp, ok'⟩
    exact wpS_pure (h _ _ ok' hp)
  case step =>
    rintro m c st' _ hm ⟨o, i, j, g, rfl, on, ok'⟩
    refine wpS_bind (wpS_mono (wpS_forRange (I := fun y c st2 => ExB (fun o i j ac bc => (none, o, i, j, ac, bc)) (LoOn a b (m + y)) (Still a₀ p x₀ st2) c)
      (Q := fun c st2 => (ExB (fun o i j ac bc => (none, o, i, j, ac, bc)) (LoOn a b (m + 1)) (Still a₀ p x₀ st2) c) ∨ ExR (a.toList ++ b.toList) (Still a₀ p x₀ st2) c) ?step1 ?fin1 ⟨_, _, _, _, _, rfl, on, ok'⟩) ?post1)
    case fin1 =>
      rintro c st2 ⟨o, i, j, ac, bc, rfl, ⟨q1, q2, q3, q4⟩, ok2⟩
      exact .inl ⟨_, _, _, _, _, rfl, ⟨q1, q2, q3, by lia⟩, ok2⟩
    case step1 =>
      rintro y c st2 _ hy ⟨o, i, j, ac, bc, rfl, ⟨q1, q2, q3, q4⟩, ok2⟩
      dsimp only
      refine wpS_bind (wpS_elem (by lia) (wpS_bind (wpS_elem (by lia) (wpS_bind (wpS_lt ok2.1.kind (keys_at hb _) (keys_at ha _) fun r => ?_)))))
      cases r with
      | true =>
        dsimp only
        rw [if_pos rfl]
        refine wpS_bind (wpS_elem (by lia) ?_)
        refine wpS_beq (fun hz => wpS_pure (.inr ⟨_, _, rfl, (q1.pushB (by lia)).done, ok2⟩)) (fun hz => ?_)
        split
        · exact wpS_pure (.inl ⟨_, _, _, _, _, rfl, ⟨q1.pushB (by lia), by lia, by lia, by lia⟩, ok2⟩)
        · exact wpS_pure ⟨_, _, _, _, _, rfl, ⟨q1.pushB (by lia), by lia, by lia, by lia⟩, ok2⟩
      | false =>
        dsimp only
        rw [if_neg Bool.false_ne_true]
        refine wpS_bind (wpS_elem (by lia) ?_)
        refine wpS_beq (fun hz => wpS_pure (.inr ⟨_, _, rfl, (q1.pushA (by lia)).last, ok2⟩)) (fun hz => ?_)
        split
        · exact wpS_pure (.inl ⟨_, _, _, _, _, rfl, ⟨q1.pushA (by lia), by lia, by lia, by lia⟩, ok2⟩)
        · exact wpS_pure ⟨_, _, _, _, _, rfl, ⟨q1.pushA (by lia), by lia, by lia, by lia⟩, ok2⟩
    case post1 =>
      rintro c st2 (⟨o, i, j, ac, bc, rfl, on2, ok2⟩ | ⟨r, rest, rfl, hp, ok2⟩)
      · dsimp only
        refine wpS_bind (wpS_lift (wpAny_rule ⟨rfl, ?_⟩))
        refine wpS_bind (wpS_mono (wpS_forRange (I := fun _ c st3 => ExC (fun o i j g ac bc => (none, o, i, j, g, ac, bc)) (LoOn a b (m + 1)) (Still a₀ p x₀ st3) c)
          (Q := fun c st3 => (ExC (fun o i j g ac bc => (none, o, i, j, g, ac, bc)) (LoOn a b (m + 1)) (Still a₀ p x₀ st3) c) ∨ ExR (a.toList ++ b.toList) (Still a₀ p x₀ st3) c) ?step2 (fun _ _ z => .inl z) ⟨_, _, _, _, _, _, rfl, on2, ok2⟩) ?post2)
        case post2 =>
          rintro c st3 (⟨o, i, j, g, ac, bc, rfl, on3, ok3⟩ | ⟨r, ⟨o, i, j, g, ac, bc⟩, rfl, hp, ok3⟩)
          · dsimp only
            exact wpS_bind (wpS_setMin ok3 fun st4 ok4 => wpS_pure ⟨_, _, _, _, rfl, on3, ok4⟩)
          · exact wpS_pure ⟨_, _, rfl, hp, ok3⟩
        case step2 =>
          rintro y c st3 _ _ ⟨o, i, j, g, ac, bc, rfl, ⟨q1, q2, q3, q4⟩, ok3⟩
          dsimp only
          refine via1 (T := ?T1) ?key1 ?main1
          case main1 =>
            intro key
            refine wpS_ite (fun hg => ?_) (fun hg => ?_)
            · generalize g - 1 = g'
              exact key g'
            · with_reducible exact key g
          case key1 =>
            intro g'
            refine wpS_bind (wpS_setMin ok3 fun st4 ok4 => ?_)
            refine wpS_bind (wpS_elem (by lia) ?_)
            refine wpS_bind (wpS_gallop ok4.1.kind ha (keys_at hb _) (by lia) (by lia) fun k hk => ?_)
            refine wpS_ite (fun hk0 => ?_) (fun hk0 => ?_)
            · skip
              refine wpS_beq (fun hz => wpS_pure (.inr ⟨_, _, rfl, (q1.extA k).last, ok4⟩)) (fun hz => ?_)
              refine wpS_beq (fun hz2 => wpS_pure (.inr ⟨_, _, rfl, (q1.extA k).done, ok4⟩)) (fun hz2 => ?_)
              refine wpS_bind (wpS_elem (by lia) ?_)
              refine wpS_beq (fun hy => wpS_pure (.inr ⟨_, _, rfl, (Outs.pushB (q1.extA k) (by lia)).done, ok4⟩)) (fun hy => ?_)
              refine wpS_bind (wpS_elem (by lia) ?_)
              refine wpS_bind (wpS_gallop ok4.1.kind hb (keys_at ha _) (by lia) (by lia) fun k1 hk1 => ?_)
              refine wpS_ite (fun hk2 => ?_) (fun hk2 => ?_)
              · skip
                refine wpS_beq (fun hy2 => wpS_pure (.inr ⟨_, _, rfl, ((Outs.pushB (q1.extA k) (by lia)).extB k1).done, ok4⟩)) (fun hy2 => ?_)
                refine wpS_bind (wpS_elem (by lia) ?_)
                split
                · exact wpS_pure (.inr ⟨_, _, rfl, (Outs.pushA ((Outs.pushB (q1.extA k) (by lia)).extB k1) (by lia)).last, ok4⟩)
                · split
                  · exact wpS_pure (.inl ⟨_, _, _, _, _, _, rfl, ⟨Outs.pushA ((Outs.pushB (q1.extA k) (by lia)).extB k1) (by lia), by lia, by lia, by lia⟩, ok4⟩)
                  · exact wpS_pure ⟨_, _, _, _, _, _, rfl, ⟨Outs.pushA ((Outs.pushB (q1.extA k) (by lia)).extB k1) (by lia), by lia, by lia, by lia⟩, ok4⟩
              · skip
                refine wpS_bind (wpS_elem (by lia) ?_)
                split
                · exact wpS_pure (.inr ⟨_, _, rfl, (Outs.pushA (Outs.pushB (q1.extA k) (by lia)) (by lia)).last, ok4⟩)
                · split
                  · exact wpS_pure (.inl ⟨_, _, _, _, _, _, rfl, ⟨Outs.pushA (Outs.pushB (q1.extA k) (by lia)) (by lia), by lia, by lia, by lia⟩, ok4⟩)
                  · exact wpS_pure ⟨_, _, _, _, _, _, rfl, ⟨Outs.pushA (Outs.pushB (q1.extA k) (by lia)) (by lia), by lia, by lia, by lia⟩, ok4⟩
            · skip
              refine wpS_bind (wpS_elem (by lia) ?_)
              refine wpS_beq (fun hy => wpS_pure (.inr ⟨_, _, rfl, (Outs.pushB q1 (by lia)).done, ok4⟩)) (fun hy => ?_)
              refine wpS_bind (wpS_elem (by lia) ?_)
              refine wpS_bind (wpS_gallop ok4.1.kind hb (keys_at ha _) (by lia) (by lia) fun k1 hk1 => ?_)
              refine wpS_ite (fun hk2 => ?_) (fun hk2 => ?_)
              · skip
                refine wpS_beq (fun hy2 => wpS_pure (.inr ⟨_, _, rfl, ((Outs.pushB q1 (by lia)).extB k1).done, ok4⟩)) (fun hy2 => ?_)
                refine wpS_bind (wpS_elem (by lia) ?_)
                split
                · exact wpS_pure (.inr ⟨_, _, rfl, (Outs.pushA ((Outs.pushB q1 (by lia)).extB k1) (by lia)).last, ok4⟩)
                · split
                  · exact wpS_pure (.inl ⟨_, _, _, _, _, _, rfl, ⟨Outs.pushA ((Outs.pushB q1 (by lia)).extB k1) (by lia), by lia, by lia, by lia⟩, ok4⟩)
                  · exact wpS_pure ⟨_, _, _, _, _, _, rfl, ⟨Outs.pushA ((Outs.pushB q1 (by lia)).extB k1) (by lia), by lia, by lia, by lia⟩, ok4⟩
              · skip
                refine wpS_bind (wpS_elem (by lia) ?_)
                split
                · exact wpS_pure (.inr ⟨_, _, rfl, (Outs.pushA (Outs.pushB q1 (by lia)) (by lia)).last, ok4⟩)
                · split
                  · exact wpS_pure (.inl ⟨_, _, _, _, _, _, rfl, ⟨Outs.pushA (Outs.pushB q1 (by lia)) (by lia), by lia, by lia, by lia⟩, ok4⟩)
                  · exact wpS_pure ⟨_, _, _, _, _, _, rfl, ⟨Outs.pushA (Outs.pushB q1 (by lia)) (by lia), by lia, by lia, by lia⟩, ok4⟩
      · obtain ⟨o, i, j, ac, bc⟩ := rest
        exact wpS_pure ⟨_, _, rfl, hp, ok2⟩
end
end Srt
namespace Srt
open PySem PyProof.Rows
noncomputable def mergeHiP : Array Keyed → Array Keyed → StateT SortSt Sem (Array Keyed) := sortPriv% PySem.Builtin.mergeHi
noncomputable abbrev Behind (a b : Array Keyed) (o : Array Keyed) (i j : Nat) : Prop := o.toList.Perm (a.toList.drop i ++ b.toList.drop j)
section
variable {a b o : Array Keyed} {i j k : Nat}
theorem putA {α : Type} {o A B X : List α} (h : o.Perm (A ++ B)) : (o ++ X).Perm ((X ++ A) ++ B) := by
  refine List.perm_append_comm.trans ?_
  rw [List.append_assoc]
  exact h.append_left X
theorem putB {α : Type} {o A B X : List α} (h : o.Perm (A ++ B)) : (o ++ X).Perm (A ++ (X ++ B)) := by
  refine (h.append_right X).trans ?_
  rw [List.append_assoc]
  exact List.perm_append_comm.append_left A
theorem ext_mid (a : Array Keyed) {k i : Nat} (h : k ≤ i) : a.toList.drop k = (a.extract k i).toList ++ a.toList.drop i := by
  obtain ⟨d, rfl⟩ : ∃ d, i = k + d := ⟨i - k, by lia⟩
  rw [ext_list, ← List.drop_drop, List.take_append_drop]
theorem ext_low (a : Array Keyed) (i : Nat) : (a.extract 0 i).toList = a.toList.take i := by
  have := ext_list a 0 i
  rwa [Nat.zero_add] at this
theorem drop_less (a : Array Keyed) (h0 : 1 ≤ i) (hi : i ≤ a.size) : a.toList.drop (i - 1) = a[i - 1] :: a.toList.drop i := by
  rw [List.drop_eq_getElem_cons (by simp; omega), show i - 1 + 1 = i by lia]
  simp
theorem Behind.pushA (h : Behind a b o i j) (h0 : 1 ≤ i) (hi : i ≤ a.size) : Behind a b (o.push a[i - 1]) (i - 1) j := by
  unfold Behind at h ⊢
  rw [Array.toList_push, drop_less a h0 hi]
  exact putA (X := [a[i - 1]]) h
theorem Behind.pushB (h : Behind a b o i j) (h0 : 1 ≤ j) (hj : j ≤ b.size) : Behind a b (o.push b[j - 1]) i (j - 1) := by
  unfold Behind at h ⊢
  rw [Array.toList_push, drop_less b h0 hj]
  exact putB (X := [b[j - 1]]) h
theorem Behind.extA (h : Behind a b o i j) (hk : k ≤ i) : Behind a b (o ++ (a.extract k i).reverse) k j := by
  unfold Behind at h ⊢
  rw [Array.toList_append, Array.toList_reverse, ext_mid a hk]
  exact ((List.reverse_perm _).append_left _).trans (putA h)
theorem Behind.extB (h : Behind a b o i j) (hk : k ≤ j) : Behind a b (o ++ (b.extract k j).reverse) i k := by
  unfold Behind at h ⊢
  rw [Array.toList_append, Array.toList_reverse, ext_mid b hk]
  exact ((List.reverse_perm _).append_left _).trans (putB h)
theorem all_of {α : Type} (A B : List α) {o : List α} (h : o.Perm (A.drop i ++ B.drop j)) : (A.take i ++ B.take j ++ o).Perm (A ++ B) := by
  refine (h.append_left _).trans ?_
  have : (A.take i ++ B.take j ++ (A.drop i ++ B.drop j)).Perm ((A.take i ++ A.drop i) ++ (B.take j ++ B.drop j)) := by
    rw [List.append_assoc, List.append_assoc]
    refine List.Perm.append_left _ ?_
    rw [← List.append_assoc, ← List.append_assoc]
    exact List.perm_append_comm.append_right _
  rwa [List.take_append_drop, List.take_append_drop] at this
theorem Behind.done (h : Behind a b o i j) : (a.extract 0 i ++ b.extract 0 j ++ o.reverse).toList.Perm (a.toList ++ b.toList) := by
  unfold Behind at h
  rw [Array.toList_append, Array.toList_append, ext_low, ext_low, Array.toList_reverse]
  exact all_of _ _ ((List.reverse_perm _).trans h)
theorem Behind.first (h : Behind a b o i j) : (b.extract 0 j ++ a.extract 0 i ++ o.reverse).toList.Perm (a.toList ++ b.toList) := by
  unfold Behind at h
  rw [Array.toList_append, Array.toList_append, ext_low, ext_low, Array.toList_reverse]
  exact (List.perm_append_comm.append_right _).trans (all_of _ _ ((List.reverse_perm _).trans h))
end
section
variable {prog : Program} {w : World} {A : Around} {E : Value → Shared → Prop} {s : Shared} {st : SortSt} {a₀ x₀ : Array Keyed} {p : Array (Nat × Nat × Nat)}
noncomputable abbrev HiOn (a b : Array Keyed) (m : Nat) (o : Array Keyed) (i j : Nat) : Prop := Behind a b o i j ∧ (1 ≤ i ∧ i ≤ a.size) ∧ (2 ≤ j ∧ j ≤ b.size) ∧ m + i + j ≤ a.size + b.size
theorem wpS_mergeHi {a b : Array Keyed} {Q : Array Keyed → SortSt → Prop} (ok : Still a₀ p x₀ st) (ha : IntKeys a) (hb : IntKeys b) (ha1 : 1 ≤ a.size) (hb1 : 1 ≤ b.size)
    (h : ∀ o st', Still a₀ p x₀ st' → o.toList.Perm (a.toList ++ b.toList) → Q o st') : wpS (model prog w) A E s (mergeHiP a b) Q st := by
  unfold mergeHiP
  show wpS _ _ _ _ (_ >>= _) _ _
  refine wpS_bind (wpS_lift (wpAny_rule ⟨rfl, ?_⟩))
  refine wpS_bind (wpS_elem (by lia) ?_)
  have o1 : Behind a b #[a[a.size - 1]] (a.size - 1) b.size := by
    have : Behind a b #[] a.size b.size := by simp [Behind]
    exact this.pushA (by lia) (by lia)
  refine wpS_beq (fun h1 => wpS_pure (h _ _ ok o1.done)) (fun h1 => ?_)
  refine wpS_beq (fun h2 => wpS_pure (h _ _ ok o1.first)) (fun h2 => ?_)
  refine wpS_bind (wpS_get ?_)
  refine wpS_bind (wpS_mono (wpS_forRange (I := fun m c st' => HxA (fun i j o g => (none, i, j, o, g)) (HiOn a b m) (Still a₀ p x₀ st') c)
    (Q := fun c st' => ExR (a.toList ++ b.toList) (Still a₀ p x₀ st') c) ?step ?fin ⟨_, _, _, _, rfl, ⟨o1, by lia, by lia, by lia⟩, ok⟩) ?post)
  case fin =>
    rintro c st' ⟨i, j, o, g, rfl, ⟨_, h3, h4, h5⟩, _⟩
    omega
  case post =>
    rintro c st' ⟨r, rest, rfl, hp, ok'⟩
    exact wpS_pure (h _ _ ok' hp)
  case step =>
    rintro m c st' _ hm ⟨i, j, o, g, rfl, on, ok'⟩
    refine wpS_bind (wpS_mono (wpS_forRange (I := fun y c st2 => HxB (fun i j o ac bc => (none, i, j, o, ac, bc)) (HiOn a b (m + y)) (Still a₀ p x₀ st2) c)
      (Q := fun c st2 => (HxB (fun i j o ac bc => (none, i, j, o, ac, bc)) (HiOn a b (m + 1)) (Still a₀ p x₀ st2) c) ∨ ExR (a.toList ++ b.toList) (Still a₀ p x₀ st2) c) ?step1 ?fin1 ⟨_, _, _, _, _, rfl, on, ok'⟩) ?post1)
    case fin1 =>
      rintro c st2 ⟨i, j, o, ac, bc, rfl, ⟨q1, q2, q3, q4⟩, ok2⟩
      exact .inl ⟨_, _, _, _, _, rfl, ⟨q1, q2, q3, by lia⟩, ok2⟩
    case step1 =>
      rintro y c st2 _ hy ⟨i, j, o, ac, bc, rfl, ⟨q1, q2, q3, q4⟩, ok2⟩
      dsimp only
      refine wpS_bind (wpS_elem (by lia) (wpS_bind (wpS_elem (by lia) (wpS_bind (wpS_lt ok2.1.kind (keys_at hb _) (keys_at ha _) fun r => ?_)))))
      cases r with
      | true =>
        dsimp only
        rw [if_pos rfl]
        refine wpS_bind (wpS_elem (by lia) ?_)
        refine wpS_beq (fun hz => wpS_pure (.inr ⟨_, _, rfl, (q1.pushA (by lia) (by lia)).done, ok2⟩)) (fun hz => ?_)
        split
        · exact wpS_pure (.inl ⟨_, _, _, _, _, rfl, ⟨q1.pushA (by lia) (by lia), by lia, by lia, by lia⟩, ok2⟩)
        · exact wpS_pure ⟨_, _, _, _, _, rfl, ⟨q1.pushA (by lia) (by lia), by lia, by lia, by lia⟩, ok2⟩
      | false =>
        dsimp only
        rw [if_neg Bool.false_ne_true]
        refine wpS_bind (wpS_elem (by lia) ?_)
        refine wpS_beq (fun hz => wpS_pure (.inr ⟨_, _, rfl, (q1.pushB (by lia) (by lia)).first, ok2⟩)) (fun hz => ?_)
        split
        · exact wpS_pure (.inl ⟨_, _, _, _, _, rfl, ⟨q1.pushB (by lia) (by lia), by lia, by lia, by lia⟩, ok2⟩)
        · exact wpS_pure ⟨_, _, _, _, _, rfl, ⟨q1.pushB (by lia) (by lia), by lia, by lia, by lia⟩, ok2⟩
    case post1 =>
      rintro c st2 (⟨i, j, o, ac, bc, rfl, on2, ok2⟩ | ⟨r, rest, rfl, hp, ok2⟩)
      · dsimp only
        refine wpS_bind (wpS_lift (wpAny_rule ⟨rfl, ?_⟩))
        refine wpS_bind (wpS_mono (wpS_forRange (I := fun _ c st3 => HxC (fun i j o g ac bc => (none, i, j, o, g, ac, bc)) (HiOn a b (m + 1)) (Still a₀ p x₀ st3) c)
          (Q := fun c st3 => (HxC (fun i j o g ac bc => (none, i, j, o, g, ac, bc)) (HiOn a b (m + 1)) (Still a₀ p x₀ st3) c) ∨ ExR (a.toList ++ b.toList) (Still a₀ p x₀ st3) c) ?step2 (fun _ _ z => .inl z) ⟨_, _, _, _, _, _, rfl, on2, ok2⟩) ?post2)
        case post2 =>
          rintro c st3 (⟨i, j, o, g, ac, bc, rfl, on3, ok3⟩ | ⟨r, ⟨i, j, o, g, ac, bc⟩, rfl, hp, ok3⟩)
          · dsimp only
            exact wpS_bind (wpS_setMin ok3 fun st4 ok4 => wpS_pure ⟨_, _, _, _, rfl, on3, ok4⟩)
          · exact wpS_pure ⟨_, _, rfl, hp, ok3⟩
        case step2 =>
          rintro y c st3 _ _ ⟨i, j, o, g, ac, bc, rfl, ⟨q1, q2, q3, q4⟩, ok3⟩
          dsimp only
          refine via1 (T := ?T1) ?key1 ?main1
          case main1 =>
            intro key
            refine wpS_ite (fun hg => ?_) (fun hg => ?_)
            · generalize g - 1 = g'
              exact key g'
            · with_reducible exact key g
          case key1 =>
            intro g'
            refine wpS_bind (wpS_setMin ok3 fun st4 ok4 => ?_)
            refine wpS_bind (wpS_elem (by lia) ?_)
            refine wpS_bind (wpS_gallop ok4.1.kind ha (keys_at hb _) (by lia) (by lia) fun k hk => ?_)
            refine via3 (T := ?T2) (fun o2 i2 => Behind a b o2 i2 j ∧ 1 ≤ i2 ∧ i2 ≤ a.size ∧ m + 1 + i2 + j ≤ a.size + b.size) ?key2 ?main2
            case main2 =>
              intro key
              refine wpS_ite (fun hk0 => ?_) (fun hk0 => ?_)
              · skip
                have x1 : Behind a b (o ++ (a.extract k i).reverse) k j := Behind.extA (k := k) q1 (by lia)
                refine wpS_beq (fun hz => wpS_pure (.inr ⟨_, _, rfl, x1.done, ok4⟩)) (fun hz => ?_)
                have pk : 1 ≤ k ∧ k ≤ a.size ∧ m + 1 + k + j ≤ a.size + b.size := by lia
                clear hz hk0
                generalize o ++ (a.extract k i).reverse = o2 at x1 ⊢
                generalize i - k = ka
                generalize k = i2 at x1 pk ⊢
                exact key o2 i2 ka ⟨x1, pk⟩
              · with_reducible exact key o i (i - k) ⟨q1, q2.1, q2.2, q4⟩
            case key2 =>
              rintro o2 i2 ka ⟨r1, r2, hi2, hmm⟩
              clear q1 q2 q4 hk
              refine wpS_bind (wpS_elem (by lia) ?_)
              have y1 := r1.pushB (by lia) q3.2
              refine wpS_beq (fun hy => wpS_pure (.inr ⟨_, _, rfl, y1.first, ok4⟩)) (fun hy => ?_)
              have hj2 : 2 ≤ j - 1 ∧ j - 1 ≤ b.size ∧ m + 1 + i2 + (j - 1) ≤ a.size + b.size := by lia
              generalize o2.push b[j - 1] = o3 at y1 ⊢
              clear r1 hy hmm q3
              generalize j - 1 = j2 at y1 hj2 ⊢
              refine wpS_bind (wpS_elem (by lia) ?_)
              refine wpS_bind (wpS_gallop ok4.1.kind hb (keys_at ha _) (by lia) (by lia) fun k1 hk1 => ?_)
              refine via3 (T := ?T3) (fun o5 j5 => Behind a b o5 i2 j5 ∧ 2 ≤ j5 ∧ j5 ≤ b.size ∧ m + 1 + i2 + j5 ≤ a.size + b.size) ?key3 ?main3
              case main3 =>
                intro key
                refine wpS_ite (fun hk2 => ?_) (fun hk2 => ?_)
                · skip
                  have z1 := Behind.extB (k := k1) y1 (by lia)
                  refine wpS_beq (fun hy2 => wpS_pure (.inr ⟨_, _, rfl, z1.first, ok4⟩)) (fun hy2 => ?_)
                  refine wpS_beq (fun hy3 => wpS_pure (.inr ⟨_, _, rfl, z1.done, ok4⟩)) (fun hy3 => ?_)
                  have pt : 2 ≤ k1 ∧ k1 ≤ b.size ∧ m + 1 + i2 + k1 ≤ a.size + b.size := by lia
                  clear hy2 hy3 hk2
                  generalize o3 ++ (b.extract k1 j2).reverse = o5 at z1 ⊢
                  generalize j2 - k1 = kb
                  generalize k1 = j5 at z1 pt ⊢
                  exact key o5 j5 kb ⟨z1, pt⟩
                · with_reducible exact key o3 j2 (j2 - k1) ⟨y1, hj2⟩
              case key3 =>
                rintro o5 j5 kb ⟨t1, t2, t3, t4⟩
                refine wpS_bind (wpS_elem (by lia) ?_)
                have u1 := t1.pushA r2 hi2
                refine wpS_beq (fun hz => wpS_pure (.inr ⟨_, _, rfl, u1.done, ok4⟩)) (fun hz => ?_)
                have on5 : HiOn a b (m + 1) (o5.push a[i2 - 1]) (i2 - 1) j5 := ⟨u1, ⟨by lia, by lia⟩, ⟨t2, t3⟩, by lia⟩
                split
                · exact wpS_pure (.inl ⟨_, _, _, _, _, _, rfl, on5, ok4⟩)
                · exact wpS_pure ⟨_, _, _, _, _, _, rfl, on5, ok4⟩
      · obtain ⟨i, j, o, ac, bc⟩ := rest
        exact wpS_pure ⟨_, _, rfl, hp, ok2⟩
end
end Srt
namespace Srt
open PySem PyProof.Rows
noncomputable def Cov : List (Nat × Nat × Nat) → Nat → Nat → Prop
  | [], s, e => s = e
  | q :: r, s, e => q.1 = s ∧ 1 ≤ q.2.1 ∧ Cov r (s + q.2.1) e
theorem Cov.le : ∀ {l : List (Nat × Nat × Nat)} {s e : Nat}, Cov l s e → s ≤ e
  | [], _, _, h => by unfold Cov at h; lia
  | q :: r, s, e, h => by
    obtain ⟨h1, h2, h3⟩ := h
    have := h3.le
    lia
theorem Cov.snoc : ∀ {l : List (Nat × Nat × Nat)} {s e n g : Nat}, Cov l s e → 1 ≤ n → Cov (l ++ [(e, n, g)]) s (e + n)
  | [], _, _, _, _, h, hn => by unfold Cov at h; subst h; exact ⟨rfl, hn, rfl⟩
  | q :: r, s, e, n, g, h, hn => ⟨h.1, h.2.1, h.2.2.snoc hn⟩
theorem Cov.two : ∀ {l : List (Nat × Nat × Nat)} {s e i : Nat}, Cov l s e → i + 1 < l.length → ∃ a n g m g', l[i]? = some (a, n, g) ∧ l[i + 1]? = some (a + n, m, g') ∧ 1 ≤ n ∧ 1 ≤ m ∧ a + n + m ≤ e ∧
    Cov ((l.set i (a, n + m, g)).eraseIdx (i + 1)) s e
  | [], _, _, _, _, h => by simp at h
  | [q], _, _, i, _, h => by simp at h
  | q :: q' :: r, s, e, 0, h, _ => by
    obtain ⟨h1, h2, h3, h4, h5⟩ := h
    have := h5.le
    obtain ⟨a, n, g⟩ := q
    obtain ⟨b, m, g'⟩ := q'
    simp only at h1 h2 h3 h4 h5 this
    subst h1 h3
    refine ⟨_, _, _, _, _, rfl, rfl, h2, h4, by lia, rfl, by simp only; lia, ?_⟩
    simp only
    rw [← Nat.add_assoc]
    exact h5
  | q :: q' :: r, s, e, i + 1, h, hi => by
    obtain ⟨a, n, g, m, g', e1, e2, h1, h2, h3, h4⟩ := h.2.2.two (i := i) (by simp at hi ⊢; lia)
    exact ⟨a, n, g, m, g', by simpa using e1, by simpa using e2, h1, h2, h3, by simpa using ⟨h.1, h.2.1, h4⟩⟩
theorem Cov.mod : ∀ {l : List (Nat × Nat × Nat)} {s e i g : Nat}, Cov l s e → Cov (l.modify i fun q => (q.1, q.2.1, g)) s e
  | [], _, _, i, _, h => by cases i <;> simpa using h
  | q :: r, s, e, 0, g, h => by simpa [Cov] using h
  | q :: r, s, e, i + 1, g, h => by
    have := h.2.2.mod (i := i) (g := g)
    simpa using ⟨h.1, h.2.1, this⟩
theorem wrote : ∀ (l : List Keyed) (x : Array Keyed) (d k : Nat), d + k + l.length ≤ x.size →
    ((l.zipIdx k).foldl (fun (y : Array Keyed) (q : Keyed × Nat) => y.setIfInBounds (d + q.2) q.1) x).toList = x.toList.take (d + k) ++ l ++ x.toList.drop (d + k + l.length)
  | [], x, d, k, h => by simp
  | q :: l, x, d, k, h => by
    simp only [List.length_cons] at h
    rw [List.zipIdx_cons, List.foldl_cons]
    have z : x.size = (x.setIfInBounds (d + k) q).size := by simp
    have ih := wrote l (x.setIfInBounds (d + k) q) d (k + 1) (by rw [← z]; lia)
    rw [ih, Array.toList_setIfInBounds, List.drop_set_of_lt (by lia), show d + (k + 1) = d + k + 1 by lia, List.take_add_one, List.getElem?_set_self (by simp; lia)]
    rw [List.take_set, List.set_eq_of_length_le (by rw [List.length_take]; lia)]
    simp only [List.length_cons, Option.toList_some, List.append_assoc, List.cons_append, List.nil_append]
    congr 4
    lia
theorem wrote_perm {x o : Array Keyed} {i k : Nat} (hk : i + k ≤ x.size) (h : o.toList.Perm ((x.toList.drop i).take k)) :
    (o.toList.zipIdx.foldl (fun (y : Array Keyed) (q : Keyed × Nat) => y.setIfInBounds (i + q.2) q.1) x).Perm x := by
  have hl : o.toList.length = k := by rw [h.length_eq]; simp; lia
  rw [Array.perm_iff_toList_perm, wrote _ _ _ _ (by lia)]
  have e : x.toList = x.toList.take i ++ ((x.toList.drop i).take k ++ x.toList.drop (i + k)) := by rw [← List.drop_drop, List.take_append_drop, List.take_append_drop]
  conv => rhs; rw [e]
  rw [Nat.add_zero, hl, List.append_assoc]
  exact (h.append_right _).append_left _
section
variable {prog : Program} {w : World} {A : Around} {E : Value → Shared → Prop} {s : Shared} {st : SortSt} {a₀ x₀ : Array Keyed} {p : Array (Nat × Nat × Nat)}
theorem wpS_set {σ : Type} {M : Model} {x : σ} {Q : PUnit → σ → Prop} {st : σ} (h : Q ⟨⟩ x) : wpS M A E s (set x : StateT σ Sem PUnit) Q st := by
  unfold wpS
  rw [StateT.run_set]
  exact wpAny_pure ⟨rfl, h⟩
theorem keys_ext {x : Array Keyed} (h : IntKeys x) (i k : Nat) : IntKeys (x.extract i (i + k)) := fun q hq => by
  rw [ext_list] at hq
  exact h q (List.mem_of_mem_drop (List.mem_of_mem_take hq))
theorem wpS_mergeAt {i e : Nat} {Q : Bool → SortSt → Prop} (h0 : IntKeys a₀) (ok : Ok a₀ p st) (hc : Cov p.toList 0 e) (he : e ≤ a₀.size) (hi : i + 1 < p.size)
    (h : ∀ p' st', Ok a₀ p' st' → Cov p'.toList 0 e → p'.size + 1 = p.size → Q true st') : wpS (model prog w) A E s (mergeAt' i) Q st := by
  obtain ⟨sa, na, g, nb, g', e1, e2, h1, h2, h3, h4⟩ := hc.two (i := i) (by simpa using hi)
  have hsz := ok.size
  have hks := ok.keys h0
  have p1 : (pendingOf st)[i]? = some (sa, na, g) := by rw [ok.pend]; simpa using e1
  have p2 : (pendingOf st)[i + 1]? = some (sa + na, nb, g') := by rw [ok.pend]; simpa using e2
  unfold mergeAt'
  show wpS _ _ _ _ (_ >>= _) _ _
  refine wpS_bind (wpS_get ?_)
  rw [p1, p2]
  refine wpS_bind (wpS_set ?_)
  have ok1 : Ok a₀ (((pendingOf st).setIfInBounds i (sa, na + nb, g)).eraseIdxIfInBounds (i + 1)) (SortSt.mk' (kindOf st) (arrOf st) (((pendingOf st).setIfInBounds i (sa, na + nb, g)).eraseIdxIfInBounds (i + 1)) (gallopOf st) (failedOf st)) :=
    ⟨ok.perm, ok.kind, ok.failed, rfl⟩
  have z1 : (((pendingOf st).setIfInBounds i (sa, na + nb, g)).eraseIdxIfInBounds (i + 1)).toList = (p.toList.set i (sa, na + nb, g)).eraseIdx (i + 1) := by
    rw [ok.pend, Array.eraseIdxIfInBounds, dif_pos (by simpa using hi)]
    simp
  have c1 : Cov (((pendingOf st).setIfInBounds i (sa, na + nb, g)).eraseIdxIfInBounds (i + 1)).toList 0 e := by rw [z1]; exact h4
  have n1 : (((pendingOf st).setIfInBounds i (sa, na + nb, g)).eraseIdxIfInBounds (i + 1)).size + 1 = p.size := by
    have := congrArg List.length z1
    rw [List.length_eraseIdx_of_lt (by simpa using hi), List.length_set] at this
    simp only [Array.length_toList] at this
    lia
  refine wpS_bind (wpS_elem (by show _ < (arrOf st).size; lia) ?_)
  refine wpS_bind (wpS_gallop ok1.kind hks (keys_at hks _) (by show _ ≤ (arrOf st).size; lia) (by lia) fun k hk => ?_)
  dsimp only
  by_cases hz : na - k = 0
  · rw [if_pos (by simpa using hz)]
    exact wpS_pure (h _ _ ok1 c1 n1)
  rw [if_neg (by simpa using hz)]
  refine wpS_bind (wpS_elem (by show _ < (arrOf st).size; lia) ?_)
  refine wpS_bind (wpS_gallop ok1.kind hks (keys_at hks _) (by show _ ≤ (arrOf st).size; lia) (by lia) fun m hm => ?_)
  dsimp only
  by_cases hz2 : m = 0
  · rw [if_pos (by simpa using hz2)]
    exact wpS_pure (h _ _ ok1 c1 n1)
  rw [if_neg (by simpa using hz2)]
  have ex : (arrOf st).extract (sa + k) (sa + na) = (arrOf st).extract (sa + k) (sa + k + (na - k)) := by congr 1; lia
  have kx : IntKeys ((arrOf st).extract (sa + k) (sa + na)) := by rw [ex]; exact keys_ext hks _ _
  have ky : IntKeys ((arrOf st).extract (sa + na) (sa + na + m)) := keys_ext hks _ _
  have xy : ((arrOf st).extract (sa + k) (sa + na)).toList ++ ((arrOf st).extract (sa + na) (sa + na + m)).toList = ((arrOf st).toList.drop (sa + k)).take (na - k + m) := by
    rw [ex, ext_list, ext_list, List.take_add, List.drop_drop]
    congr 3
    lia
  have fin : ∀ (o : Array Keyed) (st' : SortSt), Still a₀ (((pendingOf st).setIfInBounds i (sa, na + nb, g)).eraseIdxIfInBounds (i + 1)) (arrOf st) st' → o.toList.Perm (((arrOf st).extract (sa + k) (sa + na)).toList ++ ((arrOf st).extract (sa + na) (sa + na + m)).toList) →
      Ok a₀ (((pendingOf st).setIfInBounds i (sa, na + nb, g)).eraseIdxIfInBounds (i + 1)) (setArr st' (o.toList.zipIdx.foldl (fun (y : Array Keyed) (q : Keyed × Nat) => y.setIfInBounds (sa + k + q.2) q.1) (arrOf st'))) := fun o st' ok2 hp => by
    refine ok2.1.set ?_
    rw [xy] at hp
    rw [ok2.2]
    exact wrote_perm (by lia) hp
  have sx : 1 ≤ ((arrOf st).extract (sa + k) (sa + na)).size := by rw [Array.size_extract]; lia
  have sy : 1 ≤ ((arrOf st).extract (sa + na) (sa + na + m)).size := by rw [Array.size_extract]; lia
  by_cases hle : na - k ≤ m
  · rw [if_pos hle]
    refine wpS_bind (wpS_mergeLo ⟨ok1, rfl⟩ kx ky sx sy fun o st' ok2 hp => ?_)
    refine wpS_bind (wpS_modify (wpS_bind (wpS_get (wpS_pure ?_))))
    have ok3 := fin o st' ok2 hp
    have e3 := ok3.failed
    have := h _ _ ok3 c1 n1
    rw [show (failedOf st').isNone = true by rw [ok2.1.failed]; rfl]
    exact this
  · rw [if_neg hle]
    refine wpS_bind (wpS_mergeHi ⟨ok1, rfl⟩ kx ky sx sy fun o st' ok2 hp => ?_)
    refine wpS_bind (wpS_modify (wpS_bind (wpS_get (wpS_pure ?_))))
    have ok3 := fin o st' ok2 hp
    have := h _ _ ok3 c1 n1
    rw [show (failedOf st').isNone = true by rw [ok2.1.failed]; rfl]
    exact this
end
end Srt
namespace Srt
open PySem PyProof.Rows
section
variable {prog : Program} {w : World} {A : Around} {E : Value → Shared → Prop} {s : Shared} {st : SortSt} {a₀ x₀ : Array Keyed} {p : Array (Nat × Nat × Nat)}
theorem Ok.setP (h : Ok a₀ p st) (p' : Array (Nat × Nat × Nat)) : Ok a₀ p' (setPending st p') := ⟨h.perm, h.kind, h.failed, rfl⟩
theorem wpS_runs {Q : Unit → SortSt → Prop} (h0 : IntKeys a₀) (ok : Ok a₀ #[] st) (h : ∀ st', (arrOf st').Perm a₀ → failedOf st' = none → Q () st') : wpS (model prog w) A E s sortRuns' Q st := by
  rw [sortRuns'_eq]
  refine wpS_bind (wpS_get ?_)
  dsimp only
  simp only [ok.size]
  refine wpS_bind (wpS_mono (wpS_forRange (I := fun _ c st' => ∃ lo p, c = (none, lo) ∧ Ok a₀ p st' ∧ Cov p.toList 0 lo ∧ lo ≤ a₀.size) (Q := fun c st' => ∃ lo p, c = (none, lo) ∧ Ok a₀ p st' ∧ Cov p.toList 0 lo ∧ lo ≤ a₀.size) ?step (fun _ _ z => z) ⟨0, #[], rfl, ok, rfl, by omega⟩) ?post)
  case step =>
    rintro x c st' _ hx ⟨lo, p, rfl, ok', hc, hlo⟩
    dsimp only
    by_cases hz : lo ≥ a₀.size
    · rw [if_pos hz]
      exact wpS_pure ⟨lo, p, rfl, ok', hc, hlo⟩
    rw [if_neg hz]
    refine wpS_bind (wpS_count h0 (by omega) (by omega) ok' fun m stX ok2 hm1 hm2 => ?_)
    dsimp only
    by_cases hmr : m < minRun' a₀.size a₀.size 0
    · rw [if_pos hmr]
      refine wpS_bind (wpS_lift (wpAny_rule ⟨rfl, ?_⟩))
      refine wpS_bind (wpS_bin h0 (by omega) ok2 fun stX ok3 => ?_)
      rw [if_neg (by decide)]
      refine wpS_bind (wpS_get ?_)
      cases hbk : (pendingOf stX).back? with
      | none =>
        refine wpS_bind (wpS_modify (wpS_pure ⟨_, _, rfl, Ok.setP ok3 _, ?_, by omega⟩))
        show Cov ((pendingOf stX).push _).toList 0 _
        rw [Array.toList_push, Ok.pend ok3]
        exact hc.snoc (by omega)
      | some q =>
        obtain ⟨s1, n1, g1⟩ := q
        refine wpS_bind (wpS_mono (wpS_forRange (I := fun _ c st3 => c = (none, ()) ∧ ∃ p, Ok a₀ p st3 ∧ Cov p.toList 0 lo) (Q := fun c st3 => c = (none, ()) ∧ ∃ p, Ok a₀ p st3 ∧ Cov p.toList 0 lo) ?_ (fun _ _ z => z) ⟨rfl, _, ok3, hc⟩) ?_)
        · rintro y c st3 _ _ ⟨rfl, p3, ok3, hc3⟩
          refine wpS_bind (wpS_get ?_)
          rw [ok3.pend]
          by_cases h2 : p3.size > 1
          · rw [if_pos h2, getElem?_pos p3 (p3.size - 2) (by omega)]
            generalize p3[p3.size - 2] = q
            obtain ⟨u, v, old⟩ := q
            dsimp only
            split
            · exact wpS_pure ⟨rfl, p3, ok3, hc3⟩
            · exact wpS_bind (wpS_mergeAt h0 ok3 hc3 hlo (by omega) fun p4 st4 ok4 hc4 _ => wpS_pure ⟨rfl, p4, ok4, hc4⟩)
          · rw [if_neg h2]
            exact wpS_pure ⟨rfl, p3, ok3, hc3⟩
        · rintro c st3 ⟨rfl, p3, ok3, hc3⟩
          refine wpS_bind (wpS_modify (wpS_bind (wpS_modify (wpS_pure ⟨_, _, rfl, ⟨ok3.perm, ok3.kind, ok3.failed, rfl⟩, ?_, by omega⟩))))
          show Cov (((pendingOf st3).modify _ _).push _).toList 0 _
          rw [Array.toList_push, Array.toList_modify, ok3.pend]
          exact (Cov.mod hc3).snoc (by omega)
    · rw [if_neg hmr]
      refine wpS_bind (wpS_get ?_)
      cases hbk : (pendingOf stX).back? with
      | none =>
        refine wpS_bind (wpS_modify (wpS_pure ⟨_, _, rfl, Ok.setP ok2 _, ?_, by omega⟩))
        show Cov ((pendingOf stX).push _).toList 0 _
        rw [Array.toList_push, Ok.pend ok2]
        exact hc.snoc (by omega)
      | some q =>
        obtain ⟨s1, n1, g1⟩ := q
        refine wpS_bind (wpS_mono (wpS_forRange (I := fun _ c st3 => c = (none, ()) ∧ ∃ p, Ok a₀ p st3 ∧ Cov p.toList 0 lo) (Q := fun c st3 => c = (none, ()) ∧ ∃ p, Ok a₀ p st3 ∧ Cov p.toList 0 lo) ?_ (fun _ _ z => z) ⟨rfl, _, ok2, hc⟩) ?_)
        · rintro y c st3 _ _ ⟨rfl, p3, ok3, hc3⟩
          refine wpS_bind (wpS_get ?_)
          rw [ok3.pend]
          by_cases h2 : p3.size > 1
          · rw [if_pos h2, getElem?_pos p3 (p3.size - 2) (by omega)]
            generalize p3[p3.size - 2] = q
            obtain ⟨u, v, old⟩ := q
            dsimp only
            split
            · exact wpS_pure ⟨rfl, p3, ok3, hc3⟩
            · exact wpS_bind (wpS_mergeAt h0 ok3 hc3 hlo (by omega) fun p4 st4 ok4 hc4 _ => wpS_pure ⟨rfl, p4, ok4, hc4⟩)
          · rw [if_neg h2]
            exact wpS_pure ⟨rfl, p3, ok3, hc3⟩
        · rintro c st3 ⟨rfl, p3, ok3, hc3⟩
          refine wpS_bind (wpS_modify (wpS_bind (wpS_modify (wpS_pure ⟨_, _, rfl, ⟨ok3.perm, ok3.kind, ok3.failed, rfl⟩, ?_, by omega⟩))))
          show Cov (((pendingOf st3).modify _ _).push _).toList 0 _
          rw [Array.toList_push, Array.toList_modify, ok3.pend]
          exact (Cov.mod hc3).snoc (by omega)
  case post =>
    rintro c st' ⟨lo, p, rfl, ok', hc, hlo⟩
    refine wpS_bind (wpS_mono (wpS_forRange (I := fun _ c st3 => c = (none, ()) ∧ ∃ p, Ok a₀ p st3 ∧ Cov p.toList 0 lo) (Q := fun c st3 => c = (none, ()) ∧ ∃ p, Ok a₀ p st3 ∧ Cov p.toList 0 lo) ?_ (fun _ _ z => z) ⟨rfl, _, ok', hc⟩) ?_)
    · rintro y c st3 _ _ ⟨rfl, p3, ok3, hc3⟩
      refine wpS_bind (wpS_get ?_)
      rw [ok3.pend]
      by_cases h2 : p3.size ≤ 1
      · rw [if_pos h2]
        exact wpS_pure ⟨rfl, p3, ok3, hc3⟩
      · rw [if_neg h2]
        have hi : ∀ (c : Prop) [Decidable c], (if c then p3.size - 2 - 1 else p3.size - 2) + 1 < p3.size := fun c _ => by
          by_cases hc : c
          · rw [if_pos hc]; omega
          · rw [if_neg hc]; omega
        exact wpS_bind (wpS_mergeAt h0 ok3 hc3 hlo (hi _) fun p4 st4 ok4 hc4 _ => wpS_pure ⟨rfl, p4, ok4, hc4⟩)
    · rintro c st3 ⟨rfl, p3, ok3, hc3⟩
      exact wpS_pure (h _ ok3.perm ok3.failed)
end
end Srt
namespace Srt
open PySem PyProof.Rows
theorem perm_out {vs : List Value} {ns : List Int} (hI : IntsAre vs ns) {xs : Array Keyed} (hp : xs.Perm (pairsOf vs)) : ∃ ns', IntsAre (xs.map (·.2)).toList ns' ∧ ns'.Perm ns := by
  have hq : (xs.map (·.2)).toList.Perm vs := by
    have h1 := (Array.perm_iff_toList_perm.mp hp).map (·.2)
    have h2 : (pairsOf vs).toList.map (·.2) = vs := by rw [pairsOf_toList]; exact List.map_snd_zip (Nat.le_refl _)
    rw [h2] at h1
    rwa [Array.toList_map]
  refine ⟨_, intsAre_map _ fun v hv => hI.all v (hq.mem_iff.mp hv), ?_⟩
  rw [← hI.nums]
  exact hq.map numOf
section
variable {prog : Program} {w : World} {A : Around} {E : Value → Shared → Prop} {s : Shared}
theorem list_sort_any {l : Addr} {vs : List Value} {ns : List Int} {n : Nat} {P : Fin → Shared → Prop} (at_ : s.heap.get? l = some (seqObj "list" vs.toArray n)) (hI : IntsAre vs ns) (hz : vs.length ≤ sizeLine)
    (h : ∀ (out : Array Value) (ns' : List Int), IntsAre out.toList ns' → ns'.Perm ns → P (.done (.ret .none)) { s with heap := sortedHeap s.heap l vs out }) :
    wpAny (model prog w) A (Builtin.«list.sort» ⟨[.ref l], []⟩) P E s := by
  have hlt : l < s.heap.objs.size := Heap.lt_size at_
  have hsz : vs.toArray.size = vs.length := by simp
  rw [list_sort_plain]
  obtain ⟨e1, at1⟩ : ∃ e1, (s.heap.update l (Obj.mapSeq fun _ => #[])).get? l = some (seqObj "list" #[] e1) := ⟨_, get?_update_seq at_ (fun _ => #[])⟩
  refine wpAny_bind (listItems_at at_ rfl (wpAny_bind (listUpdate_at at_ rfl (wpAny_bind (seqEpoch_at at1 rfl (wpAny_bind (wpAny_newTuple (wpAny_bind (wpAny_newList (wpAny_holding ?_)))))) ) (by omega) (by simp))))
  have at2 : (((s.heap.update l (Obj.mapSeq fun _ => #[])).push (seqObj "tuple" vs.toArray 0)).push (seqObj "list" #[] 0)).get? l = some (seqObj "list" #[] e1) := by
    refine Heap.get?_push_of_some _ (Heap.get?_push_of_some _ at1)
  show wpAny (model prog w) A _ P E { s with heap := ((s.heap.update l (Obj.mapSeq fun _ => #[])).push (seqObj "tuple" vs.toArray 0)).push (seqObj "list" #[] 0) }
  dsimp only
  have fin : ∀ st' : SortSt, (arrOf st').Perm (pairsOf vs) → P (.done (.ret .none)) { s with heap := sortedHeap s.heap l vs ((arrOf st').map (·.2)) } := fun st' hp => by
    obtain ⟨ns', h1, h2⟩ := perm_out hI hp
    exact h _ ns' h1 h2
  have big : ∀ st' : SortSt, (arrOf st').Perm (pairsOf vs) → ((arrOf st').map (·.2)).size ≤ sizeLine + 1 := fun st' hp => by
    rw [Array.size_map, hp.size_eq, pairsOf_size]; omega
  by_cases h2 : vs.toArray.size < 2
  · rw [if_pos h2, if_pos h2]
    refine wpAny_bind (wpAny_pure (show wpAny _ _ _ _ _ _ from ?_))
    rw [StateT.run_pure]
    refine wpAny_bind (wpAny_pure (wpAny_bind (seqEpoch_at at2 rfl (wpAny_bind (listUpdate_at at2 rfl ?_ (by simp) (big (SortSt.mk' general' (vs.toArray.zip vs.toArray) #[] 7 none) (Array.Perm.refl _)))))))
    simp only [bne_self_eq_false, Bool.false_eq_true, if_false]
    exact wpAny_pure (fin (SortSt.mk' general' (vs.toArray.zip vs.toArray) #[] 7 none) (Array.Perm.refl _))
  · rw [if_neg h2, if_neg h2]
    obtain ⟨v1, v2, r, rfl⟩ : ∃ v1 v2 r, vs = v1 :: v2 :: r := by
      rcases vs with _ | ⟨v1, _ | ⟨v2, r⟩⟩
      · simp at h2
      · simp at h2
      · exact ⟨v1, v2, r, rfl⟩
    rw [keyKind_ints hI]
    refine wpAny_bind (wpAny_pure (wpAny_bind (wpAny_mono (wpS_runs (a₀ := pairsOf (v1 :: v2 :: r)) (st := SortSt.mk' oneType' ((v1 :: v2 :: r).toArray.zip (v1 :: v2 :: r).toArray) #[] 7 none)
      (Q := fun _ st' => (arrOf st').Perm (pairsOf (v1 :: v2 :: r)) ∧ failedOf st' = none) hI.intKeys ⟨Array.Perm.refl _, rfl, rfl, rfl⟩ fun st' a1 a2 => ⟨a1, a2⟩) ?_ fun _ _ e => e)))
    rintro ⟨⟨⟩, st'⟩ s' ⟨rfl, hp, hf⟩
    dsimp only
    refine wpAny_bind (seqEpoch_at at2 rfl (wpAny_bind (listUpdate_at at2 rfl ?_ (by simp) (big st' hp))))
    rw [hf]
    simp only [bne_self_eq_false, Bool.false_eq_true, if_false]
    exact wpAny_pure (fin st' hp)
end
end Srt
namespace Srt
open PySem PyProof.Rows
section
variable {prog : Program} {w : World} {A : Around} {E : Value → Shared → Prop} {s : Shared} {T : String} {r d : Addr} {n : Nat} {P : Nat → Value → Prop} {OK : Heap → Prop}
theorem gather_src {R : Result → Shared → Prop} (K : PySem.W.KdlSrc prog w T r d n P OK) (hh : A.handled = none) (hok : OK s.heap) (hn : n ≤ sizeLine)
    (h : ∀ h' tk acc c, (∀ b o, s.heap.get? b = some o → h'.get? b = some o) → h'.get? s.heap.objs.size = some { cls := .type "list", dict := none, data := .seq acc c, slots := #[] } → ItemsOf P acc n → R (.ok (.ret (.ref s.heap.objs.size))) { s with heap := h', toks := tk }) :
    codeAny (model prog w) A (.builtin "proto.collect" ⟨[.ref r], []⟩) R s := by
  have lt := K.there _ hok
  refine codeAny_builtin PySem.F.entry_proto_collect ?_
  rw [Around.under_plainId PySem.F.plain_proto_collect _]
  show wpAny _ A.in1 (newList [] >>= fun l => again (.builtin "list.__iadd__" ⟨[l, .ref r], []⟩)) _ _ s
  refine wpAny_bind (wpAny_newObj_type (wpAny_pure ⟨plainId_quiet PySem.F.plain_list_iadd _, codeAny_builtin PySem.F.entry_list_iadd ?_⟩))
  rw [Around.under_plainId PySem.F.plain_list_iadd _]
  show wpAny _ A.in1 (Builtin.List.listExtendWith (.ref s.heap.objs.size) (.ref r) (.ref s.heap.objs.size)) _ _ _
  exact PySem.W.kdl_extend (R := R) (s := { s with heap := s.heap.push { cls := .type "list", data := .seq ([] : List Value).toArray } }) K hh (K.keep _ _ hok fun b _ o e => Heap.get?_push_of_some _ e) s.heap.objs.size (Nat.ne_of_gt lt.1) (Nat.ne_of_gt lt.2) _ 0 (Heap.get?_push_size _ rfl)
    (fun h' tk acc c k hS hacc => h h' tk acc c (fun b o e => k b o (Nat.ne_of_lt (Heap.lt_size e)) (Heap.get?_push_of_some _ e)) hS hacc) hn
theorem collect_src {Q : List Value → Shared → Prop} (K : PySem.W.KdlSrc prog w T r d n P OK) (hh : A.handled = none) (hok : OK s.heap) (hn : n ≤ sizeLine)
    (h : ∀ h' tk acc, (∀ b o, s.heap.get? b = some o → h'.get? b = some o) → s.heap.objs.size < h'.objs.size → ItemsOf P acc n → Q acc.toList { s with heap := h', toks := tk }) : wpAny (model prog w) A (collect (.ref r)) Q E s := by
  unfold collect
  refine wpAny_bind (wpAny_runValue (gather_src K hh hok hn fun h' tk acc c k hS hacc => ?_))
  show wpAny _ A (load s.heap.objs.size >>= _) _ _ _
  exact wpAny_bind (wpAny_load hS (wpAny_pure (h h' tk acc k (Heap.lt_size hS) hacc)))
theorem sorted_heap {h : Heap} {l : Addr} {vs : List Value} {out : Array Value} {c : Nat} (e : h.get? l = some (seqObj "list" vs.toArray c)) :
    (∃ c', (sortedHeap h l vs out).get? l = some (seqObj "list" out c')) ∧ ∀ b o, b ≠ l → h.get? b = some o → (sortedHeap h l vs out).get? b = some o := by
  unfold sortedHeap
  constructor
  · exact ⟨_, get?_update_seq (Heap.get?_push_of_some _ (Heap.get?_push_of_some _ (get?_update_seq e _))) _⟩
  · intro b o hb q
    refine (Heap.get?_update_other _ _ (Ne.symm hb)).trans (Heap.get?_push_of_some _ (Heap.get?_push_of_some _ ?_))
    exact (Heap.get?_update_other _ _ (Ne.symm hb)).trans q
theorem sorted_src {ns : List Int} {Q : Value → Shared → Prop} (K : PySem.W.KdlSrc prog w T r d n P OK) (hh : A.handled = none) (hok : OK s.heap) (hn : n ≤ sizeLine) (hi : ∀ acc, ItemsOf P acc n → IntsAre acc.toList ns)
    (h : ∀ h' tk D c (out : Array Value) (ns' : List Int), (∀ b o, s.heap.get? b = some o → h'.get? b = some o) → s.heap.objs.size ≤ D → h'.get? D = some (seqObj "list" out c) → IntsAre out.toList ns' → ns'.Perm ns → Q (.ref D) { s with heap := h', toks := tk }) :
    wpAny (model prog w) A (call (.builtin "sorted") [.ref r]) Q E s := by
  refine Calls.call_function_entry kind_sorted plain_sorted entry_sorted (args_sorted1 _) ?_
  unfold Builtin.«sorted»
  refine wpAny_bind (m := checkCount "sorted" 1 1 _) (wpAny_pure (wpAny_bind (collect_src K (by exact hh) hok hn fun h1 tk acc k1 z1 hacc => ?_)))
  have hI := hi acc hacc
  have hz : acc.toList.length ≤ sizeLine := by rw [Array.length_toList, hacc.1]; exact hn
  refine wpAny_bind (wpAny_newList ?_ (hsz := hz))
  have at1 : (h1.push (seqObj "list" acc.toList.toArray 0)).get? h1.objs.size = some (seqObj "list" acc.toList.toArray 0) := Heap.get?_push_size _ rfl
  refine wpAny_bind (wpAny_holding (wpAny_call_entry slot_list_sort ⟨_, at1, rfl⟩ entry_list_sort (list_sort_any at1 hI hz fun out ns' a1 a2 => ⟨_, rfl, ?_⟩) (args_list_sort _)))
  obtain ⟨⟨c', g1⟩, g2⟩ := sorted_heap (out := out) at1
  refine wpAny_pure ⟨_, rfl, h _ _ _ c' out ns' (fun b o e => ?_) ?_ g1 a1 a2⟩
  · have e1 := k1 b o e
    exact g2 b o (Nat.ne_of_lt (Heap.lt_size e1)) (Heap.get?_push_of_some _ e1)
  · exact Nat.le_of_lt z1
end
end Srt
namespace L2
open PySem PySem.Spec PyProof.Rows
theorem keys_ints {P : Program} {w : World} {vs : List (Key × Value)} {ns : List Int} (hk : vs.map (·.1) = ns.map Sum.inl) {acc : Array Value} (h : ItemsOf (fun i v => ∃ k x, vs[i]? = some (k, x) ∧ (mixKind P w).is k v = true) acc vs.length) : IntsAre acc.toList ns := by
  have hl : vs.length = ns.length := by simpa using congrArg List.length hk
  have at_ : ∀ (i : Nat) (v : Value), acc.toList[i]? = some v → ∃ n t, ns[i]? = some n ∧ v = Value.int n t := fun i v e => by
    obtain ⟨k, x, h1, h2⟩ := h.2 i v (by rw [← Array.getElem?_toList]; exact e)
    have h3 : (vs.map (·.1))[i]? = some k := by rw [List.getElem?_map, h1]; rfl
    rw [hk, List.getElem?_map] at h3
    cases q : ns[i]? with
    | none => rw [q] at h3; cases h3
    | some m =>
      rw [q] at h3
      have h4 : Sum.inl m = k := Option.some.inj h3
      subst h4
      have h5 : keyIs (Sum.inl m) v = true := h2
      rcases keyIs_shape h5 with ⟨i', t, e1, e2⟩ | ⟨y, t, e1, _⟩
      · cases e1; exact ⟨m, t, rfl, e2⟩
      · cases e1
  have all : ∀ v : Value, v ∈ acc.toList → ∃ n t, v = Value.int n t := fun v hv => by
    obtain ⟨i, hi⟩ := List.getElem?_of_mem hv
    obtain ⟨n, t, _, e⟩ := at_ i v hi
    exact ⟨n, t, e⟩
  have hm := intsAre_map _ all
  have e : acc.toList.map numOf = ns := by
    apply List.ext_getElem?
    intro i
    rw [List.getElem?_map]
    cases q : acc.toList[i]? with
    | none =>
      have : acc.size ≤ i := by simpa using q
      have hs := h.1
      rw [List.getElem?_eq_none (by lia)]
      rfl
    | some v =>
      obtain ⟨n, t, e1, e2⟩ := at_ i v q
      rw [e1, e2]
      rfl
  rw [e] at hm
  exact hm
section
variable {X : Cx}
theorem call_sortedD (hc : X.calm = true) : CallR X (.builtin "sorted") (fun xs H Q => ∃ (a : Addr) (kvs : List (Key × V)) (ns : List Int), xs = [.ref a] ∧ Rd H a (.dK kvs) ∧ kvs.map (·.1) = ns.map Sum.inl ∧
    ∀ (l : Addr) (ns' : List Int), H l = none → ns'.Perm ns → Q (.ref l) (upd H l (.lst (ns'.map V.int)))) := by
  intro pins s σ H xs us Q I r h
  obtain ⟨a, kvs, ns, rfl, e, hk, q⟩ := h
  obtain ⟨u, rfl, ru⟩ := vals1 r
  cases ru
  obtain ⟨z, hd, vs, rel, o, es, ep, ho, dd⟩ := dk_rd I.hok e
  have hkv : vs.map (·.1) = ns.map Sum.inl := by rw [← rel.keys]; exact hk
  have hl : vs.length = ns.length := by simpa using congrArg List.length hkv
  refine Srt.sorted_src (ns := ns) (PySem.W.kdl_dict (ep := ep) (kvs := vs) (knd := mixKind X.prog X.w) hd) (I.ok.hd hc) ⟨o, es, ho, dd⟩ (by rw [← rel.length]; exact z) (fun acc hacc => keys_ints hkv hacc) fun h' tk D c out ns' k hD hg hI hp => ?_
  have hz : (ns'.map V.int).length ≤ sizeLine := by rw [List.length_map, hp.length_eq, ← hl, ← rel.length]; exact z
  exact ⟨.ref D, _, I.laid (a := D) (o := .lst (ns'.map V.int)) (t' := tk) k hD ⟨hz, out.toList, c, vals_ints hI, by simpa using hg⟩, rfl, q D ns' (I.hok.fresh hD) hp⟩
end
end L2
namespace PySem
open Sem (wp)
theorem list_no_keys : typeLookup (.type "list") "keys" = pure none := by rw [typeLookup_type, builtinLookup_eq_fast]; kernel_rfl
theorem noAttr_list {prog : Program} {w : World} {A : Around} {E : Value → Shared → Prop} {s : Shared} {a : Addr} {o : Obj} {xs : Array Value} {k : Nat} {name : Str} {Q : Option Value → Shared → Prop}
    (hx : s.heap.get? a = some o) (hc : o.cls = .type "list") (hdat : o.data = .seq xs k) (hd : o.dict = none) (hmiss : typeLookup (.type "list") name = pure none) (hname : (["__module__", "__name__", "__qualname__", "__doc__", "__annotations__"] : List Str).contains name = false) (hA : A.handled = none)
    (h : ∀ h' tk, (∀ b ob, s.heap.get? b = some ob → h'.get? b = some ob) → Q none { s with heap := h', toks := tk }) (hsz : name.length + 100 ≤ sizeLine := by size_fits) :
    wpAny (model prog w) A (getAttr? (.ref a) name) Q E s := by
  obtain ⟨c, dct, dat, sl⟩ := o
  simp only at hc hdat hd
  subst hc hdat hd
  obtain ⟨hp, g, d, tk, os⟩ := s
  have hT : ∀ tk', (⟨hp, g, d, tk', os⟩ : Shared).TypeIs (.ref a) "list" := fun _ => ⟨_, hx, rfl⟩
  have f1 := sub_AttributeError
  have f3 := F.slot_list_getattribute.lookup
  have f4 := F.slot_list_getattribute.bind (.ref a)
  have f5 := am_list_getattr_none
  unfold getAttr? getAttrBy? getAttrBy
  repeat (any_goals (first | assumption | exact hT _ | ((with_reducible show wpAny _ _ (call (Value.builtin "list.__getattribute__") _ _) _ _ _); refine call_meets F.slot_list_getattribute (hT _) am_entry_list_getattribute (F.args_list_getattribute_2 _ _) (meets_getattribute_miss_list a xs k sl name _ hmiss hname hsz) ⟨hx, hA, fun h' tk' e hx' => ?_⟩) | wp_step))
  obtain ⟨t', u', he⟩ := hx'.there
  show wpAny _ _ (getattributeRaised _ _ _ _ _ _ _) _ _ _
  unfold getattributeRaised
  repeat (any_goals (first | assumption | wp_step))
  exact h _ _ hx'.keeps
end PySem
namespace PySem
open Sem (wp)
namespace F
theorem entry_dict_update_loop : entryFor table "dict.update.loop" = some Builtin.«dict.update.loop» := entryFor_of_tree (by kernel_rfl)
theorem plain_dict_update_loop : plainId "dict.update.loop" = true := by decide +kernel
end F
section
variable {prog : Program} {w : World} {A : Around} {R : Result → Shared → Prop} {I : Addr} {fp wr : List Addr} {G : Array GenState → Array GenState → Prop} {n : Nat} {P : Nat → Value → Prop} {St : Nat → Shared → Prop}
variable {K : Type} [DecidableEq K] {knd : KeyKind prog w K}
theorem merged_len (rs : List (K × Value)) : (merged [] rs).length ≤ rs.length := by
  have gen : ∀ (rs kvs : List (K × Value)), (merged kvs rs).length ≤ kvs.length + rs.length := by
    intro rs
    induction rs with
    | nil => intro kvs; simp [merged]
    | cons p r ih =>
      intro kvs
      have h := ih (stored kvs p.1 p.2)
      have h2 : (stored kvs p.1 p.2).length ≤ kvs.length + 1 := by
        unfold stored
        split <;> simp
      show (merged (stored kvs p.1 p.2) r).length ≤ _
      simp only [List.length_cons]
      lia
  simpa using gen rs []
theorem codeAny_dict_pairs (W : WalksS prog w A.in1 I fp wr G n P St) (S : Addr) (hSf : S ∉ fp) (res : Value) (rs : List (K × Value)) (hn : rs.length = n) (hz : n ≤ sizeLine) (s0 : Shared)
    (hval : ∀ i v, P i v → ∃ k x, rs[i]? = some (k, x) ∧ ∀ h : Heap, (∀ b o, b ∉ S :: wr → s0.heap.get? b = some o → h.get? b = some o) → ∃ t o c key, v = .ref t ∧ h.get? t = some o ∧ o.cls = .type "tuple" ∧ o.data = .seq #[key, x] c ∧ knd.is k key = true) :
    ∀ (k i : Nat) (tk : Tok) (s : Shared), n - i = k → i ≤ n → St i s → (∀ b o, b ∉ S :: wr → s0.heap.get? b = some o → s.heap.get? b = some o) →
      s.heap.DictOf knd S (merged [] (rs.take i)) →
      (∀ s', Moved (S :: wr) G s s' → s'.heap.DictOf knd S (merged [] rs) → R (.ok (.ret res)) s') →
      codeAny (model prog w) A (.builtin "dict.update.loop" ⟨[.ref S, .ref I, .int (i : Int) tk, res], []⟩) R s := by
  have hSw : S ∉ wr := fun h => hSf (W.sub _ h)
  have hsub : ∀ b ∈ wr, b ∈ S :: wr := fun b hb => List.mem_cons_of_mem _ hb
  intro k
  induction k with
  | zero =>
    intro i tk s hk hi hst h0 hS hR
    have hin : i = n := by lia
    refine codeAny_builtin F.entry_dict_update_loop ?_
    rw [Around.under_plainId F.plain_dict_update_loop _]
    show wpAny _ A.in1 (pyNext (.ref I) >>= _) _ _ s
    refine wpAny_bind (W.done s _ _ (hin ▸ hst) fun s' hm => ?_)
    show wpAny _ A.in1 (Builtin.Dict.addKeywords S [] >>= fun _ => ret res) _ _ s'
    refine wpAny_bind ?_
    unfold Builtin.Dict.addKeywords
    show wpAny _ A.in1 (pure ()) _ _ s'
    refine wpAny_pure (wpAny_pure (hR s' (hm.mono hsub) ?_))
    rw [hin, List.take_of_length_le (by lia)] at hS
    obtain ⟨o, es, ep, ho, rest⟩ := hS
    exact ⟨o, es, ep, hm.heap S _ hSw ho, rest⟩
  | succ k ih =>
    intro i tk s hk hi hst h0 hS hR
    have hlt : i < n := by lia
    refine codeAny_builtin F.entry_dict_update_loop ?_
    rw [Around.under_plainId F.plain_dict_update_loop _]
    show wpAny _ A.in1 (pyNext (.ref I) >>= _) _ _ s
    refine wpAny_bind (W.item i s _ _ hlt hst fun v s' hP hst' hm => ?_)
    have h0' : ∀ b o, b ∉ S :: wr → s0.heap.get? b = some o → s'.heap.get? b = some o := fun b o hb e => hm.heap b o (fun z => hb (hsub b z)) (h0 b o hb e)
    obtain ⟨k', x, hr, ht⟩ := hval i v hP
    obtain ⟨t, o, c, key, rfl, ho, hc, hd, hkey⟩ := ht s'.heap h0'
    have hS' : s'.heap.DictOf knd S (merged [] (rs.take i)) := by
      obtain ⟨o, es, ep, ho, rest⟩ := hS
      exact ⟨o, es, ep, hm.heap S _ hSw ho, rest⟩
    have hT : s'.TypeIs (.ref t) "tuple" := ⟨o, ho, hc⟩
    have hlen : (merged [] (rs.take i)).length ≤ sizeLine := by
      have := merged_len (rs.take i)
      rw [List.length_take] at this
      lia
    refine wpAny_bind (wpAny_holding ?_)
    refine wpAny_bind (wpAny_tryCatch ?_)
    unfold Builtin.Dict.pairItems
    refine wpAny_bind (wpAny_typeOf hT ?_)
    refine wpAny_ite_split (fun _ => ?_) (fun hab => absurd (by decide) hab)
    repeat (any_goals (first | assumption | wp_step))
    rw [hd]
    refine wpAny_pure (wpAny_pure ?_)
    show wpAny _ _ (holding [key, x] (dictSet S key x)) _ _ _
    refine wpAny_holding (wpAny_dictSet_pairs hkey hS' (fun h' hD hsb => ?_) hlen)
    refine wpAny_pure ⟨plainId_quiet F.plain_dict_update_loop _, ?_⟩
    have ei : rawInt ((i : Int) + 1) = rawInt ((i + 1 : Nat) : Int) := by push_cast; rfl
    rw [ei]
    have other : ∀ b o, b ≠ S → s'.heap.get? b = some o → h'.get? b = some o := fun b o hb e => (hsb.2 b hb).trans e
    refine ih (i + 1) _ _ (by lia) hlt (W.frame _ s' _ _ hst' (Nat.le_succ _) fun b hb o e => other b o (fun h : b = S => hSf (by rw [← h]; exact hb)) e)
      (fun b o hb e => other b o (fun h : b = S => hb (by rw [h]; exact List.mem_cons_self)) (h0' b o hb e)) ?_ fun s'' hm'' hS'' => ?_
    · rw [merged_take_succ [] rs i (k', x) hr]
      exact hD
    · refine hR s'' (Moved.trans W.gtrans ((hm.mono hsub).then_heap (Nat.le_succ _) fun b o hb e => ?_) hm'') hS''
      exact other b o (fun h : b = S => hb (by rw [h]; exact List.mem_cons_self)) e
end
end PySem
namespace PySem
open Sem (wp)
section
variable {prog : Program} {w : World} {A : Around} {E : Value → Shared → Prop} {s : Shared}
variable {K : Type} [DecidableEq K] {knd : KeyKind prog w K}
theorem call_dict_pairs {l : Addr} {items : Array Value} {c : Nat} {Q : Value → Shared → Prop} (hh : A.handled = none) (hl : s.heap.get? l = some { cls := .type "list", data := .seq items c }) (hz : items.size ≤ sizeLine) (rs : List (K × Value)) (hn : rs.length = items.size)
    (hval : ∀ (i : Nat) v, items[i]? = some v → ∃ k x, rs[i]? = some (k, x) ∧ ∃ t o c key, v = .ref t ∧ s.heap.get? t = some o ∧ o.cls = .type "tuple" ∧ o.data = .seq #[key, x] c ∧ knd.is k key = true)
    (hQ : ∀ h' tk, h'.DictOf knd s.heap.objs.size (merged [] rs) → (∀ b o, s.heap.get? b = some o → h'.get? b = some o) → Q (.ref s.heap.objs.size) { s with heap := h', toks := tk }) :
    wpAny (model prog w) A (call (.type "dict") [.ref l]) Q E s := by
  refine callType_codes (Q₁ := fun obj s₁ => obj = .ref s.heap.objs.size ∧ s₁ = { s with heap := s.heap.push { cls := .type "dict", data := .dict #[] } }) F.kt_called_dict (F.kt_typeCall_dict_1 _) F.entry_dict_init (kt_code_dict_new _ ⟨rfl, rfl⟩) ?_
  rintro obj s₁ ⟨rfl, rfl⟩
  have hnew : (s.heap.push { cls := .type "dict", data := .dict #[] }).DictOf knd s.heap.objs.size [] := Heap.DictOf.new s.heap
  have hl1 : (s.heap.push { cls := .type "dict", data := .dict #[] }).get? l = some { cls := .type "list", data := .seq items c } := Heap.get?_push_of_some _ hl
  have hlS : l < s.heap.objs.size := Heap.lt_size hl
  refine ⟨hnew.typeIs, F.args_dict_init_2 _ _, ?_⟩
  unfold Builtin.«dict.__init__»
  refine wpAny_bind ?_
  unfold Builtin.Dict.selfAndRest
  refine wpAny_bind (wpAny_notOrdered_dict hnew.typeIs ?_)
  show wpAny _ _ (pure (s.heap.objs.size, [Value.ref l])) _ _ _
  refine wpAny_pure ?_
  show wpAny _ _ (Builtin.Dict.updateFrom "dict.__init__" s.heap.objs.size (.ref l) [] .none) _ _ _
  unfold Builtin.Dict.updateFrom
  refine wpAny_bind (wpAny_typeOf (T := "list") ⟨_, hl1, rfl⟩ ?_)
  rw [if_pos (by decide)]
  refine wpAny_bind (noAttr_list hl1 rfl rfl rfl list_no_keys (by decide) (by simpa using hh) fun h1 tk1 k1 => ?_)
  refine wpAny_ite_split (fun _ => ?_) (fun hab => absurd rfl hab)
  refine wpAny_bind (wpAny_rule ?_)
  have hl2 := k1 _ _ hl1
  refine wpAny_bind (wpAny_pyIter_list ⟨_, hl2, rfl, c, rfl⟩ ?_)
  refine wpAny_pure ⟨plainId_quiet F.plain_dict_update_loop _, ?_⟩
  have hd1 : (s.heap.push { cls := .type "dict", data := .dict #[] }).get? s.heap.objs.size = some { cls := .type "dict", data := .dict #[] } := Heap.get?_push_size _ rfl
  have hd2 := k1 _ _ hd1
  have hz1 : s.heap.objs.size < h1.objs.size := Heap.lt_size hd2
  have lI : l ≠ h1.objs.size := Nat.ne_of_lt (Nat.lt_trans hlS hz1)
  have hSf : s.heap.objs.size ∉ [h1.objs.size, l] := by
    simp only [List.mem_cons, List.not_mem_nil, or_false, not_or]
    exact ⟨Nat.ne_of_lt hz1, Nat.ne_of_gt hlS⟩
  have hh3 : A.in1.in1.handled = none := by simpa using hh
  have W := (Walks.list (prog := prog) (w := w) (A := A.in1.in1) hh3 h1.objs.size l lI items).toS
  have keep : ∀ b o, s.heap.get? b = some o → b ∉ s.heap.objs.size :: [h1.objs.size] := fun b o e z => by
    have hb := Heap.lt_size e
    simp only [List.mem_cons, List.not_mem_nil, or_false] at z
    rcases z with z | z
    · rw [z] at hb; exact Nat.lt_irrefl _ hb
    · rw [z] at hb; exact Nat.lt_irrefl _ (Nat.lt_trans hb hz1)
  refine codeAny_dict_pairs (A := A.in1) (knd := knd) W s.heap.objs.size hSf .none rs hn hz s (fun i v hv => ?_) items.size 0 0 _ (by lia) (Nat.zero_le _) ⟨⟨_, Heap.get?_push_size _ rfl, rfl, rfl⟩, ⟨_, Heap.get?_push_of_some _ hl2, rfl, c, rfl⟩⟩ (fun b o _ e => Heap.get?_push_of_some _ (k1 _ _ (Heap.get?_push_of_some _ e))) ?_ fun s' hm hS => ?_
  · obtain ⟨k, x, hr, t, o, c', key, e1, e2, e3, e4, e5⟩ := hval i v hv
    exact ⟨k, x, hr, fun h hk => ⟨t, o, c', key, e1, hk t o (keep t o e2) e2, e3, e4, e5⟩⟩
  · obtain ⟨o, es, ep, ho, rest⟩ := hnew
    exact ⟨o, es, ep, Heap.get?_push_of_some _ (k1 _ _ ho), rest⟩
  · rw [Moved.eq_with hm]
    refine ⟨rfl, hQ s'.heap s'.toks hS fun b o e => hm.heap b o (keep b o e) (Heap.get?_push_of_some _ (k1 _ _ (Heap.get?_push_of_some _ e)))⟩
end
end PySem
namespace L2
open PySem PySem.Spec PyProof.Rows
theorem Paired.at {α β : Type} {R : α → β → Prop} {as : List α} {bs : List β} {i : Nat} {a : α} (h : Paired R as bs) (e : as[i]? = some a) : ∃ b, bs[i]? = some b ∧ R a b := by
  induction h generalizing i with
  | nil => simp at e
  | cons r _ ih =>
    cases i with
    | zero => simp at e; subst e; exact ⟨_, rfl, r⟩
    | succ i =>
      obtain ⟨b, h1, h2⟩ := ih (i := i) (by simpa using e)
      exact ⟨b, by simpa using h1, h2⟩
theorem vals_at : ∀ {xs : List V} {us : List Value}, xs.length = us.length → (∀ (i : Nat) u, us[i]? = some u → ∃ x, xs[i]? = some x ∧ RelV x u) → Vals xs us
  | [], [], _, _ => .nil
  | [], _ :: _, h, _ => by simp at h
  | _ :: _, [], h, _ => by simp at h
  | x :: xs, u :: us, h, hv => by
    obtain ⟨y, e, r⟩ := hv 0 u rfl
    simp at e
    subst e
    exact .cons r (vals_at (by simpa using h) fun i v e => by
      obtain ⟨z, e1, r1⟩ := hv (i + 1) v (by simpa using e)
      exact ⟨z, by simpa using e1, r1⟩)
noncomputable abbrev PairsAt (H : Hp) (ts : List Addr) (kvs : List (Key × V)) : Prop := Paired (fun (t : Addr) (p : Key × V) => H t = some (.tup [kV p.1, p.2])) ts kvs
theorem pairs_of {P : Program} {w : World} {H : Hp} {h : Heap} (ok : HOk P w H h) : ∀ {ts : List Addr} {kvs : List (Key × V)} {its : List Value}, PairsAt H ts kvs → Vals (ts.map V.ref) its →
    ∃ rs : List (Key × Value), KV kvs rs ∧ Paired (fun (u : Value) (r : Key × Value) => ∃ t o c key, u = .ref t ∧ h.get? t = some o ∧ o.cls = .type "tuple" ∧ o.data = .seq #[key, r.2] c ∧ (mixKind P w).is r.1 key = true) its rs
  | [], _, _, .nil, r => by cases r; exact ⟨[], .nil, .nil⟩
  | t :: ts, p :: kvs, its, .cons e hp, r => by
    cases r with
    | cons r0 rr =>
      cases r0
      obtain ⟨rs, a, b⟩ := pairs_of ok hp rr
      obtain ⟨_, its2, rv, tu⟩ := ok t _ e
      obtain ⟨u1, u2, rfl, r1, r2⟩ := rv.two
      obtain ⟨o, c, ho, hc, hd⟩ : ∃ o c, h.get? t = some o ∧ o.cls = .type "tuple" ∧ o.data = .seq #[u1, u2] c := by
        obtain ⟨o, ho, hc, c, hd⟩ := tu
        exact ⟨o, c, ho, hc, hd⟩
      exact ⟨(p.1, u2) :: rs, .cons ⟨rfl, r2⟩ a, .cons ⟨t, o, c, u1, rfl, ho, hc, hd, kV_is r1⟩ b⟩
section
variable {X : Cx} {o : Expr} {td : TE}
theorem call_dictP (hc : X.calm = true) : CallR X (.type "dict") (fun xs H Q => ∃ (l : Addr) (ts : List Addr) (kvs : List (Key × V)), xs = [.ref l] ∧ H l = some (.lst (ts.map V.ref)) ∧ PairsAt H ts kvs ∧
    ∀ p, H p = none → Q (.ref p) (upd H p (.dK (mergeK [] kvs)))) := by
  intro pins s σ H xs us Q I r h
  obtain ⟨l, ts, kvs, rfl, e, hp, q⟩ := h
  obtain ⟨u, rfl, ru⟩ := vals1 r
  cases ru
  obtain ⟨z, its, n, rv, e1⟩ := I.hok l _ e
  obtain ⟨rs, hk, hr⟩ := pairs_of I.hok hp rv
  have hlen : rs.length = its.length := hr.length.symm
  have hz : its.length ≤ sizeLine := by rw [← rv.length]; exact z
  refine call_dict_pairs (knd := mixKind X.prog X.w) (I.ok.hd hc) e1 (by rw [List.size_toArray]; exact hz) rs (by rw [List.size_toArray]; exact hlen) (fun i v hv => ?_) fun h' tk dd k => ?_
  · obtain ⟨b, hb, t, o, c, key, x1, x2, x3, x4, x5⟩ := Paired.at (i := i) (a := v) hr (by simpa using hv)
    exact ⟨b.1, b.2, hb, t, o, c, key, x1, x2, x3, x4, x5⟩
  · have hm := length_mergeK kvs []
    have hkl := hk.length
    refine ⟨.ref _, _, I.laid (a := s.heap.objs.size) (o := .dK (mergeK [] kvs)) (t' := tk) k (Nat.le_refl _) (dk_new ?_ (beq_eq_false_iff_ne.mpr (Ne.symm (Nat.ne_of_lt I.big))) (KV.merge hk .nil) dd), rfl, q _ (I.hok.fresh (Nat.le_refl _))⟩
    simp only [List.length_nil] at hm
    lia
theorem call_listD (hc : X.calm = true) : CallR X (.type "list") (fun xs H Q => ∃ (a : Addr) (kvs : List (Key × V)), xs = [.ref a] ∧ Rd H a (.dK kvs) ∧ ∀ p, H p = none → Q (.ref p) (upd H p (.lst (kvs.map fun q => kV q.1)))) := by
  intro pins s σ H xs us Q I r h
  obtain ⟨a, kvs, rfl, e, q⟩ := h
  obtain ⟨u, rfl, ru⟩ := vals1 r
  cases ru
  obtain ⟨z, hd, vs, rel, o, es, ep, ho, dd⟩ := dk_rd I.hok e
  have hl := rel.length
  refine PySem.W.kdl_call (PySem.W.kdl_dict (ep := ep) (kvs := vs) (knd := mixKind X.prog X.w) hd) (I.ok.hd hc) ⟨o, es, ho, dd⟩ (by rw [← hl]; exact z) fun h' tk acc c k hD hacc => ?_
  refine ⟨.ref _, _, I.laid (a := s.heap.objs.size) (o := .lst (kvs.map fun q => kV q.1)) (t' := tk) k (Nat.le_refl _) ⟨by rw [List.length_map]; exact z, acc.toList, c, vals_at ?_ fun i u hu => ?_, by simpa using hD⟩, rfl, q _ (I.hok.fresh (Nat.le_refl _))⟩
  · rw [List.length_map, show acc.toList.length = acc.size from Array.length_toList, hacc.1, hl]
  · obtain ⟨k', x, e1, e2⟩ := hacc.2 i u (by simpa using hu)
    have hi : i < kvs.length := by rw [hl]; exact (List.getElem?_eq_some_iff.mp e1).1
    have hk : (kvs[i]).1 = k' := by
      obtain ⟨u', hu', _⟩ := KV.at rel (i := i) (p := kvs[i]) (by simp [hi])
      rw [e1] at hu'
      exact (congrArg Prod.fst (Option.some.inj hu')).symm
    refine ⟨kV k', by simp [hi, hk], rel_key e2⟩
noncomputable def tLVals (td : TE) : TE := fun σ H Q => td σ H fun x H1 => ∃ a kvs, x = .ref a ∧ H1 a = some (.dK kvs) ∧ ∀ p, H1 p = none → Q (.ref p) (upd H1 p (.lst (kvs.map (·.2))))
theorem pe_lvals {p1 q1 apos cpos : Pos} (hc : X.calm = true) (hm1 : X.mg "list" = none) (hg1 : Gl X "list") (ho : PE X o td) (hbase : attributeBase o "values" X.env (eval o X.env) = eval o X.env := by rfl) (hline : (apos.endLine == cpos.line) = true := by rfl) :
    PE X (.Call (.Name "list" p1) [.Call (.Attribute o "values" apos) [] [] cpos] [] q1) (tLVals td) := by
  intro pins s σ H Q I h
  refine wpAny_Call_Name_kw (ld_blt I hg1 hm1 boot_list ?_)
  refine PyProof.Rows.callWith_type1 ?_ rfl rfl
  show wpAny _ _ (spliced ((false, eval (.Call (.Attribute o "values" apos) [] [] cpos) X.env) :: backTo q1 (starEach [] X.env))) _ _ s
  refine Calls.spliced_cons ?_
  refine wpAny_Call_method0_late hbase hline (thnE (ho pins s σ H _ I h) fun v s1 x H1 I1 r1 ⟨a, kvs, ex, he, q⟩ => ?_)
  subst ex
  obtain rfl : v = Value.ref a := r1
  obtain ⟨t1, t2, _⟩ := isD_at I1 (.inl ⟨kvs, .inl he⟩)
  obtain ⟨z, hd, vs, rel, dd⟩ := dk_of I1.hok he
  refine ⟨"dict", "dict.values", PySem.F.plainAttrs_dict, PySem.F.slot_dict_values, PySem.F.type_dict_values, t1, t2, Calls.callWith_builtin rfl (PySem.evalArgs_none ?_)⟩
  refine call_meetsIn PySem.F.slot_dict_values dd.typeIs PySem.F.entry_dict_values (PySem.F.args_dict_values_1 _) (meets_dict_values (mixKind X.prog X.w) a hd) ⟨⟨_, dd⟩, ?_⟩
  refine Calls.spliced_nil ?_
  obtain ⟨ob, es, ep, hob, rest⟩ := dd
  have hob2 := Heap.get?_push_of_some { cls := .type "dict_values", data := .fields #[.ref a] } hob
  have hl := rel.length
  refine PySem.W.kdl_call (PySem.W.kdl_values (r := s1.heap.objs.size) (d := a) (ep := ep) (kvs := vs) (knd := mixKind X.prog X.w)) (I1.ok.hd hc) ⟨⟨_, Heap.get?_push_size _ rfl, rfl, rfl⟩, ⟨ob, es, hob2, rest⟩⟩ (by rw [← hl]; exact z) fun h' tk acc c k hD hacc => ?_
  have hnew : s1.heap.objs.size ≤ (s1.heap.push { cls := .type "dict_values", data := .fields #[.ref a] }).objs.size := by rw [Heap.size_push]; exact Nat.le_succ _
  refine ⟨.ref _, _, I1.laid (o := .lst (kvs.map (·.2))) (t' := tk) (fun b o e => k b o (Heap.get?_push_of_some _ e)) hnew ⟨by rw [List.length_map]; exact z, acc.toList, c, vals_at ?_ fun i u hu => ?_, by simpa using hD⟩, rfl, q _ (I1.hok.fresh hnew)⟩
  · rw [List.length_map, show acc.toList.length = acc.size from Array.length_toList, hacc.1, hl]
  · obtain ⟨k', e1⟩ := hacc.2 i u (by simpa using hu)
    have hi : i < kvs.length := by rw [hl]; exact (List.getElem?_eq_some_iff.mp e1).1
    obtain ⟨u', hu', ru⟩ := KV.at rel (i := i) (p := kvs[i]) (by simp [hi])
    rw [e1] at hu'
    have eu : u = u' := congrArg Prod.snd (Option.some.inj hu')
    exact ⟨(kvs[i]).2, by simp [hi], by rw [eu]; exact ru⟩
end
noncomputable def intsD (f : List (Int × Int)) : List (Key × V) := f.map fun p => (Sum.inl p.1, V.int p.2)
theorem valV_ints (f : List (Int × Int)) (k : Int) : valV (intsD f) (Sum.inl k) = (Me.look f k).map V.int := by
  induction f with
  | nil => rfl
  | cons p r ih =>
    by_cases e : p.1 = k
    · have h1 : valV (intsD (p :: r)) (Sum.inl k) = some (V.int p.2) := valV_pos (by show Sum.inl p.1 = Sum.inl k; rw [e])
      rw [h1]
      simp [Me.look, List.find?_cons, e]
    · have h1 : valV (intsD (p :: r)) (Sum.inl k) = valV (intsD r) (Sum.inl k) := valV_neg (by intro z; exact e (Sum.inl.inj z))
      rw [h1, ih]
      simp [Me.look, List.find?_cons, e]
noncomputable def sameD (f g : List (Int × Int)) : Bool := f.length == g.length && f.all fun p => decide (Me.look g p.1 = some p.2)
theorem hits_ints {A : Around} {s : Shared} {g : List (Int × Int)} {kb : List (Key × Value)} (rb : KV (intsD g) kb) : ∀ {f : List (Int × Int)} {ka : List (Key × Value)}, KV (intsD f) ka → PySem.W.KeqHits A s kb ka (f.all fun p => decide (Me.look g p.1 = some p.2))
  | [], _, r => by cases r; exact .nil
  | p :: f, _, r => by
    have r' : KV ((Sum.inl p.1, V.int p.2) :: intsD f) _ := r
    cases r' with
    | @cons _ b _ ka' h t =>
      obtain ⟨bk, bv⟩ := b
      obtain ⟨e1, t1, e2⟩ := h
      have e1' : Sum.inl p.1 = bk := e1
      have e2' : bv = .int p.2 t1 := e2
      subst e1' e2'
      have ih := hits_ints (A := A) (s := s) rb (f := f) t
      have hv := rb.val (Sum.inl p.1)
      rw [valV_ints] at hv
      rw [List.all_cons]
      cases hl : Me.look g p.1 with
      | none =>
        rw [hl] at hv
        have hn : valueAt kb (Sum.inl p.1) = none := by
          cases hb : valueAt kb (Sum.inl p.1) with
          | none => rfl
          | some y => rw [hb] at hv; cases hv
        have e : (decide ((none : Option Int) = some p.2) && f.all fun p => decide (Me.look g p.1 = some p.2)) = false := by simp
        rw [e]
        exact .miss hn
      | some m =>
        rw [hl] at hv
        obtain ⟨t2, hy⟩ : ∃ t2, valueAt kb (Sum.inl p.1) = some (.int m t2) := by
          cases hb : valueAt kb (Sum.inl p.1) with
          | none => rw [hb] at hv; cases hv
          | some y =>
            rw [hb] at hv
            obtain ⟨t2, e⟩ : ∃ t2, y = .int m t2 := hv
            exact ⟨t2, by rw [e]⟩
        have e : decide (some m = some p.2) = (p.2 == m) := by
          by_cases z : p.2 = m
          · subst z; simp
          · have z' : ¬ m = p.2 := fun q => z q.symm
            simp [z, z']
        rw [e]
        exact .hit hy (SeqAt.EqAt.int_int p.2 t1 m t2) ih
section
variable {X : Cx}
inductive rEqDD (neg : Bool) (x : V) (y : V) (H : Hp) (Q : VK) : Prop
  | mk : ∀ a b f g, (x = .ref a) → (y = .ref b) → (Rd H a (.dK (intsD f))) → (Rd H b (.dK (intsD g))) → (Q (.bl (if neg = true then !sameD f g else sameD f g)) H) → rEqDD neg x y H Q
theorem op_eqDD (hu : X.A.units + 64 < cLine) : OpR X (compareOp .Eq) (rEqDD false) := by
  intro pins s σ H x y v u Q I rx ry h
  obtain ⟨a, b, f, g, rfl, rfl, ea, eb, q⟩ := h
  cases rx
  cases ry
  obtain ⟨_, ha, va, ra, da⟩ := dk_rd I.hok ea
  obtain ⟨_, hb, vb, rb, db⟩ := dk_rd I.hok eb
  refine PySem.W.keq_eq ha hb da db (by lia) (fun _ => hits_ints rb ra) ⟨.bl _, H, I, rfl, ?_⟩
  have e1 := ra.length
  have e2 := rb.length
  rw [← e1, ← e2]
  simpa [intsD, sameD] using q
theorem op_neDD (hu : X.A.units + 64 < cLine) : OpR X (compareOp .NotEq) (rEqDD true) := by
  intro pins s σ H x y v u Q I rx ry h
  obtain ⟨a, b, f, g, rfl, rfl, ea, eb, q⟩ := h
  cases rx
  cases ry
  obtain ⟨_, ha, va, ra, da⟩ := dk_rd I.hok ea
  obtain ⟨_, hb, vb, rb, db⟩ := dk_rd I.hok eb
  refine PySem.W.keq_ne ha hb da db (by lia) (fun _ => hits_ints rb ra) ⟨.bl _, H, I, rfl, ?_⟩
  have e1 := ra.length
  have e2 := rb.length
  rw [← e1, ← e2]
  simpa [intsD, sameD] using q
end
theorem same_perm {f g : List (Int × Int)} (h : f.Perm g) (nd : (g.map (·.1)).Nodup) : sameD f g = true := by
  unfold sameD
  rw [h.length_eq]
  simp only [beq_self_eq_true, Bool.true_and, List.all_eq_true, decide_eq_true_eq]
  exact fun p hp => Me.look_mem nd (h.mem_iff.mp hp)
theorem put_ints (f : List (Int × Int)) (k v : Int) : putK (intsD f) (Sum.inl k) (V.int v) = intsD (Me.put f k v) := by
  have e : ((intsD f).any fun kv => decide (kv.1 = Sum.inl k)) = f.any fun p => decide (p.1 = k) := by
    rw [intsD, List.any_map]
    congr 1
    funext p
    show decide (Sum.inl p.1 = (Sum.inl k : Key)) = decide (p.1 = k)
    by_cases z : p.1 = k
    · simp [z]
    · have z' : ¬ (Sum.inl p.1 : Key) = Sum.inl k := fun q => z (Sum.inl.inj q)
      simp [z, z']
  unfold putK Me.put
  rw [e]
  split
  · rw [intsD, List.map_map, intsD, List.map_map]
    apply List.map_congr_left
    intro p _
    show (if (Sum.inl p.1 : Key) = Sum.inl k then (Sum.inl p.1, V.int v) else (Sum.inl p.1, V.int p.2)) = (Sum.inl (if p.1 = k then (p.1, v) else p).1, V.int (if p.1 = k then (p.1, v) else p).2)
    by_cases z : p.1 = k
    · rw [if_pos (by rw [z]), if_pos z]
    · rw [if_neg (fun q => z (Sum.inl.inj q)), if_neg z]
  · simp [intsD]
theorem merge_ints : ∀ (more f : List (Int × Int)), mergeK (intsD f) (intsD more) = intsD (Me.mergeI f more)
  | [], f => rfl
  | p :: r, f => by
    show mergeK (putK (intsD f) (Sum.inl p.1) (V.int p.2)) (intsD r) = _
    rw [put_ints, merge_ints r]
    rfl
end L2
namespace L2
open PySem PySem.Spec PyProof.Rows
section
variable {X : Cx}
theorem call_sumA (hc : X.calm = true) : CallR X (.builtin "sum") (fun xs H Q => ∃ (p : Addr) (ns : List Int), xs = [.ref p] ∧ SqL X.K H p (ns.map V.int) ∧ Q (.int ns.sum) H) := by
  intro pins s σ H xs us Q I r h
  obtain ⟨p, ns, rfl, hq, q⟩ := h
  obtain ⟨u, rfl, rx⟩ := vals1 r
  cases rx
  obtain ⟨its, rv, pl, hz⟩ := I.list hq
  have hl := pl.isList
  have hlt : p < s.heap.objs.size := by obtain ⟨_, e, _⟩ := hl; exact Heap.lt_size e
  have hn : its.toArray.size = ns.length := by rw [List.size_toArray, ← rv.length, List.length_map]
  refine call_sum_walkG (wpAny_pyIter_list hl ?_)
  refine ⟨_, _, _, _, _, _, fun i => (ns[i]?).getD 0, rfl, Walks.list (A := X.A.in1) (I.ok.hd hc) s.heap.objs.size p (Nat.ne_of_lt hlt) its.toArray, ⟨⟨_, Heap.get?_push_size _ rfl, rfl, rfl⟩, hl.push _⟩, fun b hb' => ?_, fun i v hP => ?_, fun h' tk t' hk => ?_⟩
  · show b < (s.heap.push _).objs.size
    rw [Heap.size_push]
    rcases List.mem_cons.mp hb' with rfl | hb'
    · exact Nat.lt_succ_self _
    · have e : b = p := by simpa using hb'
      rw [e]; exact Nat.lt_succ_of_lt hlt
  · have hv : its[i]? = some v := by simpa using hP
    cases eb : ns[i]? with
    | none =>
      have := rv.none_of (i := i) (by rw [List.getElem?_map, eb]; rfl)
      rw [this] at hv; cases hv
    | some b =>
      obtain ⟨u, hu, ru⟩ := rv.get (i := i) (x := .int b) (by rw [List.getElem?_map, eb]; rfl)
      rw [hu] at hv; cases hv
      obtain ⟨t, rfl⟩ := ru
      exact ⟨t, by simp [eb]⟩
  · rw [hn, pre_take ns ns.length (Nat.le_refl _), List.take_length]
    exact ⟨.int _, H, (show Inv X pins σ H { s with heap := h', toks := tk } from seen I hk), ⟨_, rfl⟩, q⟩
noncomputable def tSVals (td : TE) : TE := fun σ H Q => td σ H fun x H1 => ∃ a kvs, ∃ ns : List Int, x = .ref a ∧ H1 a = some (.dK kvs) ∧ kvs.map (·.2) = ns.map V.int ∧ Q (.int ns.sum) H1
theorem pe_svals {o : Expr} {td : TE} {p1 q1 apos cpos : Pos} (hc : X.calm = true) (hm1 : X.mg "sum" = none) (hg1 : Gl X "sum") (ho : PE X o td) (hbase : attributeBase o "values" X.env (eval o X.env) = eval o X.env := by rfl) (hline : (apos.endLine == cpos.line) = true := by rfl) :
    PE X (.Call (.Name "sum" p1) [.Call (.Attribute o "values" apos) [] [] cpos] [] q1) (tSVals td) := by
  intro pins s σ H Q I h
  refine wpAny_Call_Name_kw (ld_blt I hg1 hm1 boot_sum ?_)
  refine PyProof.Rows.callWith_builtin1 ?_ rfl rfl
  show wpAny _ _ (spliced ((false, eval (.Call (.Attribute o "values" apos) [] [] cpos) X.env) :: backTo q1 (starEach [] X.env))) _ _ s
  refine Calls.spliced_cons ?_
  refine wpAny_Call_method0_late hbase hline (thnE (ho pins s σ H _ I h) fun v s1 x H1 I1 r1 ⟨a, kvs, ns, ex, he, hns, q⟩ => ?_)
  subst ex
  obtain rfl : v = Value.ref a := r1
  obtain ⟨t1, t2, _⟩ := isD_at I1 (.inl ⟨kvs, .inl he⟩)
  obtain ⟨z, hd, vs, rel, dd⟩ := dk_of I1.hok he
  refine ⟨"dict", "dict.values", PySem.F.plainAttrs_dict, PySem.F.slot_dict_values, PySem.F.type_dict_values, t1, t2, Calls.callWith_builtin rfl (PySem.evalArgs_none ?_)⟩
  refine call_meetsIn PySem.F.slot_dict_values dd.typeIs PySem.F.entry_dict_values (PySem.F.args_dict_values_1 _) (meets_dict_values (mixKind X.prog X.w) a hd) ⟨⟨_, dd⟩, ?_⟩
  refine Calls.spliced_nil ?_
  obtain ⟨ob, es, ep, hob, rest⟩ := dd
  have hob2 := Heap.get?_push_of_some { cls := .type "dict_values", data := .fields #[.ref a] } hob
  have hl := rel.length
  have hln : kvs.length = ns.length := by simpa using congrArg List.length hns
  have KS := PySem.W.kdl_values (prog := X.prog) (w := X.w) (r := s1.heap.objs.size) (d := a) (ep := ep) (kvs := vs) (knd := mixKind X.prog X.w)
  have hok : (s1.heap.push { cls := .type "dict_values", data := .fields #[.ref a] }).IsValuesView s1.heap.objs.size a ∧ (s1.heap.push { cls := .type "dict_values", data := .fields #[.ref a] }).DictAt (mixKind X.prog X.w) a vs ep := ⟨⟨_, Heap.get?_push_size _ rfl, rfl, rfl⟩, ⟨ob, es, hob2, rest⟩⟩
  refine call_sum_walkG ?_
  obtain ⟨oI, St, hit, W, st⟩ := KS.iter X.A.in1 { s1 with heap := s1.heap.push { cls := .type "dict_values", data := .fields #[.ref a] } } (I1.ok.hd hc) hok
  refine hit _ _ ⟨_, _, _, _, _, _, fun i => (ns[i]?).getD 0, rfl, W, st, fun b hb => ?_, fun i v hv => ?_, fun h' tk t' hk => ?_⟩
  · show b < (Heap.push _ oI).objs.size
    rw [Heap.size_push]
    rcases List.mem_cons.mp hb with e | hb
    · rw [e]; exact Nat.lt_succ_self _
    · rw [List.mem_singleton.mp hb]; exact Nat.lt_succ_of_lt (KS.there _ hok).2
  · obtain ⟨k', e1⟩ := hv
    have hi : i < kvs.length := by rw [hl]; exact (List.getElem?_eq_some_iff.mp e1).1
    obtain ⟨u', hu', ru⟩ := KV.at rel (i := i) (p := kvs[i]) (by simp [hi])
    rw [e1] at hu'
    have eu : v = u' := congrArg Prod.snd (Option.some.inj hu')
    have e2 : (kvs.map (·.2))[i]? = (ns.map V.int)[i]? := by rw [hns]
    have e3 : (kvs.map (·.2))[i]? = some (kvs[i]).2 := by simp [hi]
    have e4 : (ns.map V.int)[i]? = some (V.int ns[i]) := by simp [show i < ns.length by omega]
    rw [e3, e4] at e2
    have e5 := Option.some.inj e2
    rw [e5] at ru
    obtain ⟨t, rfl⟩ := ru
    refine ⟨t, ?_⟩
    rw [eu]
    have e6 : ns[i]? = some ns[i] := List.getElem?_eq_getElem (show i < ns.length by omega)
    show Value.int ns[i] t = Value.int ((ns[i]?).getD 0) t
    rw [e6]
    rfl
  · rw [← hl, hln, pre_take ns ns.length (Nat.le_refl _), List.take_length]
    have hk2 : ∀ b o, s1.heap.get? b = some o → h'.get? b = some o := fun b o e => hk b o (fun hI => absurd (Heap.lt_size e) (by
      rw [List.mem_singleton.mp hI]
      show ¬ (s1.heap.push _).objs.size < _
      rw [Heap.size_push]; omega)) (Heap.get?_push_of_some _ (Heap.get?_push_of_some _ e))
    exact ⟨.int _, H1, I1.kept (t' := tk) (h' := h') hk2, ⟨_, rfl⟩, q⟩
end
end L2
namespace L2
open PySem PySem.Spec PyProof.Rows
section
variable {X : Cx} {tg : Expr}
end
section
variable {X : Cx}
theorem key_int {P : Program} {w : World} {vs : List (Key × Value)} {ns : List Int} (hk : vs.map (·.1) = ns.map Sum.inl) {i : Nat} {v : Value} (h : ∃ k x, vs[i]? = some (k, x) ∧ (mixKind P w).is k v = true) : ∃ n t, ns[i]? = some n ∧ v = Value.int n t := by
  obtain ⟨k, x, h1, h2⟩ := h
  have h3 : (vs.map (·.1))[i]? = some k := by rw [List.getElem?_map, h1]; rfl
  rw [hk, List.getElem?_map] at h3
  cases q : ns[i]? with
  | none => rw [q] at h3; cases h3
  | some m =>
    rw [q] at h3
    have h4 : Sum.inl m = k := Option.some.inj h3
    subst h4
    have h5 : keyIs (Sum.inl m) v = true := h2
    rcases keyIs_shape h5 with ⟨i', t, e1, e2⟩ | ⟨y, t, e1, _⟩
    · cases e1; exact ⟨m, t, rfl, e2⟩
    · cases e1
theorem call_maxD (hc : X.calm = true) : CallR X (.builtin "max") (fun xs H Q => ∃ (a : Addr) (kvs : List (Key × V)) (ns : List Int), xs = [.ref a] ∧ Rd H a (.dK kvs) ∧ kvs.map (·.1) = ns.map Sum.inl ∧ 0 < ns.length ∧ Q (.int (Ma.maxL ns)) H) := by
  intro pins s σ H xs us Q I r h
  obtain ⟨a, kvs, ns, rfl, e, hk, hne, q⟩ := h
  obtain ⟨u, rfl, ru⟩ := vals1 r
  cases ru
  obtain ⟨z, hd, vs, rel, o, es, ep, ho, dd⟩ := dk_rd I.hok e
  have hkv : vs.map (·.1) = ns.map Sum.inl := by rw [← rel.keys]; exact hk
  have hn : vs.length = ns.length := by simpa using congrArg List.length hkv
  have KS := PySem.W.kdl_dict (prog := X.prog) (w := X.w) (ep := ep) (kvs := vs) (knd := mixKind X.prog X.w) hd
  have hval : ∀ (i : Nat) (v : Value), (∃ k x, vs[i]? = some (k, x) ∧ (mixKind X.prog X.w).is k v = true) → ∃ t, v = .int ((fun i => (ns[i]?).getD 0) i) t := fun i v hP => by
    obtain ⟨n, t, e, rfl⟩ := key_int hkv hP
    exact ⟨t, by simp [e]⟩
  obtain ⟨oI, St, hit, W, st⟩ := KS.iter X.A.in1 s (I.ok.hd hc) ⟨o, es, ho, dd⟩
  refine call_max_walk (hit _ _ ?_)
  refine ⟨_, _, _, _, _, _, _, rfl, W, st, fun b hb' => ?_, by omega, CmpOf.ints_gt (fun i => (ns[i]?).getD 0) hval, fun v h' tk hP hk => ?_⟩
  · show b < (s.heap.push _).objs.size
    rw [Heap.size_push]
    rcases List.mem_cons.mp hb' with rfl | hb'
    · exact Nat.lt_succ_self _
    · rw [List.mem_singleton.mp hb']; exact Nat.lt_succ_of_lt (Heap.lt_size ho)
  · rw [hn] at hP
    have ab := argBest_gt (fun i => (ns[i]?).getD 0) (ns.length - 1)
    obtain ⟨n, t, e, rfl⟩ := key_int hkv hP
    have em : n = Ma.maxL ns := Ma.maxL_uniq (List.mem_of_getElem? e) fun m hm => by
      obtain ⟨j, hj⟩ := List.getElem?_of_mem hm
      have hjl := (List.getElem?_eq_some_iff.mp hj).1
      have a2 := ab.2 j (by omega)
      simp only [hj, e, Option.getD_some] at a2
      exact a2
    subst em
    exact ⟨.int _, H, I.kept (t' := tk) (h' := h') (fun b o e => hk b o (fun hI => absurd (Heap.lt_size e) (by rw [List.mem_singleton.mp hI]; exact Nat.lt_irrefl _)) (Heap.get?_push_of_some _ e)), ⟨_, rfl⟩, q⟩
theorem call_minD (hc : X.calm = true) : CallR X (.builtin "min") (fun xs H Q => ∃ (a : Addr) (kvs : List (Key × V)) (ns : List Int), xs = [.ref a] ∧ Rd H a (.dK kvs) ∧ kvs.map (·.1) = ns.map Sum.inl ∧ 0 < ns.length ∧ Q (.int (Ma.minL ns)) H) := by
  intro pins s σ H xs us Q I r h
  obtain ⟨a, kvs, ns, rfl, e, hk, hne, q⟩ := h
  obtain ⟨u, rfl, ru⟩ := vals1 r
  cases ru
  obtain ⟨z, hd, vs, rel, o, es, ep, ho, dd⟩ := dk_rd I.hok e
  have hkv : vs.map (·.1) = ns.map Sum.inl := by rw [← rel.keys]; exact hk
  have hn : vs.length = ns.length := by simpa using congrArg List.length hkv
  have KS := PySem.W.kdl_dict (prog := X.prog) (w := X.w) (ep := ep) (kvs := vs) (knd := mixKind X.prog X.w) hd
  have hval : ∀ (i : Nat) (v : Value), (∃ k x, vs[i]? = some (k, x) ∧ (mixKind X.prog X.w).is k v = true) → ∃ t, v = .int ((fun i => (ns[i]?).getD 0) i) t := fun i v hP => by
    obtain ⟨n, t, e, rfl⟩ := key_int hkv hP
    exact ⟨t, by simp [e]⟩
  obtain ⟨oI, St, hit, W, st⟩ := KS.iter X.A.in1 s (I.ok.hd hc) ⟨o, es, ho, dd⟩
  refine call_min_walk (hit _ _ ?_)
  refine ⟨_, _, _, _, _, _, _, rfl, W, st, fun b hb' => ?_, by omega, CmpOf.ints_lt (fun i => (ns[i]?).getD 0) hval, fun v h' tk hP hk => ?_⟩
  · show b < (s.heap.push _).objs.size
    rw [Heap.size_push]
    rcases List.mem_cons.mp hb' with rfl | hb'
    · exact Nat.lt_succ_self _
    · rw [List.mem_singleton.mp hb']; exact Nat.lt_succ_of_lt (Heap.lt_size ho)
  · rw [hn] at hP
    have ab := argBest_lt (fun i => (ns[i]?).getD 0) (ns.length - 1)
    obtain ⟨n, t, e, rfl⟩ := key_int hkv hP
    have em : n = Ma.minL ns := Ma.minL_uniq (List.mem_of_getElem? e) fun m hm => by
      obtain ⟨j, hj⟩ := List.getElem?_of_mem hm
      have hjl := (List.getElem?_eq_some_iff.mp hj).1
      have a2 := ab.2 j (by omega)
      simp only [hj, e, Option.getD_some] at a2
      exact a2
    subst em
    exact ⟨.int _, H, I.kept (t' := tk) (h' := h') (fun b o e => hk b o (fun hI => absurd (Heap.lt_size e) (by rw [List.mem_singleton.mp hI]; exact Nat.lt_irrefl _)) (Heap.get?_push_of_some _ e)), ⟨_, rfl⟩, q⟩
end
end L2
namespace L2
open PySem PySem.Spec PyProof.Rows

structure Def (P : Program) (w : World) (K : PySem.W.Frag) (mg : Str → Option Value) (base : Heap) (k : Nat) (x : Str) (ps : List Str) (sp : Sp) : Prop where
  ex : ∃ f fd, FnOk P w K mg base CX0 k f fd ps sp ∧ mg x = some (.ref f) ∧ PySem.W.keepIn K (.ref f) = true ∧ Binds K fd ps []
section
variable {X : Cx} {k : Nat} {x : Str} {ps : List Str} {sp : Sp} {e a b c : Expr} {es : List Expr} {t : TA} {ta tb tc te : TE} {p pos : Pos}
theorem pe_fn (D : Def X.prog X.w X.K X.mg X.base k x ps sp) (hr : Room k X.A) (hg : Gl X x) (ha : PA X (e :: es) t) (hdb : (x == ("__debug__" : Str)) = false := by decide)
    (he : starEach (e :: es) X.env = (false, eval e X.env) :: starEach es X.env := by rfl) (hpl : (backTo pos (starEach es X.env)).any (·.1) = false := by rfl) : PE X (.Call (.Name x p) (e :: es) [] pos) (tCall sp [] E0 t) := by
  obtain ⟨f, fd, G, h1, h2, h3⟩ := D.ex
  exact pe_call G hr hg h1 h2 h3 .nil pass0 ha hdb he hpl
theorem ixl (ha : PE X a ta) (hb : PE X b tb) (hs : PlainIx b := by intro _ _; rfl) : PE X (.Subscript a b pos) (tOp (rIxL X.K) ta tb) := pe_ix ix_list ha hb hs
theorem ixt (ha : PE X a ta) (hb : PE X b tb) (hs : PlainIx b := by intro _ _; rfl) : PE X (.Subscript a b pos) (tOp (rIxT X.K) ta tb) := pe_ix ix_tup ha hb hs
theorem lenS (hm : X.mg "len" = none) (hg : Gl X "len") (ha : PE X a ta) (hs : starEach [a] X.env = [(false, eval a X.env)] := by rfl) :
    PE X (.Call (.Name "len" p) [a] [] pos) (tCB (fun xs H Q => ∃ p ys, xs = [.ref p] ∧ (SqL X.K H p ys ∨ SqT X.K H p ys) ∧ Q (.int ys.length) H) (tCons ta tNil)) := pe_callB call_len_seq hg hm PySem.boot_len (pa_cons ha pa_nil hs) (he := hs)
theorem ixlK (K : PySem.W.Frag) (hK : X.K = K) (ha : PE X a ta) (hb : PE X b tb) (hs : PlainIx b := by intro _ _; rfl) : PE X (.Subscript a b pos) (tOp (rIxL K) ta tb) := by
  subst hK
  exact ixl ha hb hs
theorem ixtK (K : PySem.W.Frag) (hK : X.K = K) (ha : PE X a ta) (hb : PE X b tb) (hs : PlainIx b := by intro _ _; rfl) : PE X (.Subscript a b pos) (tOp (rIxT K) ta tb) := by
  subst hK
  exact ixt ha hb hs
theorem pg_tupK (K : PySem.W.Frag) (hK : X.K = K) {k n : Nat} {u : TGs} (hc : X.calm = true) (h : PGs X es u) (hn : (assignEach es X.env).length = n := by rfl) (hst : (assignEach es X.env).findIdx? (·.1) = none := by rfl) : PG X (.Tuple es k pos) (gTup K n u) := by
  subst hK
  exact pg_tup hc h hn hst
theorem gk_two {K : PySem.W.Frag} : GKeeps 2 (gTup K 2 (gCons (gName 0) (gCons (gName 1) gNil))) := fun v σ H Q q => by
  obtain ⟨a, xs, e, h1, h2, v0, r0, e0, v1, r1, e1, e2, q⟩ := q
  exact ⟨a, xs, e, h1, h2, v0, r0, e0, v1, r1, e1, e2, ⟨by simp, fun i hi => by rw [List.getElem?_set_ne (by lia), List.getElem?_set_ne (by lia)]⟩, q⟩
theorem pe_ty {y : Str} {T : String} (hm : X.mg y = none) (hv : bootBuiltins y = some (.type T)) (hg : Gl X y := by rfl) (hn : y ≠ "__name__" := by decide) (hd : (y == ("__debug__" : Str)) = false := by decide) : PE X (.Name y pos) (tC (.ty T)) :=
  pe_bltn (v := .ty T) hg hm hv rfl hn hd
theorem r_ixl {K : PySem.W.Frag} {H : Hp} {q : Addr} {xs : List V} {i : Int} {v : V} {Q : VK} (h : H q = some (.lst xs)) (e : atI xs i = some v) (k : Q v H) : rIxL K (.ref q) (.int i) H Q := ⟨q, xs, i, v, rfl, rfl, SqL.of h, e, k⟩
theorem at_all {xs : List V} {i : Int} {Pr : V → Prop} (h0 : 0 ≤ i) (h1 : i < xs.length) (h : ∀ x ∈ xs, Pr x) : ∃ v, atI xs i = some v ∧ Pr v := by
  obtain ⟨j, rfl⟩ : ∃ j : Nat, i = j := ⟨i.toNat, by lia⟩
  have hj : j < xs.length := by lia
  exact ⟨xs[j], atI_nat (by simp [hj]), h _ (List.getElem_mem hj)⟩
end
end L2

namespace Hv
open PySem L2

theorem sz {n : Nat} (h : n ≤ 1000000) : n ≤ sizeLine := Nat.le_trans h (by decide)
theorem szl {n : Nat} (h : n ≤ 1000000) : n < sizeLine := Nat.lt_of_le_of_lt h (by decide)

noncomputable def Kp (fp : List Addr) (H H' : Hp) : Prop := ∀ b o, H b = some o → b ∉ fp → H' b = some o
theorem Kp.refl {fp : List Addr} {H : Hp} : Kp fp H H := fun _ _ h _ => h
theorem Kp.trans {fp : List Addr} {H H1 H2 : Hp} (a : Kp fp H H1) (b : Kp fp H1 H2) : Kp fp H H2 := fun c o h n => b c o (a c o h n) n
theorem Kp.of {fp : List Addr} {H H' : Hp} (a : Same H H') : Kp fp H H' := fun c o h _ => a c o h
theorem Kp.same {fp : List Addr} {H H1 H2 : Hp} (a : Kp fp H H1) (b : Same H1 H2) : Kp fp H H2 := fun c o h n => b c o (a c o h n)
theorem same_upd {H : Hp} {a : Addr} {o : HO} (h : H a = none) : Same H (upd H a o) := fun b u e => by rw [upd_ne (ne_of_none e h)]; exact e
theorem same_upd2 {H H' : Hp} {a : Addr} {o : HO} (s : Same H H') (h : H a = none) : Same H (upd H' a o) := fun b u e => by rw [upd_ne (ne_of_none e h)]; exact s b u e
theorem kp_upd {fp : List Addr} {H H' : Hp} {a : Addr} {o : HO} (s : Kp fp H H') (h : a ∈ fp ∨ H a = none) : Kp fp H (upd H' a o) := fun b u e n => by
  have : b ≠ a := by
    rcases h with h | h
    · exact fun z => n (z ▸ h)
    · exact ne_of_none e h
  rw [upd_ne this]; exact s b u e n

structure FrOk (b : Nat) (ps : List Nat) (ws : List Int) : Prop where
  b2 : 2 ≤ b
  b16 : b ≤ 16
  l2 : 2 ≤ ps.length
  l4 : ps.length ≤ 4
  pr : ∀ p ∈ ps, 1 ≤ p ∧ p ≤ 6
  wl : ws.length = ps.sum
  wr : ∀ x ∈ ws, -9 ≤ x ∧ x ≤ 9
noncomputable abbrev natV (ps : List Nat) : List V := ps.map fun (p : Nat) => V.int (p : Int)
theorem natV_eq (ps : List Nat) : natV ps = (ps.map fun (p : Nat) => (p : Int)).map V.int := by simp [natV]
structure FrAt (H : Hp) (f a c : Addr) (b : Nat) (ps : List Nat) (ws : List Int) : Prop where
  tp : H f = some (.tup [.int b, .ref a, .ref c])
  hp : H a = some (.lst (natV ps))
  hw : H c = some (.lst (ws.map V.int))
  ok : FrOk b ps ws
theorem FrAt.keep {H H' : Hp} {f a c : Addr} {b : Nat} {ps : List Nat} {ws : List Int} (F : FrAt H f a c b ps ws) (s : Same H H') : FrAt H' f a c b ps ws := ⟨s _ _ F.tp, s _ _ F.hp, s _ _ F.hw, F.ok⟩
theorem FrOk.sum {b : Nat} {ps : List Nat} {ws : List Int} (F : FrOk b ps ws) : 2 ≤ ps.sum ∧ ps.sum ≤ 24 := by
  have h := Ma.sum_le6 ps F.pr
  have h1 := F.l2
  have h2 := F.l4
  lia

theorem Kp.free {fp : List Addr} {H H' : Hp} (s : Kp fp H H') {l : Addr} (h : H' l = none) (n : l ∉ fp) : H l = none := by
  cases q : H l with
  | none => rfl
  | some o =>
    rw [s l o q n] at h
    cases h
end Hv
namespace Hv
open PySem L2

theorem boot_isinstance : bootBuiltins "isinstance" = some (.builtin "isinstance") := PyProof.Rows.boot_isinstance
theorem boot_int : bootBuiltins "int" = some (.type "int") := PyProof.Rows.boot_int
theorem boot_bool : bootBuiltins "bool" = some (.type "bool") := PyProof.Rows.boot_bool
theorem boot_list : bootBuiltins "list" = some (.type "list") := PyProof.Rows.boot_list
theorem boot_tuple : bootBuiltins "tuple" = some (.type "tuple") := PyProof.Rows.boot_tuple
theorem boot_all : bootBuiltins "all" = some (.builtin "all") := PyProof.Rows.boot_all
theorem boot_sum : bootBuiltins "sum" = some (.builtin "sum") := PyProof.Rows.boot_sum
theorem boot_max : bootBuiltins "max" = some (.builtin "max") := PyProof.Rows.boot_max
theorem boot_min : bootBuiltins "min" = some (.builtin "min") := PyProof.Rows.boot_min
structure Txt (mg : Str → Option Value) : Prop where
  isi : mg "isinstance" = none
  int : mg "int" = none
  bool : mg "bool" = none
  list : mg "list" = none
  tuple : mg "tuple" = none
  all : mg "all" = none
  len : mg "len" = none
  sum : mg "sum" = none
  range : mg "range" = none
  max : mg "max" = none
  min : mg "min" = none
  rev : mg "reversed" = none
  zip : mg "zip" = none
  enum : mg "enumerate" = none

section
variable {K : PySem.W.Frag}
theorem kit_ii : PySem.W.kitOne K (.type "int") (.type "int") = some true := by kernel_rfl
theorem kit_ib : PySem.W.kitOne K (.type "int") (.type "bool") = some false := by kernel_rfl
theorem kit_bi : PySem.W.kitOne K (.type "bool") (.type "int") = some true := by kernel_rfl
theorem kit_bb : PySem.W.kitOne K (.type "bool") (.type "bool") = some true := by kernel_rfl
theorem kit_ni : PySem.W.kitOne K (.type "NoneType") (.type "int") = some false := by kernel_rfl
theorem kit_si : PySem.W.kitOne K (.type "str") (.type "int") = some false := by kernel_rfl
theorem kit_li : PySem.W.kitOne K (.type "list") (.type "int") = some false := by kernel_rfl
theorem kit_ti : PySem.W.kitOne K (.type "tuple") (.type "int") = some false := by kernel_rfl
theorem kit_di : PySem.W.kitOne K (.type "dict") (.type "int") = some false := by kernel_rfl
theorem kit_ll : PySem.W.kitOne K (.type "list") (.type "list") = some true := by kernel_rfl
theorem kit_tt : PySem.W.kitOne K (.type "tuple") (.type "tuple") = some true := by kernel_rfl
end

inductive Thing (H : Hp) : V → Prop where
  | non : Thing H .non
  | bl (b : Bool) : Thing H (.bl b)
  | int (i : Int) : Thing H (.int i)
  | str (x : Str) : Thing H (.str x)
  | lst {a : Addr} {xs : List V} (e : H a = some (.lst xs)) : Thing H (.ref a)
  | tup {a : Addr} {xs : List V} (e : H a = some (.tup xs)) : Thing H (.ref a)
  | dK {a : Addr} {kvs : List (Key × V)} (e : H a = some (.dK kvs)) : Thing H (.ref a)
theorem Thing.keep {H H' : Hp} {v : V} (t : Thing H v) (s : Same H H') : Thing H' v := by
  cases t with
  | non => exact .non
  | bl b => exact .bl b
  | int i => exact .int i
  | str x => exact .str x
  | lst e => exact .lst (s _ _ e)
  | tup e => exact .tup (s _ _ e)
  | dK e => exact .dK (s _ _ e)

noncomputable def isIntV : V → Bool
  | .int _ => true
  | _ => false
noncomputable def betw (v : V) (lo hi : Int) : Bool := match v with
  | .int i => decide (lo ≤ i) && decide (i ≤ hi)
  | _ => false
inductive spWhole (vs : List V) (H : Hp) (Q : VK) (E : XK) : Prop
  | mk : ∀ v, (vs = [v]) → (Thing H v) → (Q (.bl (isIntV v)) H) → spWhole vs H Q E
inductive spBetw (vs : List V) (H : Hp) (Q : VK) (E : XK) : Prop
  | mk : ∀ v lo hi, (vs = [v, .int lo, .int hi]) → (Thing H v) → (Q (.bl (betw v lo hi)) H) → spBetw vs H Q E
inductive spLBetw (vs : List V) (H : Hp) (Q : VK) (E : XK) : Prop
  | mk : ∀ a xs lo hi, (vs = [.ref a, .int lo, .int hi]) → (H a = some (.lst xs)) → (xs.length ≤ 1000) → ((∀ x ∈ xs, Thing H x)) → (∀ H', Same H H' → Q (.bl (xs.all fun x => betw x lo hi)) H') → spLBetw vs H Q E
inductive spIsFrame (vs : List V) (H : Hp) (Q : VK) (E : XK) : Prop
  | mk : ∀ f a c b ps ws, (vs = [.ref f]) → (FrAt H f a c b ps ws) → (∀ H', Same H H' → Q (.bl true) H') → spIsFrame vs H Q E
inductive spNeedFrame (vs : List V) (H : Hp) (Q : VK) (E : XK) : Prop
  | mk : ∀ f a c b ps ws, (vs = [.ref f]) → (FrAt H f a c b ps ws) → (∀ H', Same H H' → Q .non H') → spNeedFrame vs H Q E
inductive spHowMany (vs : List V) (H : Hp) (Q : VK) (E : XK) : Prop
  | mk : ∀ f a c b ps ws, (vs = [.ref f]) → (FrAt H f a c b ps ws) → (∀ H', Same H H' → Q (.int ((b ^ ps.sum : Nat) : Int)) H') → spHowMany vs H Q E
inductive spNeedNumber (vs : List V) (H : Hp) (Q : VK) (E : XK) : Prop
  | mk : ∀ f a c b ps ws, ∀ n : Nat, (vs = [.ref f, .int n]) → (FrAt H f a c b ps ws) → (n < b ^ ps.sum) → (∀ H', Same H H' → Q .non H') → spNeedNumber vs H Q E
inductive spFigures (vs : List V) (H : Hp) (Q : VK) (E : XK) : Prop
  | mk : ∀ f a c b ps ws, ∀ n : Nat, (vs = [.ref f, .int n]) → (FrAt H f a c b ps ws) → (n < b ^ ps.sum) → (∀ r H', H r = none → Same H H' → H' r = some (.lst (natV (Ma.dws b n ps.sum ps.sum))) → Q (.ref r) H') → spFigures vs H Q E

theorem betw_nats {ps : List Nat} {lo hi : Nat} (h : ∀ p ∈ ps, lo ≤ p ∧ p ≤ hi) : ((natV ps).all fun x => betw x lo hi) = true := by
  rw [List.all_eq_true]
  intro x hx
  obtain ⟨p, hp, rfl⟩ := List.mem_map.mp hx
  have := h p hp
  simp only [betw, Bool.and_eq_true, decide_eq_true_eq]
  omega
theorem betw_ints {ws : List Int} {lo hi : Int} (h : ∀ p ∈ ws, lo ≤ p ∧ p ≤ hi) : ((ws.map V.int).all fun x => betw x lo hi) = true := by
  rw [List.all_eq_true]
  intro x hx
  obtain ⟨p, hp, rfl⟩ := List.mem_map.mp hx
  have := h p hp
  simp only [betw, Bool.and_eq_true, decide_eq_true_eq]
  omega
theorem things_ints {H : Hp} (ws : List Int) : ∀ x ∈ ws.map V.int, Thing H x := fun x hx => by
  obtain ⟨p, _, rfl⟩ := List.mem_map.mp hx
  exact .int p
theorem things_nats {H : Hp} (ps : List Nat) : ∀ x ∈ natV ps, Thing H x := fun x hx => by
  obtain ⟨p, _, rfl⟩ := List.mem_map.mp hx
  exact .int p
end Hv
namespace Hv
open PySem L2
noncomputable def top (i : Nat) : Stmt := PySem.Challenge.pw_likehalves_k12_whole_small_frames.main.body.getD i (.Pass ⟨0, 0, 0, 0⟩)
noncomputable abbrev sWhole : Stmt := top 8
noncomputable abbrev sBetw : Stmt := top 9
noncomputable abbrev sLBetw : Stmt := top 10
noncomputable abbrev sIsFrame : Stmt := top 11
noncomputable abbrev sNeedFrame : Stmt := top 12
noncomputable abbrev sHowMany : Stmt := top 13
noncomputable abbrev sNeedNumber : Stmt := top 14
noncomputable abbrev sCut : Stmt := top 15
noncomputable abbrev sFiguresOf : Stmt := top 16
noncomputable abbrev sPartSums : Stmt := top 17
noncomputable abbrev sMissesBy : Stmt := top 18
noncomputable abbrev sOneMore : Stmt := top 20
noncomputable abbrev sWaysW : Stmt := top 21
noncomputable abbrev sWaysParts : Stmt := top 22
noncomputable abbrev sWaysWith : Stmt := top 23
noncomputable abbrev sWaysPart : Stmt := top 24
noncomputable abbrev sEvenBy : Stmt := top 25
noncomputable abbrev sCountEven : Stmt := top 26
noncomputable abbrev sCountWith : Stmt := top 27
noncomputable abbrev sNeedMiss : Stmt := top 28
noncomputable abbrev sRunning : Stmt := top 29
noncomputable abbrev sWithin : Stmt := top 30
noncomputable abbrev sSpreadW : Stmt := top 31
noncomputable abbrev sCountNear : Stmt := top 32
noncomputable abbrev sCountMissing : Stmt := top 33
noncomputable abbrev sDraws : Stmt := top 35
noncomputable abbrev sTake : Stmt := top 36
noncomputable abbrev sFrame : Stmt := top 37
noncomputable abbrev sCopy : Stmt := top 38
noncomputable abbrev sSmallFrame : Stmt := top 39
noncomputable abbrev sSumsOf : Stmt := top 40
noncomputable abbrev sGone : Stmt := top 41
noncomputable abbrev sPartsRight : Stmt := top 42
noncomputable abbrev sRight : Stmt := top 43
noncomputable abbrev sLaw : Stmt := top 44
end Hv
namespace Hv
open PySem L2
section
variable {P : Program} {w : World} {K : PySem.W.Frag} {mg : Str → Option Value} {base : Heap}

theorem scWhole : FnScope ["thing"] ["thing"] (defScope sWhole) := ⟨rfl, rfl, rfl, by decide +kernel, rfl, by decide +kernel, by decide +kernel⟩
theorem ok_whole {f : Addr} {fd : FuncData} (F : Fun K "is_whole" "is_whole" sWhole f fd) (T : Txt mg) : FnOk P w K mg base CX0 1 f fd ["thing"] spWhole := by
  refine F.ok scWhole (fun vs H Q E h => ?_) (fun cdv A outer s H vs Q E hr h => ?_)
  · obtain ⟨v, rfl, _⟩ := h; rfl
  · obtain ⟨v, rfl, ty, k⟩ := h
    refine ⟨_, pss_one (ps_ret (pe_and (pe_callB call_isi (by rfl) T.isi boot_isinstance (pa_cons (pv 0) (pa_cons (pe_ty T.int boot_int) pa_nil)))
      (pe_one (pe_not (pe_callB call_isi (by rfl) T.isi boot_isinstance (pa_cons (pv 0) (pa_cons (pe_ty T.bool boot_bool) pa_nil))))))), ?_⟩
    cases ty with
    | non => exact ⟨_, rfl, _, _, _, _, rfl, .non, kit_ni, false, rfl, iteF k⟩
    | bl b => exact ⟨_, rfl, _, _, _, _, rfl, .bl b, kit_bi, true, rfl, iteT ⟨_, rfl, _, _, _, _, rfl, .bl b, kit_bb, true, rfl, k⟩⟩
    | int i => exact ⟨_, rfl, _, _, _, _, rfl, .int i, kit_ii, true, rfl, iteT ⟨_, rfl, _, _, _, _, rfl, .int i, kit_ib, false, rfl, k⟩⟩
    | str x => exact ⟨_, rfl, _, _, _, _, rfl, .str x, kit_si, false, rfl, iteF k⟩
    | lst e => exact ⟨_, rfl, _, _, _, _, rfl, .lst e, kit_li, false, rfl, iteF k⟩
    | tup e => exact ⟨_, rfl, _, _, _, _, rfl, .tup e, kit_ti, false, rfl, iteF k⟩
    | dK e => exact ⟨_, rfl, _, _, _, _, rfl, .dK e, kit_di, false, rfl, iteF k⟩

theorem scBetw : FnScope ["thing", "least", "greatest"] ["thing", "least", "greatest"] (defScope sBetw) := ⟨rfl, rfl, rfl, by decide +kernel, rfl, by decide +kernel, by decide +kernel⟩
theorem ok_betw {f : Addr} {fd : FuncData} (F : Fun K "is_between" "is_between" sBetw f fd) (D1 : Def P w K mg base 1 "is_whole" ["thing"] spWhole) : FnOk P w K mg base CX0 2 f fd ["thing", "least", "greatest"] spBetw := by
  refine F.ok scBetw (fun vs H Q E h => ?_) (fun cdv A outer s H vs Q E hr h => ?_)
  · obtain ⟨v, lo, hi, rfl, _⟩ := h; rfl
  · obtain ⟨v, lo, hi, rfl, ty, k⟩ := h
    refine ⟨_, pss_one (ps_ret (pe_and (pe_fn D1 hr (by rfl) (pa_cons (pv 0) pa_nil)) (pe_one (pe_chain op_le op_le (pv 1) (pv 0) (pv 2))))), ?_⟩
    refine ⟨_, rfl, v, rfl, ty, _, rfl, ?_⟩
    cases v with
    | int i =>
      refine iteT ?_
      refine ⟨_, rfl, _, rfl, _, _, rfl, rfl, _, rfl, ?_⟩
      by_cases h1 : lo ≤ i
      · rw [decide_eq_true h1]
        refine iteT ⟨_, rfl, _, _, rfl, rfl, ?_⟩
        have e : betw (.int i) lo hi = decide (i ≤ hi) := by simp [betw, h1]
        rw [e] at k
        exact k
      · rw [decide_eq_false h1]
        refine iteF ?_
        have e : betw (.int i) lo hi = false := by simp [betw, h1]
        rw [e] at k
        exact k
    | _ => exact iteF k

theorem scLBetw : FnScope ["thing", "least", "greatest"] ["thing", "least", "greatest"] (defScope sLBetw) := ⟨rfl, rfl, rfl, by decide +kernel, rfl, by decide +kernel, by decide +kernel⟩
theorem ok_lbetw {f : Addr} {fd : FuncData} (F : Fun K "is_list_between" "is_list_between" sLBetw f fd) (T : Txt mg) (D2 : Def P w K mg base 2 "is_between" ["thing", "least", "greatest"] spBetw) : FnOk P w K mg base CX0 3 f fd ["thing", "least", "greatest"] spLBetw := by
  refine F.ok scLBetw (fun vs H Q E h => ?_) (fun cdv A outer s H vs Q E hr h => ?_)
  · obtain ⟨a, xs, lo, hi, rfl, _⟩ := h; rfl
  · obtain ⟨a, xs, lo, hi, rfl, ha, hlen, hth, k⟩ := h
    refine ⟨_, pss_one (ps_ret (pe_and (pe_callB call_isi (by rfl) T.isi boot_isinstance (pa_cons (pv 0) (pa_cons (pe_ty T.list boot_list) pa_nil)))
      (pe_one (pe_callB (call_all rfl) (by rfl) T.all boot_all (pa_cons
        (pe_cmp1 (defScope sLBetw) ["thing", "least", "greatest"] ["least", "greatest"] [1, 2] rfl (pi_list (pv 0)) (fun cl C s H fp => pf_nil) (fun cl C s H fp => pe_fn D2 hr (by rfl) (pa_cons (pv 0) (pa_cons (pv 1) (pa_cons (pv 2) pa_nil)))) (by decide +kernel)) pa_nil))))), ?_⟩
    refine ⟨_, rfl, _, _, _, _, rfl, .lst ha, kit_ll, true, rfl, iteT ?_⟩
    refine ⟨_, rfl, a, rfl, ⟨_, SqL.of ha⟩, comp_list (K := K) (a := a) (xs := xs) (fun i ys H2 => ys = ((xs.take i).map fun x => V.bl (betw x lo hi)) ∧ Same H H2) ⟨by simp, Same.refl _⟩ (fun i ys H2 _ p => SqL.of (p.2 _ _ ha)) ?_ ?_⟩
    · rintro i x ys H2 hx ⟨rfl, s2⟩
      have hil : i < xs.length := (List.getElem?_eq_some_iff.mp hx).1
      refine ⟨szl (by rw [List.length_map, List.length_take]; lia), ?_⟩
      refine ⟨_, rfl, _, rfl, _, rfl, x, lo, hi, rfl, (hth x (List.mem_of_getElem? hx)).keep s2, ?_, s2⟩
      rw [List.take_add_one, hx]
      simp
    · rintro ys H2 ⟨rfl, s2⟩ D hD
      refine ⟨D, xs.map fun x => betw x lo hi, rfl, SqL.of ?_, ?_⟩
      · rw [upd_same, List.take_length, List.map_map]
        rfl
      · have e : (xs.map fun x => betw x lo hi).all id = xs.all fun x => betw x lo hi := by rw [List.all_map]; rfl
        rw [e]
        exact k _ (same_upd2 s2 (s2.free hD))

theorem scIsFrame : FnScope ["thing"] ["thing"] (defScope sIsFrame) := ⟨rfl, rfl, rfl, by decide +kernel, rfl, by decide +kernel, by decide +kernel⟩
theorem ok_isframe {f : Addr} {fd : FuncData} (F : Fun K "is_frame" "is_frame" sIsFrame f fd) (T : Txt mg) (D2 : Def P w K mg base 2 "is_between" ["thing", "least", "greatest"] spBetw) (D3 : Def P w K mg base 3 "is_list_between" ["thing", "least", "greatest"] spLBetw) :
    FnOk P w K mg base CX0 4 f fd ["thing"] spIsFrame := by
  refine F.ok scIsFrame (fun vs H Q E h => ?_) (fun cdv A outer s H vs Q E hr h => ?_)
  · obtain ⟨g, a, c, b, ps, ws, rfl, _⟩ := h; rfl
  · obtain ⟨g, a, c, b, ps, ws, rfl, G, k⟩ := h
    have ok := G.ok
    have hsum := ok.sum
    refine ⟨_, pss_cons (ps_if (PW.pt (pw_or (pt_not (pt_val (pe_callB call_isi (by rfl) T.isi boot_isinstance (pa_cons (pv 0) (pa_cons (pe_ty T.tuple boot_tuple) pa_nil))))) (pw_or1 (pt_cmpR op_ne (lenS T.len (by rfl) (pv 0)) pe_int (nomark _))))) (pss_one (ps_ret pe_bl)) pss_nil)
      (pss_cons (ps_if (pt_not (pt_val (pe_fn D2 (hr.mono (by decide)) (by rfl) (pa_cons (ixt (pv 0) pe_int) (pa_cons pe_int (pa_cons pe_int pa_nil)))))) (pss_one (ps_ret pe_bl)) pss_nil)
      (pss_cons (ps_if (PW.pt (pw_or (pt_not (pt_val (pe_fn D3 hr (by rfl) (pa_cons (ixt (pv 0) pe_int) (pa_cons pe_int (pa_cons pe_int pa_nil)))))) (pw_or1 (pt_not (pt_chain op_le op_le pe_int (lenS T.len (by rfl) (ixt (pv 0) pe_int)) pe_int))))) (pss_one (ps_ret pe_bl)) pss_nil)
      (pss_one (ps_ret (pe_and (pe_fn D3 hr (by rfl) (pa_cons (ixt (pv 0) pe_int) (pa_cons (pe_un un_neg pe_int) (pa_cons pe_int pa_nil))))
        (pe_one (pe_cmpR op_eq (lenS T.len (by rfl) (ixt (pv 0) pe_int)) (pe_callB (call_sumA rfl) (by rfl) T.sum boot_sum (pa_cons (ixt (pv 0) pe_int) pa_nil)) (nomark _)))))))), ?_⟩
    -- a tuple of three
    refine ⟨_, rfl, _, _, _, _, rfl, .tup G.tp, kit_tt, true, rfl, iteF ?_⟩
    refine ⟨_, rfl, g, _, rfl, .inr (SqT.of G.tp), rfl, _, rfl, iteNS rfl ?_⟩
    -- the base
    refine ⟨_, rfl, _, _, _, _, rfl, rfl, SqT.of G.tp, rfl, ⟨.int b, 2, 16, rfl, .int _, _, rfl, ?_⟩⟩
    have e1 : betw (.int b) 2 16 = true := by
      have h1 := ok.b2
      have h2 := ok.b16
      simp only [betw, Bool.and_eq_true, decide_eq_true_eq]
      lia
    rw [e1]
    refine iteF ?_
    -- the parts
    refine ⟨_, rfl, _, _, _, _, rfl, rfl, SqT.of G.tp, rfl, ⟨a, _, 1, 6, rfl, G.hp, (by simp [natV]; have := ok.l4; lia), things_nats ps, fun H1 s1 => ⟨_, rfl, ?_⟩⟩⟩
    have e2 : ((natV ps).all fun x => betw x 1 6) = true := betw_nats (lo := 1) (hi := 6) ok.pr
    rw [e2]
    refine iteF ?_
    refine ⟨_, rfl, _, _, _, _, rfl, rfl, SqT.of (s1 _ _ G.tp), rfl, ⟨a, _, rfl, .inl (SqL.of (s1 _ _ G.hp)), _, _, rfl, rfl, _, rfl, ?_⟩⟩
    have e3 : ((natV ps).length : Int) = ps.length := by simp [natV]
    have l2 := ok.l2
    have l4 := ok.l4
    refine ite2 (fun _ => ?_) (fun h => absurd (decide_eq_true (by lia)) h)
    refine ⟨_, _, rfl, rfl, _, rfl, ?_⟩
    refine iteNS (by lia) ?_
    -- the weights
    refine ⟨_, rfl, _, _, _, _, rfl, rfl, SqT.of (s1 _ _ G.tp), rfl, ⟨_, rfl, ⟨c, _, -9, 9, rfl, s1 _ _ G.hw, (by rw [List.length_map, ok.wl]; lia), things_ints ws, fun H2 s2 => ⟨_, rfl, ?_⟩⟩⟩⟩
    have e4 : ((ws.map V.int).all fun x => betw x (-9) 9) = true := betw_ints ok.wr
    rw [e4]
    refine iteT ?_
    have G2 := (G.keep s1).keep s2
    refine ⟨_, rfl, _, _, _, _, rfl, rfl, SqT.of G2.tp, rfl, ⟨c, _, rfl, .inl (SqL.of G2.hw), ?_⟩⟩
    refine ⟨_, rfl, _, _, _, _, rfl, rfl, SqT.of G2.tp, rfl, ⟨a, ps.map fun (p : Nat) => (p : Int), rfl, SqL.of (by rw [← natV_eq]; exact G2.hp), rfl, ?_⟩⟩
    · have e5 : decide (V.int ((ws.map V.int).length : Int) = V.int (ps.map fun (p : Nat) => (p : Int)).sum) = true := by
        rw [decide_eq_true_eq, Ma.sum_cast, List.length_map, ok.wl]
      rw [e5]
      exact k H2 (s1.trans s2)

theorem scNeedFrame : FnScope ["thing"] ["thing"] (defScope sNeedFrame) := ⟨rfl, rfl, rfl, by decide +kernel, rfl, by decide +kernel, by decide +kernel⟩
theorem ok_needframe {f : Addr} {fd : FuncData} (F : Fun K "need_frame" "need_frame" sNeedFrame f fd) (D4 : Def P w K mg base 4 "is_frame" ["thing"] spIsFrame) : FnOk P w K mg base CX0 5 f fd ["thing"] spNeedFrame := by
  refine F.ok scNeedFrame (fun vs H Q E h => ?_) (fun cdv A outer s H vs Q E hr h => ?_)
  · obtain ⟨g, a, c, b, ps, ws, rfl, _⟩ := h; rfl
  · obtain ⟨g, a, c, b, ps, ws, rfl, G, k⟩ := h
    refine ⟨_, pss_one (ps_if (pt_not (pt_val (pe_fn D4 hr (by rfl) (pa_cons (pv 0) pa_nil)))) pss_never pss_nil), ?_⟩
    exact ⟨_, rfl, g, a, c, b, ps, ws, rfl, G, fun H1 s1 => ⟨_, rfl, iteF (k H1 s1)⟩⟩

theorem scHowMany : FnScope ["frame", "many", "place"] ["frame"] (defScope sHowMany) := ⟨rfl, rfl, rfl, by decide +kernel, rfl, by decide +kernel, by decide +kernel⟩
theorem ok_howmany {f : Addr} {fd : FuncData} (F : Fun K "how_many" "how_many" sHowMany f fd) (T : Txt mg) (D5 : Def P w K mg base 5 "need_frame" ["thing"] spNeedFrame) : FnOk P w K mg base CX0 6 f fd ["frame"] spHowMany := by
  refine F.ok scHowMany (fun vs H Q E h => ?_) (fun cdv A outer s H vs Q E hr h => ?_)
  · obtain ⟨g, a, c, b, ps, ws, rfl, _⟩ := h; rfl
  · obtain ⟨g, a, c, b, ps, ws, rfl, G, k⟩ := h
    have ok := G.ok
    have hsum := ok.sum
    refine ⟨_, pss_cons (ps_expr (pe_fn D5 hr (by rfl) (pa_cons (pv 0) pa_nil)))
      (pss_cons (ps_set (i := 1) scHowMany.nd rfl (Or.inl rfl) pe_int)
      (pss_cons (ps_for PassesOwn.never rfl (pi_range1 (by rfl) T.range (pa_cons (lenS T.len (by rfl) (ixt (pv 0) pe_int)) pa_nil)) (pg_name (i := 2) scHowMany.nd rfl (Or.inl rfl))
        (pss_one (ps_set (i := 1) scHowMany.nd rfl (Or.inl rfl) (pe_op op_mul (pv 1) (ixt (pv 0) pe_int)))))
      (pss_one (ps_ret (pv 1))))), ?_⟩
    refine ⟨_, rfl, g, a, c, b, ps, ws, rfl, G, fun H1 s1 => ?_⟩
    have G1 := G.keep s1
    refine ⟨_, rfl, _, _, _, _, rfl, rfl, SqT.of G1.tp, rfl, ⟨c, _, rfl, .inl (SqL.of G1.hw), _, rfl, (by rw [List.length_map, ok.wl]; lia), (by rw [List.length_map, ok.wl]; lia), ?_⟩⟩
    have en : ((ws.map V.int).length : Int).toNat = ps.sum := by rw [List.length_map, ok.wl]; lia
    rw [en]
    refine for_range (n := ps.sum) (fun i σ H2 => H2 = H1 ∧ ∃ v, σ = [some (.ref g), some (.int ((b ^ i : Nat) : Int)), v]) ⟨rfl, none, rfl⟩ ?_ ?_
    · rintro i σ H2 hi ⟨rfl, v, rfl⟩
      refine ⟨_, rfl, _, rfl, _, _, _, _, rfl, rfl, SqT.of G1.tp, rfl, ⟨_, _, rfl, rfl, .inr ⟨by have := ok.b16; lia, by have := ok.b16; lia⟩, rfl, some (.int (0 + (i : Int))), ?_⟩⟩
      rw [Nat.pow_succ]
      push_cast
      rfl
    · rintro σ H2 ⟨rfl, v, rfl⟩
      exact ⟨_, rfl, k _ s1⟩

theorem scNeedNumber : FnScope ["frame", "thing"] ["frame", "thing"] (defScope sNeedNumber) := ⟨rfl, rfl, rfl, by decide +kernel, rfl, by decide +kernel, by decide +kernel⟩
theorem ok_neednumber {f : Addr} {fd : FuncData} (F : Fun K "need_number" "need_number" sNeedNumber f fd) (D2 : Def P w K mg base 2 "is_between" ["thing", "least", "greatest"] spBetw) (D6 : Def P w K mg base 6 "how_many" ["frame"] spHowMany) :
    FnOk P w K mg base CX0 7 f fd ["frame", "thing"] spNeedNumber := by
  refine F.ok scNeedNumber (fun vs H Q E h => ?_) (fun cdv A outer s H vs Q E hr h => ?_)
  · obtain ⟨g, a, c, b, ps, ws, n, rfl, _⟩ := h; rfl
  · obtain ⟨g, a, c, b, ps, ws, n, rfl, G, hn, k⟩ := h
    refine ⟨_, pss_one (ps_if (pt_not (pt_val (pe_fn D2 (hr.mono (by decide)) (by rfl) (pa_cons (pv 1) (pa_cons pe_int (pa_cons (pe_op op_sub (pe_fn D6 hr (by rfl) (pa_cons (pv 0) pa_nil)) pe_int) pa_nil)))))) pss_never pss_nil), ?_⟩
    refine ⟨_, rfl, _, rfl, g, a, c, b, ps, ws, rfl, G, fun H1 s1 => ⟨_, _, rfl, rfl, .int n, 0, _, rfl, .int _, _, rfl, ?_⟩⟩
    have e : betw (.int (n : Int)) 0 (((b ^ ps.sum : Nat) : Int) - 1) = true := by
      simp only [betw, Bool.and_eq_true, decide_eq_true_eq]
      lia
    rw [e]
    exact iteF (k H1 s1)

theorem scFiguresOf : FnScope ["frame", "n", "figures", "rest", "place"] ["frame", "n"] (defScope sFiguresOf) := ⟨rfl, rfl, rfl, by decide +kernel, rfl, by decide +kernel, by decide +kernel⟩
theorem ok_figuresof {f : Addr} {fd : FuncData} (F : Fun K "figures_of" "figures_of" sFiguresOf f fd) (T : Txt mg) (D5 : Def P w K mg base 5 "need_frame" ["thing"] spNeedFrame) (D7 : Def P w K mg base 7 "need_number" ["frame", "thing"] spNeedNumber) :
    FnOk P w K mg base CX0 8 f fd ["frame", "n"] spFigures := by
  refine F.ok scFiguresOf (fun vs H Q E h => ?_) (fun cdv A outer s H vs Q E hr h => ?_)
  · obtain ⟨g, a, c, b, ps, ws, n, rfl, _⟩ := h; rfl
  · obtain ⟨g, a, c, b, ps, ws, n, rfl, G, hn, k⟩ := h
    have ok := G.ok
    have hsum := ok.sum
    have b2 := ok.b2
    have b16 := ok.b16
    refine ⟨_, pss_cons (ps_expr (pe_fn D5 (hr.mono (by decide)) (by rfl) (pa_cons (pv 0) pa_nil)))
      (pss_cons (ps_expr (pe_fn D7 hr (by rfl) (pa_cons (pv 0) (pa_cons (pv 1) pa_nil))))
      (pss_cons (ps_set (i := 2) scFiguresOf.nd rfl (Or.inl rfl) (pe_lst pa_nil))
      (pss_cons (ps_set (i := 3) scFiguresOf.nd rfl (Or.inl rfl) (pv 1))
      (pss_cons (ps_for PassesOwn.never rfl (pi_range1 (by rfl) T.range (pa_cons (lenS T.len (by rfl) (ixt (pv 0) pe_int)) pa_nil)) (pg_name (i := 4) scFiguresOf.nd rfl (Or.inl rfl))
        (pss_cons (ps_expr (pe_bm PySem.F.plainAttrs_list PySem.F.slot_list_append PySem.F.type_list_append mt_append (pv 2) (pa_cons (pe_op op_mod (pv 3) (ixt (pv 0) pe_int)) pa_nil)))
        (pss_one (ps_set (i := 3) scFiguresOf.nd rfl (Or.inl rfl) (pe_op op_fdiv (pv 3) (ixt (pv 0) pe_int))))))
      (pss_one (ps_ret (pe_lrev rfl T.list T.rev (by rfl) (by rfl) (pv 2)))))))), ?_⟩
    refine ⟨_, rfl, g, a, c, b, ps, ws, rfl, G, fun H1 s1 => ?_⟩
    have G1 := G.keep s1
    refine ⟨_, rfl, _, rfl, g, a, c, b, ps, ws, n, rfl, G1, hn, fun H2 s2 => ?_⟩
    have G2 := G1.keep s2
    refine ⟨sz (by decide), fun l hl => ?_⟩
    have s3 : Same H2 (upd H2 l (.lst [])) := same_upd hl
    have G3 := G2.keep s3
    refine ⟨_, rfl, _, rfl, _, _, _, _, rfl, rfl, SqT.of G3.tp, rfl, ⟨c, _, rfl, .inl (SqL.of G3.hw), _, rfl, (by rw [List.length_map, ok.wl]; lia), (by rw [List.length_map, ok.wl]; lia), ?_⟩⟩
    have en : ((ws.map V.int).length : Int).toNat = ps.sum := by rw [List.length_map, ok.wl]; lia
    rw [en]
    refine for_range (n := ps.sum) (fun i σ H4 => ∃ v, σ = [some (.ref g), some (.int n), some (.ref l), some (.int ((n / b ^ i : Nat) : Int)), v] ∧ Same H2 H4 ∧ H4 l = some (.lst (natV (Ma.ups b n i)))) ⟨none, (by rw [Nat.pow_zero, Nat.div_one]; rfl), s3, upd_same⟩ ?_ ?_
    · rintro i σ H4 hi ⟨v, rfl, s4, h4⟩
      have G4 := G2.keep s4
      refine ⟨_, rfl, .inl ⟨rfl, _, SqL.of h4⟩, _, rfl, _, rfl, _, _, _, _, rfl, rfl, SqT.of G4.tp, rfl, ⟨_, _, rfl, rfl, (by show (0 : Int) < b; lia), l, _, _, rfl, rfl, h4, szl (by simp [natV, Ma.ups_len]; lia), ?_⟩⟩
      have s5 : Same H2 (upd H4 l (.lst (natV (Ma.ups b n i) ++ [V.int (((n / b ^ i : Nat) : Int) % (b : Int))]))) := same_upd2 s4 hl
      refine ⟨_, rfl, _, rfl, _, _, _, _, rfl, rfl, SqT.of (G2.keep s5).tp, rfl, ⟨_, _, rfl, rfl, ⟨by show (0 : Int) < b; lia, by show (b : Int) < 1073741824; lia⟩, some (.int (0 + (i : Int))), ?_, s5, ?_⟩⟩
      · rw [← Ma.div_up]
        push_cast
        rfl
      · rw [upd_same, Ma.ups_succ]
        simp [natV]
    · rintro σ H4 ⟨v, rfl, s4, h4⟩
      refine ⟨_, rfl, l, _, rfl, SqL.of h4, fun r hr' => ?_⟩
      refine k r _ ?_ ((s1.trans s2).trans (same_upd2 s4 (s4.free hr'))) ?_
      · exact (s1.trans (s2.trans s4)).free hr'
      · rw [upd_same, ← Ma.ups_rev]
        simp [natV]
end
end Hv
namespace Hv
open PySem L2
noncomputable abbrev RowsAt (H : Hp) (qs : List Addr) (rows : List (List Int)) : Prop := Paired (fun q row => H q = some (.lst (row.map V.int))) qs rows
theorem RowsAt.keepOn {H H' : Hp} {qs : List Addr} {rows : List (List Int)} (s : ∀ b ∈ qs, ∀ row : List Int, H b = some (.lst (row.map V.int)) → H' b = some (.lst (row.map V.int))) (h : RowsAt H qs rows) : RowsAt H' qs rows := by
  induction h with
  | nil => exact .nil
  | cons h _ ih => exact .cons (s _ (by simp) _ h) (ih fun b hb => s b (List.mem_cons_of_mem _ hb))
theorem rows_get {F : Addr → List Int → Prop} {qs : List Addr} {rows : List (List Int)} {i : Nat} {q : Addr} (h : Paired F qs rows) (e : qs[i]? = some q) : ∃ row, rows[i]? = some row ∧ F q row := Paired.at h e
inductive spCut (vs : List V) (H : Hp) (Q : VK) (E : XK) : Prop
  | mk : ∀ f a c b ps ws, ∀ (r : Addr) (xs : List Int), (vs = [.ref f, .ref r]) → (FrAt H f a c b ps ws) → (H r = some (.lst (xs.map V.int))) → (∀ p qs H', Same H H' → H' p = some (.lst (qs.map V.ref)) → RowsAt H' qs (Ma.cuts ps xs) → Q (.ref p) H') → spCut vs H Q E
inductive spSums (vs : List V) (H : Hp) (Q : VK) (E : XK) : Prop
  | mk : ∀ f a c b ps ws, ∀ n : Nat, (vs = [.ref f, .int n]) → (FrAt H f a c b ps ws) → (n < b ^ ps.sum) → (∀ r H', H r = none → Same H H' → H' r = some (.lst ((Ma.psums ps (Ma.wts b n ps.sum ws)).map V.int)) → Q (.ref r) H') → spSums vs H Q E
theorem cut_mid {xs : List V} {i k : Nat} : cutV xs (some (i : Int)) (some ((i : Int) + (k : Int))) = (xs.drop i).take k := by
  have e : (i : Int) + (k : Int) = ((i + k : Nat) : Int) := by lia
  unfold cutV
  rw [e, HT.sIx_nat, HT.sIx_nat]
  rcases Nat.le_total i xs.length with h | h
  · rw [Nat.min_eq_left h]
    rcases Nat.le_total (i + k) xs.length with h2 | h2
    · rw [Nat.min_eq_left h2, Nat.add_sub_cancel_left]
    · rw [Nat.min_eq_right h2, List.take_of_length_le (by rw [List.length_drop]; lia), List.take_of_length_le (by rw [List.length_drop]; lia)]
  · rw [Nat.min_eq_right h, List.drop_of_length_le (Nat.le_refl _), List.drop_of_length_le h]
    simp
section
variable {P : Program} {w : World} {K : PySem.W.Frag} {mg : Str → Option Value} {base : Heap}
theorem scCut : FnScope ["frame", "row", "pieces", "start", "length"] ["frame", "row"] (defScope sCut) := ⟨rfl, rfl, rfl, by decide +kernel, rfl, by decide +kernel, by decide +kernel⟩
theorem ok_cut {f : Addr} {fd : FuncData} (F : Fun K "cut_by_parts" "cut_by_parts" sCut f fd) : FnOk P w K mg base CX0 1 f fd ["frame", "row"] spCut := by
  refine F.ok scCut (fun vs H Q E h => ?_) (fun cdv A outer s H vs Q E hr h => ?_)
  · obtain ⟨g, a, c, b, ps, ws, r, xs, rfl, _⟩ := h; rfl
  · obtain ⟨g, a, c, b, ps, ws, r, xs, rfl, G, hrow, k⟩ := h
    have nd := scCut.nd
    have l4 := G.ok.l4
    refine ⟨_, pss_cons (ps_set (i := 2) nd rfl (Or.inl rfl) (pe_lst pa_nil))
      (pss_cons (ps_set (i := 3) nd rfl (Or.inl rfl) pe_int)
      (pss_cons (ps_for PassesOwn.never rfl (pi_list (ixt (pv 0) pe_int)) (pg_name (i := 4) nd rfl (Or.inl rfl))
        (pss_cons (ps_expr (pe_bm PySem.F.plainAttrs_list PySem.F.slot_list_append PySem.F.type_list_append mt_append (pv 2) (pa_cons (pe_slice sl_list (pv 1) (po_some (pv 3)) (po_some (pe_op op_add (pv 3) (pv 4)))) pa_nil)))
        (pss_one (ps_set (i := 3) nd rfl (Or.inl rfl) (pe_op op_add (pv 3) (pv 4))))))
      (pss_one (ps_ret (pv 2))))), ?_⟩
    refine ⟨sz (by decide), fun p hp => ?_⟩
    have s1 : Same H (upd H p (.lst [])) := same_upd hp
    have G1 := G.keep s1
    refine ⟨_, rfl, _, _, _, _, rfl, rfl, SqT.of G1.tp, rfl, a, rfl, ⟨_, SqL.of G1.hp⟩, for_list (K := K) (a := a) (xs := natV ps) (fun i σ H2 => ∃ (qs : List Addr) (v4 : Option V), σ = [some (.ref g), some (.ref r), some (.ref p), some (.int (((ps.take i).sum : Nat) : Int)), v4] ∧
      Same H H2 ∧ H2 p = some (.lst (qs.map V.ref)) ∧ qs.length = i ∧ RowsAt H2 qs ((Ma.cuts ps xs).take i)) ⟨[], none, rfl, s1, upd_same, rfl, .nil⟩ (fun i σ H2 _ h => by obtain ⟨_, _, _, s2, _⟩ := h; exact SqL.of (s2 _ _ G.hp)) ?_ ?_⟩
    · rintro i x σ H2 hx ⟨qs, v4, rfl, s2, hp2, hl2, rows⟩
      have hi : i < ps.length := by
        have := (List.getElem?_eq_some_iff.mp hx).1
        simpa [natV] using this
      have e : ps[i]? = some ps[i] := by simp [hi]
      have ex : x = V.int ((ps[i] : Nat) : Int) := by
        have : (natV ps)[i]? = some (V.int ((ps[i] : Nat) : Int)) := by simp [natV, hi]
        rw [this] at hx
        exact (Option.some.inj hx).symm
      subst ex
      have pr : p ≠ r := Ne.symm (ne_of_none hrow hp)
      refine ⟨_, rfl, .inl ⟨rfl, _, SqL.of hp2⟩, _, rfl, _, rfl, _, rfl, _, rfl, _, rfl, _, _, rfl, rfl, _, rfl, r, _, rfl, SqL.of (s2 _ _ hrow), fun q hq => ?_⟩
      have pq : p ≠ q := ne_of_none hp2 hq
      refine ⟨p, _, _, rfl, rfl, (by rw [upd_ne pq]; exact hp2), szl (by rw [List.length_map]; lia), ?_⟩
      refine ⟨_, rfl, _, rfl, _, _, rfl, rfl, qs ++ [q], some (.int ((ps[i] : Nat) : Int)), ?_, same_upd2 (same_upd2 s2 (s2.free hq)) hp, ?_, by simp [hl2], ?_⟩
      · rw [List.take_add_one, e, List.sum_append]
        show [some (V.ref g), some (.ref r), some (.ref p), some (.int (((ps.take i).sum : Nat) + ((ps[i] : Nat) : Int))), _] = _
        simp
      · rw [upd_same]; simp
      · rw [List.take_add_one, Ma.cuts_get ps xs i ps[i] e]
        refine Paired.snoc (RowsAt.keepOn (H := H2) (fun bb hb row z => ?_) rows) ?_
        · have bp : bb ≠ p := ne_of z hp2 (by
            intro e
            have e' : row.map V.int = qs.map V.ref := by injection e
            have m1 : V.ref bb ∈ row.map V.int := by rw [e']; exact List.mem_map.mpr ⟨bb, hb, rfl⟩
            obtain ⟨_, _, m2⟩ := List.mem_map.mp m1
            cases m2)
          rw [upd_ne bp, upd_ne (ne_of_none z hq)]
          exact z
        · rw [upd_ne pq.symm, upd_same, cut_mid, ← List.map_drop, ← List.map_take]
    · rintro σ H2 ⟨qs, v4, rfl, s2, hp2, hl2, rows⟩
      refine ⟨_, rfl, k p qs H2 s2 hp2 ?_⟩
      have e : (natV ps).length = (Ma.cuts ps xs).length := by rw [Ma.cuts_len]; simp [natV]
      rw [e, List.take_length] at rows
      exact rows
end
end Hv
namespace Hv
open PySem L2
theorem call_sumAK {X : Cx} (K : PySem.W.Frag) (hK : X.K = K) (hc : X.calm = true) : CallR X (.builtin "sum") (fun xs H Q => ∃ (p : Addr) (ns : List Int), xs = [.ref p] ∧ SqL K H p (ns.map V.int) ∧ Q (.int ns.sum) H) := by
  subst hK
  exact call_sumA hc
section
variable {P : Program} {w : World} {K : PySem.W.Frag} {mg : Str → Option Value} {base : Heap}
theorem scPartSums : FnScope ["frame", "n", "figures", "weighted"] ["frame", "n"] (defScope sPartSums) := ⟨rfl, rfl, rfl, by decide +kernel, rfl, by decide +kernel, by decide +kernel⟩
theorem ok_partsums {f : Addr} {fd : FuncData} (F : Fun K "part_sums" "part_sums" sPartSums f fd) (T : Txt mg) (D8 : Def P w K mg base 8 "figures_of" ["frame", "n"] spFigures) (DC : Def P w K mg base 1 "cut_by_parts" ["frame", "row"] spCut) : FnOk P w K mg base CX0 9 f fd ["frame", "n"] spSums := by
  refine F.ok scPartSums (fun vs H Q E h => ?_) (fun cdv A outer s H vs Q E hr h => ?_)
  · obtain ⟨g, a, c, b, ps, ws, n, rfl, _⟩ := h; rfl
  · obtain ⟨g, a, c, b, ps, ws, n, rfl, G, hn, k⟩ := h
    have nd := scPartSums.nd
    have ok := G.ok
    have hsum := ok.sum
    have b2 := ok.b2
    have b16 := ok.b16
    have l4 := ok.l4
    have nd2 : List.Nodup (["figure", "weight"] : List Str) := by decide +kernel
    have hsmall := Ma.wts_small (n := n) (L := ps.sum) (by lia : 0 < b) b16 ok.wr
    refine ⟨_, pss_cons (ps_set (i := 2) nd rfl (Or.inl rfl) (pe_fn D8 hr (by rfl) (pa_cons (pv 0) (pa_cons (pv 1) pa_nil))))
      (pss_cons (ps_comp (i := 3) (N := ["figure", "weight"]) (k := 2) (fr := []) nd rfl (Or.inl rfl) (cmpS (sc := defScope sPartSums) (NX := ["frame", "n", "figures", "weighted"]) (k := 2) (fr := []) rfl rfl (by decide +kernel))
        (cmpF (sc := defScope sPartSums) (NX := ["frame", "n", "figures", "weighted"]) rfl (by decide +kernel)) rfl (pi_zip (by rfl) T.zip (pv 2) (ixt (pv 0) pe_int))
        (fun cl C s H fp => pg_tupK K rfl rfl (pgs_cons (pg_name (i := 0) nd2 rfl (Or.inl rfl)) (pgs_cons (pg_name (i := 1) nd2 rfl (Or.inl rfl)) pgs_nil))) gk_two (fun cl C s H fp => pf_nil) (fun cl C s H fp => pe_op op_mul (pv 0) (pv 1)) (by rfl))
      (pss_one (ps_ret (pe_cmp1 (defScope sPartSums) ["frame", "n", "figures", "weighted"] [] [] rfl (pi_list (pe_fn DC (hr.mono (by decide)) (by rfl) (pa_cons (pv 0) (pa_cons (pv 3) pa_nil)))) (fun cl C s H fp => pf_nil)
        (fun cl C s H fp => pe_callB (call_sumAK K rfl rfl) (by rfl) T.sum boot_sum (pa_cons (pv 0) pa_nil)) (by decide +kernel))))), ?_⟩
    refine ⟨_, rfl, _, rfl, g, a, c, b, ps, ws, n, rfl, G, hn, fun r H1 hr1 s1 h1 => ?_⟩
    have G1 := G.keep s1
    -- weighted
    refine ⟨_, rfl, _, rfl, _, _, _, _, rfl, rfl, SqT.of G1.tp, rfl, r, c, rfl, rfl, ⟨_, SqL.of h1⟩, ⟨_, SqL.of G1.hw⟩, comp_zip (K := K) (a := r) (b := c) (xs := natV (Ma.dws b n ps.sum ps.sum)) (ys := ws.map V.int)
      (fun i zs H' => zs = ((Ma.wts b n ps.sum ws).take i).map V.int ∧ Same H1 H') (by simp [natV, Ma.dws_len, ok.wl]) ⟨by simp, Same.refl _⟩ (fun i zs H' _ p => ⟨SqL.of (p.2 _ _ h1), SqL.of (p.2 _ _ G1.hw)⟩)
      (fun i zs H' hi p => szl (by rw [p.1, List.length_map, List.length_take]; simp [natV, Ma.dws_len] at hi; lia)) ?_ ?_⟩
    · rintro i x y zs H' t hx hy ⟨rfl, s2⟩ ht
      obtain ⟨d, hd, rfl⟩ : ∃ d : Nat, (Ma.dws b n ps.sum ps.sum)[i]? = some d ∧ x = .int d := by
        rw [natV, List.getElem?_map] at hx
        cases e : (Ma.dws b n ps.sum ps.sum)[i]? with
        | none => rw [e] at hx; cases hx
        | some d => rw [e] at hx; exact ⟨d, rfl, (Option.some.inj hx).symm⟩
      obtain ⟨x, hw, rfl⟩ : ∃ x : Int, ws[i]? = some x ∧ y = .int x := by
        rw [List.getElem?_map] at hy
        cases e : ws[i]? with
        | none => rw [e] at hy; cases hy
        | some d => rw [e] at hy; exact ⟨d, rfl, (Option.some.inj hy).symm⟩
      have hx9 := ok.wr x (List.mem_of_getElem? hw)
      refine ⟨t, _, rfl, SqT.of upd_same, rfl, _, _, rfl, _, _, rfl, rfl, _, rfl, _, rfl, _, _, rfl, rfl, .inr ⟨by lia, by lia⟩, ?_, same_upd2 s2 (s2.free ht)⟩
      rw [List.take_add_one, Ma.wts_get hd hw]
      simp
    rintro zs H' ⟨rfl, s2⟩ wl hwl
    have e1 : (natV (Ma.dws b n ps.sum ps.sum)).length = (Ma.wts b n ps.sum ws).length := by rw [Ma.wts_len _ _ _ _ ok.wl]; simp [natV, Ma.dws_len]
    rw [e1, List.take_length]
    have s3 : Same H1 (upd H' wl (.lst ((Ma.wts b n ps.sum ws).map V.int))) := same_upd2 s2 (s2.free hwl)
    have G3 := G1.keep s3
    -- the sums of the pieces
    refine ⟨_, rfl, _, rfl, g, a, c, b, ps, ws, wl, Ma.wts b n ps.sum ws, rfl, G3, upd_same, fun pl qs H4 s4 hpl rows => ⟨pl, rfl, ⟨_, SqL.of hpl⟩, comp_list (K := K) (a := pl) (xs := qs.map V.ref)
      (fun i ys H5 => ys = ((Ma.psums ps (Ma.wts b n ps.sum ws)).take i).map V.int ∧ H4 = H5) ⟨by simp, rfl⟩ (fun i ys H5 _ p => by rw [← p.2]; exact SqL.of hpl) ?_ ?_⟩⟩
    · rintro i x ys H5 hx ⟨rfl, rfl⟩
      obtain ⟨q, hq, rfl⟩ : ∃ q, qs[i]? = some q ∧ x = .ref q := by
        rw [List.getElem?_map] at hx
        cases e : qs[i]? with
        | none => rw [e] at hx; cases hx
        | some d => rw [e] at hx; exact ⟨d, rfl, (Option.some.inj hx).symm⟩
      obtain ⟨row, hrow, hq4⟩ := rows_get rows hq
      have hm := List.mem_of_getElem? hrow
      have hlen := Paired.length rows
      have hil := (List.getElem?_eq_some_iff.mp hq).1
      rw [Ma.cuts_len] at hlen
      refine ⟨szl (by rw [List.length_map, List.length_take]; lia), _, rfl, q, row, rfl, SqL.of hq4, ?_, rfl⟩
      · have e : (Ma.psums ps (Ma.wts b n ps.sum ws))[i]? = some row.sum := by unfold Ma.psums; rw [List.getElem?_map, hrow]; rfl
        rw [List.take_add_one, e]
        simp
    · rintro ys H5 ⟨rfl, rfl⟩ r2 hr2
      have hlen := Paired.length rows
      have e : (qs.map V.ref).length = (Ma.psums ps (Ma.wts b n ps.sum ws)).length := by rw [Ma.psums_len, List.length_map, hlen, Ma.cuts_len]
      rw [e, List.take_length]
      have S := (s1.trans s3).trans s4
      exact k r2 _ (S.free hr2) (same_upd2 S (S.free hr2)) upd_same
end
end Hv
namespace Hv
open PySem L2
noncomputable def spread (zs : List Int) : Int := Ma.maxL zs - Ma.minL zs
noncomputable abbrev sumsOf (b n : Nat) (ps : List Nat) (ws : List Int) : List Int := Ma.psums ps (Ma.wts b n ps.sum ws)
theorem sums_pos {b n : Nat} {ps : List Nat} {ws : List Int} (ok : FrOk b ps ws) : 0 < (sumsOf b n ps ws).length := by
  have := ok.l2
  rw [Ma.psums_len]; omega
inductive spMisses (vs : List V) (H : Hp) (Q : VK) (E : XK) : Prop
  | mk : ∀ f a c b ps ws, ∀ n : Nat, (vs = [.ref f, .int n]) → (FrAt H f a c b ps ws) → (n < b ^ ps.sum) → (∀ H', Same H H' → Q (.int (spread (sumsOf b n ps ws))) H') → spMisses vs H Q E
section
variable {P : Program} {w : World} {K : PySem.W.Frag} {mg : Str → Option Value} {base : Heap}
theorem scMissesBy : FnScope ["frame", "n", "totals"] ["frame", "n"] (defScope sMissesBy) := ⟨rfl, rfl, rfl, by decide +kernel, rfl, by decide +kernel, by decide +kernel⟩
theorem ok_misses {f : Addr} {fd : FuncData} (F : Fun K "misses_by" "misses_by" sMissesBy f fd) (T : Txt mg) (DP : Def P w K mg base 9 "part_sums" ["frame", "n"] spSums) : FnOk P w K mg base CX0 10 f fd ["frame", "n"] spMisses := by
  refine F.ok scMissesBy (fun vs H Q E h => ?_) (fun cdv A outer s H vs Q E hr h => ?_)
  · obtain ⟨g, a, c, b, ps, ws, n, rfl, _⟩ := h; rfl
  · obtain ⟨g, a, c, b, ps, ws, n, rfl, G, hn, k⟩ := h
    refine ⟨_, pss_cons (ps_set (i := 2) scMissesBy.nd rfl (Or.inl rfl) (pe_fn DP hr (by rfl) (pa_cons (pv 0) (pa_cons (pv 1) pa_nil))))
      (pss_one (ps_ret (pe_op op_sub (pe_callB (call_maxL rfl) (by rfl) T.max boot_max (pa_cons (pv 2) pa_nil)) (pe_callB (call_minL rfl) (by rfl) T.min boot_min (pa_cons (pv 2) pa_nil))))), ?_⟩
    refine ⟨_, rfl, _, rfl, g, a, c, b, ps, ws, n, rfl, G, hn, fun r H1 _ s1 h1 => ?_⟩
    exact ⟨_, rfl, r, _, rfl, SqL.of h1, sums_pos G.ok, _, rfl, r, _, rfl, SqL.of h1, sums_pos G.ok, _, _, rfl, rfl, k H1 s1⟩
end
end Hv
namespace Hv
open PySem L2
theorem boot_dict : bootBuiltins "dict" = some (.type "dict") := PyProof.Rows.boot_dict
theorem boot_sorted : bootBuiltins "sorted" = some (.builtin "sorted") := PyProof.Rows.boot_sorted
theorem ints_at {f : List (Int × Int)} {i : Nat} {k : Key} {v : V} (h : (intsD f)[i]? = some (k, v)) : ∃ p : Int × Int, f[i]? = some p ∧ k = Sum.inl p.1 ∧ v = .int p.2 := by
  rw [intsD, List.getElem?_map] at h
  cases e : f[i]? with
  | none => rw [e] at h; cases h
  | some p =>
    rw [e] at h
    have z := Option.some.inj h
    exact ⟨p, rfl, (congrArg Prod.fst z).symm, (congrArg Prod.snd z).symm⟩
theorem dget_ints {H : Hp} {a : Addr} {f : List (Int × Int)} {k : Int} (h : Rd H a (.dK (intsD f))) : DGet H a (.int k) ((Me.look f k).map V.int) := .inl ⟨intsD f, Sum.inl k, h, rfl, (valV_ints f k).symm⟩
theorem getD_int (o : Option Int) : (o.map V.int).getD (.int 0) = .int (o.getD 0) := by cases o <;> rfl
theorem dput_ints {H : Hp} {a : Addr} {f : List (Int × Int)} {k v : Int} (h : H a = some (.dK (intsD f))) (hl : f.length ≤ 100000) : DPut H a (.int k) (.int v) (upd H a (.dK (intsD (Me.put f k v)))) := by
  rw [← put_ints]
  exact DPut.k (k := Sum.inl k) h (szl (by rw [intsD, List.length_map]; lia))
inductive spOneMore (vs : List V) (H : Hp) (Q : VK) (E : XK) : Prop
  | mk : ∀ (a : Addr) (f : List (Int × Int)) (b : Nat) (w : Int) (m : Nat), (vs = [.ref a, .int b, .int w]) → (H a = some (.dK (intsD f))) → (Me.Ok f m) → (m ≤ 1000) → (b ≤ 16) → ((-9 ≤ w ∧ w ≤ 9)) → (∀ p H', H p = none → Same H H' → H' p = some (.dK (intsD (Me.oneMore f b w))) → Q (.ref p) H') → spOneMore vs H Q E
section
variable {P : Program} {w : World} {K : PySem.W.Frag} {mg : Str → Option Value} {base : Heap}
theorem scOneMore : FnScope ["ways", "base", "weight", "longer", "total", "figure", "reached"] ["ways", "base", "weight"] (defScope sOneMore) := ⟨rfl, rfl, rfl, by decide +kernel, rfl, by decide +kernel, by decide +kernel⟩
theorem ok_onemore {f : Addr} {fd : FuncData} (F : Fun K "with_one_more_figure" "with_one_more_figure" sOneMore f fd) (T : Txt mg) : FnOk P w K mg base CX0 1 f fd ["ways", "base", "weight"] spOneMore := by
  refine F.ok scOneMore (fun vs H Q E h => ?_) (fun cdv A outer s H vs Q E hr h => ?_)
  · obtain ⟨a, f, b, wt, m, rfl, _⟩ := h; rfl
  · obtain ⟨a, f, b, wt, m, rfl, ha, ok, hm, hb, hw, k⟩ := h
    have nd := scOneMore.nd
    have hu := hu_of hr
    refine ⟨_, pss_cons (ps_set (i := 3) nd rfl (Or.inl rfl) pe_dnewK)
      (pss_cons (ps_for PassesOwn.never rfl (pi_dict (pv 0)) (pg_name (i := 4) nd rfl (Or.inl rfl))
        (pss_one (ps_for PassesOwn.never rfl (pi_range1 (by rfl) T.range (pa_cons (pv 1) pa_nil)) (pg_name (i := 5) nd rfl (Or.inl rfl))
          (pss_cons (ps_set (i := 6) nd rfl (Or.inl rfl) (pe_op op_add (pv 4) (pe_op op_mul (pv 5) (pv 2))))
          (pss_one (ps_dput hu (pv 3) (pv 6) (pe_op op_add (pe_dget2 hu (pv 3) (pv 6) pe_int ⟨rfl, rfl, rfl, rfl⟩) (pe_dget hu (pv 0) (pv 4) (fun _ _ => rfl))) rfl))))))
      (pss_thaw (pss_one (ps_ret (pv 3))))), ?_⟩
    intro l hl
    have nal : a ≠ l := ne_of_none ha hl
    refine ⟨_, rfl, a, intsD f, rfl, (by rw [upd_ne nal]; exact ha), fun o => for_dict (fun i σ H2 => ∃ v4 v5 v6, σ = [some (.ref a), some (.int b), some (.int wt), some (.ref l), v4, v5, v6] ∧ H2 a = some (.frz o (.dK (intsD f))) ∧ Kp [a] H H2 ∧ H2 l = some (.dK (intsD (Me.oneMore (f.take i) b wt))))
      ⟨none, none, none, rfl, upd_same, kp_upd (kp_upd Kp.refl (.inr hl)) (.inl (by simp)), ?_⟩ (fun i σ H2 _ h => by obtain ⟨_, _, _, _, z, _⟩ := h; exact z) ?_ ?_⟩
    · rw [upd_ne nal.symm, upd_same]; rfl
    · rintro i kk v σ H2 hk ⟨v4, v5, v6, rfl, fa, kp, hl2⟩
      obtain ⟨p, hp, rfl, rfl⟩ := ints_at hk
      have pm := List.mem_of_getElem? hp
      have pb := ok.bd p.1 (List.mem_map.mpr ⟨p, pm, rfl⟩)
      have o0 := Me.oneMore_ok ok hw hb i
      refine ⟨_, rfl, _, rfl, by lia, by lia, for_range (n := (b : Int).toNat) (fun d σ H3 => ∃ v5 v6, σ = [some (.ref a), some (.int b), some (.int wt), some (.ref l), some (.int p.1), v5, v6] ∧ H3 a = some (.frz o (.dK (intsD f))) ∧ Kp [a] H H3 ∧ H3 l = some (.dK (intsD (Me.figs p wt d (Me.oneMore (f.take i) b wt)))))
        ⟨v5, v6, rfl, fa, kp, hl2⟩ ?_ ?_⟩
      · rintro d σ H3 hd ⟨v5, v6, rfl, fa3, kp3, hl3⟩
        have hd' : d < b := by lia
        have od := Me.figs_ok pb hw hb o0 d (by lia)
        have hlen := Me.Ok.len (m := m + 135) (by push_cast; exact od)
        refine ⟨_, rfl, _, rfl, _, rfl, _, _, rfl, rfl, .inr ⟨by lia, by lia⟩, _, _, rfl, rfl, ?_⟩
        refine ⟨_, rfl, l, rfl, .inl ⟨_, .inl hl3⟩, _, rfl, _, dget_ints (.inl hl3), _, rfl, _, rfl, a, .int p.2, rfl, ?_, _, _, getD_int _, rfl, _, rfl, _, rfl, l, _, rfl, dput_ints hl3 (by lia), ?_⟩
        · have z := dget_ints (k := p.1) (.inr ⟨o, fa3⟩)
          rw [Me.look_mem ok.nd pm] at z
          exact z
        · refine ⟨_, _, rfl, ?_, kp_upd kp3 (.inr hl), ?_⟩
          · rw [upd_ne nal]; exact fa3
          · rw [upd_same, Me.figs_succ]
            have e0 : (0 : Int) + (d : Int) = (d : Int) := Int.zero_add _
            rw [e0]
            rfl
      · rintro σ H3 ⟨v5, v6, rfl, fa3, kp3, hl3⟩
        refine ⟨_, _, _, rfl, fa3, kp3, ?_⟩
        have eb : (b : Int).toNat = b := by lia
        rw [eb] at hl3
        rw [Me.oneMore_take hp]
        exact hl3
    · rintro σ H2 ⟨v4, v5, v6, rfl, fa, kp, hl2⟩
      have el : (intsD f).length = f.length := by rw [intsD, List.length_map]
      rw [el, List.take_length] at hl2
      refine ⟨a, o, intsD f, fa, (fun o' u z => by
        have z' : H a = some (.frz o' u) := z
        rw [ha] at z'; cases z'), _, rfl, k l _ hl (fun x ob e => ?_) (by rw [upd_ne nal.symm]; exact hl2)⟩
      by_cases hx : x = a
      · rw [hx, upd_same, ← ha, ← hx]; exact e
      · rw [upd_ne hx]; exact kp x ob e (by simpa using hx)
end
end Hv
namespace Hv
open PySem L2
theorem pairs_keep {H H' : Hp} (s : Same H H') {ts : List Addr} {kvs : List (Key × V)} (h : PairsAt H ts kvs) : PairsAt H' ts kvs := Paired.mapP h fun _ _ e => s _ _ e
theorem pairs_snoc {H : Hp} {t : Addr} {p : Key × V} (h : H t = some (.tup [kV p.1, p.2])) {ts : List Addr} {kvs : List (Key × V)} (q : PairsAt H ts kvs) : PairsAt H (ts ++ [t]) (kvs ++ [p]) := by
  induction q with
  | nil => exact .cons h .nil
  | cons h0 _ ih => exact .cons h0 ih
inductive spWaysW (vs : List V) (H : Hp) (Q : VK) (E : XK) : Prop
  | mk : ∀ (b : Nat) (r : Addr) (ws : List Int), (vs = [.int b, .ref r]) → (H r = some (.lst (ws.map V.int))) → (b ≤ 16) → ((∀ x ∈ ws, -9 ≤ x ∧ x ≤ 9)) → (ws.length ≤ 6) → (∀ p H' g, H p = none → Same H H' → H' p = some (.dK (intsD g)) → g.Perm (Me.waysW b ws) → Q (.ref p) H') → spWaysW vs H Q E
theorem waysOk {b i : Nat} {ws : List Int} (hw : ∀ x ∈ ws, -9 ≤ x ∧ x ≤ 9) (hb : b ≤ 16) : Me.Ok (Me.waysW b (ws.take i)) ((135 * i : Nat) : Int) := by
  have h := Me.ways_ok hw hb i
  push_cast
  exact h
section
variable {P : Program} {w : World} {K : PySem.W.Frag} {mg : Str → Option Value} {base : Heap}
theorem scWaysW : FnScope ["base", "weights", "ways", "weight"] ["base", "weights"] (defScope sWaysW) := ⟨rfl, rfl, rfl, by decide +kernel, rfl, by decide +kernel, by decide +kernel⟩
theorem ok_waysw {f : Addr} {fd : FuncData} (F : Fun K "ways_of_weights" "ways_of_weights" sWaysW f fd) (T : Txt mg) (ndict : mg "dict" = none) (nsorted : mg "sorted" = none) (DO : Def P w K mg base 1 "with_one_more_figure" ["ways", "base", "weight"] spOneMore) :
    FnOk P w K mg base CX0 2 f fd ["base", "weights"] spWaysW := by
  refine F.ok scWaysW (fun vs H Q E h => ?_) (fun cdv A outer s H vs Q E hr h => ?_)
  · obtain ⟨b, r, ws, rfl, _⟩ := h; rfl
  · obtain ⟨b, r, ws, rfl, hrow, hb, hw, hlen, k⟩ := h
    have nd := scWaysW.nd
    have hu := hu_of hr
    refine ⟨_, pss_cons (ps_set (i := 2) nd rfl (Or.inr rfl) (pe_disp (pps_cons pe_int pe_int pps_nil) rfl rfl (by simp) (by decide)))
      (pss_cons (ps_for PassesOwn.never rfl (pi_list (pv 1)) (pg_name (i := 3) nd rfl (Or.inl rfl)) (pss_one (ps_set (i := 2) nd rfl (Or.inr rfl) (pe_fn DO hr (by rfl) (pa_cons (pv 2) (pa_cons (pv 0) (pa_cons (pv 3) pa_nil)))))))
      (pss_one (ps_ret (pe_callTy (call_dictP rfl) (by rfl) ndict boot_dict (pa_cons (pe_cmp1 (defScope sWaysW) ["base", "weights", "ways", "weight"] ["ways"] [2] rfl (pi_list (pe_callB (call_sortedD rfl) (by rfl) nsorted boot_sorted (pa_cons (pv 2) pa_nil)))
        (fun cl C s H fp => pf_nil) (fun cl C s H fp => pe_tup (pa_cons (pv 0) (pa_cons (pe_dget hu (pv 1) (pv 0) (fun _ _ => rfl)) pa_nil))) (by decide +kernel)) pa_nil))))), ?_⟩
    intro p0 hp0
    refine ⟨upd_same, [(Sum.inl 0, .int 1)], rfl, by decide, ?_⟩
    have s0 : Same H (upd (upd H p0 (.dK [])) p0 (.dK (mergeK [] [(Sum.inl 0, V.int 1)]))) := same_upd2 (same_upd hp0) hp0
    have u0 : (upd (upd H p0 (.dK [])) p0 (.dK (mergeK [] [(Sum.inl 0, V.int 1)]))) p0 = some (.dK (intsD [(0, 1)])) := upd_same
    generalize upd (upd H p0 (.dK [])) p0 (.dK (mergeK [] [(Sum.inl 0, V.int 1)])) = H0 at s0 u0 ⊢
    refine ⟨_, rfl, r, rfl, ⟨_, SqL.of (s0 _ _ hrow)⟩, for_list (K := K) (a := r) (xs := ws.map V.int) (fun i σ H2 => ∃ p v3, σ = [some (.int b), some (.ref r), some (.ref p), v3] ∧ Same H H2 ∧ H p = none ∧ H2 p = some (.dK (intsD (Me.waysW b (ws.take i)))))
      ⟨p0, none, rfl, s0, hp0, u0⟩ (fun i σ H2 _ h => by obtain ⟨_, _, _, s2, _⟩ := h; exact SqL.of (s2 _ _ hrow)) ?_ ?_⟩
    · rintro i x σ H2 hx ⟨p, v3, rfl, s2, np, hp⟩
      have hil : i < ws.length := by have := (List.getElem?_eq_some_iff.mp hx).1; simpa using this
      obtain ⟨y, hy, rfl⟩ : ∃ y : Int, ws[i]? = some y ∧ x = .int y := by
        rw [List.getElem?_map] at hx
        cases e : ws[i]? with
        | none => rw [e] at hx; cases hx
        | some d => rw [e] at hx; exact ⟨d, rfl, (Option.some.inj hx).symm⟩
      refine ⟨_, rfl, _, rfl, _, rfl, p, _, b, y, 135 * i, rfl, hp, waysOk hw hb, by lia, hb, hw y (List.mem_of_getElem? hy), fun p' H3 np' s3 hp3 => ⟨p', _, rfl, s2.trans s3, s2.free np', ?_⟩⟩
      rw [Me.waysW_take hy]
      exact hp3
    rintro σ H2 ⟨p, v3, rfl, s2, np, hp⟩
    have oW : Me.Ok (Me.waysW b ws) ((135 * ws.length : Nat) : Int) := by
      have := waysOk (i := ws.length) hw hb
      rwa [List.take_length] at this
    rw [List.length_map, List.take_length] at hp
    have hWl := oW.len
    generalize Me.waysW b ws = W at hp oW hWl k
    refine ⟨_, rfl, p, intsD W, Me.keys W, rfl, .inl hp, by simp [intsD, Me.keys], fun l ns' hl hperm => ?_⟩
    have s3 := same_upd (o := .lst (ns'.map V.int)) hl
    have u3 : (upd H2 l (.lst (ns'.map V.int))) l = some (.lst (ns'.map V.int)) := upd_same
    generalize upd H2 l (.lst (ns'.map V.int)) = H3 at s3 u3 ⊢
    have hp3 := s3 _ _ hp
    have hnl : ns'.length = W.length := by rw [hperm.length_eq]; simp [Me.keys]
    refine ⟨l, rfl, ⟨_, SqL.of u3⟩, comp_list (K := K) (a := l) (xs := ns'.map V.int) (fun i ys H' => ∃ ts, ys = ts.map V.ref ∧ ts.length = i ∧ Same H3 H' ∧ PairsAt H' ts (intsD ((ns'.take i).map fun n => (n, (Me.look W n).getD 0))))
      ⟨[], rfl, rfl, Same.refl _, .nil⟩ (fun i ys H' _ h => by obtain ⟨_, _, _, s', _⟩ := h; exact SqL.of (s' _ _ u3)) ?_ ?_⟩
    · rintro i x ys H' hx ⟨ts, rfl, htl, s', pa⟩
      have hil : i < ns'.length := by have := (List.getElem?_eq_some_iff.mp hx).1; simpa using this
      obtain ⟨n, hn, rfl⟩ : ∃ n : Int, ns'[i]? = some n ∧ x = .int n := by
        rw [List.getElem?_map] at hx
        cases e : ns'[i]? with
        | none => rw [e] at hx; cases hx
        | some d => rw [e] at hx; exact ⟨d, rfl, (Option.some.inj hx).symm⟩
      obtain ⟨q, hq, eq⟩ := List.mem_map.mp (hperm.mem_iff.mp (List.mem_of_getElem? hn))
      have hlk : Me.look W n = some q.2 := by rw [← eq]; exact Me.look_mem oW.nd hq
      refine ⟨szl (by rw [List.length_map]; lia), _, rfl, _, rfl, _, rfl, p, .int q.2, rfl, ?_, sz (by simp), fun t ht => ⟨ts ++ [t], by simp, by simp [htl], s'.trans (same_upd ht), ?_⟩⟩
      · have z := dget_ints (k := n) (.inl (s' _ _ hp3))
        rw [hlk] at z
        exact z
      · rw [List.take_add_one, hn]
        have e2 : intsD ((ns'.take i ++ (some n).toList).map fun n => (n, (Me.look W n).getD 0)) = intsD ((ns'.take i).map fun n => (n, (Me.look W n).getD 0)) ++ [(Sum.inl n, V.int q.2)] := by
          simp [intsD, hlk]
        rw [e2]
        exact pairs_snoc (p := (Sum.inl n, V.int q.2)) upd_same (pairs_keep (same_upd ht) pa)
    rintro ys H' ⟨ts, rfl, htl, s', pa⟩ l2 hl2
    rw [List.length_map, List.take_length] at pa
    have hg := Me.pairs_perm oW.nd hperm
    have gnd : (Me.keys (ns'.map fun n => (n, (Me.look W n).getD 0))).Nodup := (hg.map Prod.fst).nodup_iff.mpr oW.nd
    refine ⟨l2, ts, _, rfl, upd_same, pairs_keep (same_upd hl2) pa, fun q hq => ?_⟩
    have em : mergeK [] (intsD (ns'.map fun n => (n, (Me.look W n).getD 0))) = intsD (ns'.map fun n => (n, (Me.look W n).getD 0)) := by
      have z := merge_ints (ns'.map fun n => (n, (Me.look W n).getD 0)) []
      rw [Me.merge_new _ [] (by simpa using gnd)] at z
      exact z
    rw [em]
    have S := s2.trans (s3.trans (s'.trans (same_upd (o := .lst (ts.map V.ref)) hl2)))
    exact k q _ _ (S.free hq) (S.trans (same_upd hq)) upd_same hg
end
end Hv
namespace Hv
open PySem L2
noncomputable abbrev WaysAt (H : Hp) (b : Nat) (qs : List Addr) (rows : List (List Int)) : Prop := Paired (fun q row => ∃ g, H q = some (.dK (intsD g)) ∧ g.Perm (Me.waysW b row)) qs rows
theorem WaysAt.keep {H H' : Hp} {b : Nat} {qs : List Addr} {rows : List (List Int)} (s : Same H H') (h : WaysAt H b qs rows) : WaysAt H' b qs rows := L2.Paired.mapP h fun q row ⟨g, e, p⟩ => ⟨g, s _ _ e, p⟩
noncomputable abbrev WaysRd (H : Hp) (b : Nat) (qs : List Addr) (rows : List (List Int)) : Prop := Paired (fun q row => ∃ g, Rd H q (.dK (intsD g)) ∧ g.Perm (Me.waysW b row)) qs rows
inductive spWaysParts (vs : List V) (H : Hp) (Q : VK) (E : XK) : Prop
  | mk : ∀ f a c b ps ws, (vs = [.ref f]) → (FrAt H f a c b ps ws) → (∀ (p : Addr) (qs : List Addr) (H' : Hp), Same H H' → H p = none → H' p = some (.lst (qs.map V.ref)) → WaysAt H' b qs (Ma.cuts ps ws) → Q (.ref p) H') → spWaysParts vs H Q E
inductive spWaysWith (vs : List V) (H : Hp) (Q : VK) (E : XK) : Prop
  | mk : ∀ (p : Addr) (qs : List Addr) (b : Nat) (rows : List (List Int)) (t : Int), (vs = [.ref p, .int t]) → (H p = some (.lst (qs.map V.ref))) → (WaysRd H b qs rows) → (b ≤ 16) → ((∀ row ∈ rows, (∀ x ∈ row, -9 ≤ x ∧ x ≤ 9) ∧ row.length ≤ 6)) → (Q (.int (Me.prodW b rows t)) H) → spWaysWith vs H Q E
section
variable {P : Program} {w : World} {K : PySem.W.Frag} {mg : Str → Option Value} {base : Heap}
theorem scWaysParts : FnScope ["frame"] ["frame"] (defScope sWaysParts) := ⟨rfl, rfl, rfl, by decide +kernel, rfl, by decide +kernel, by decide +kernel⟩
theorem ok_waysparts {f : Addr} {fd : FuncData} (F : Fun K "ways_of_parts" "ways_of_parts" sWaysParts f fd) (T : Txt mg) (DC : Def P w K mg base 1 "cut_by_parts" ["frame", "row"] spCut) (DV : Def P w K mg base 2 "ways_of_weights" ["base", "weights"] spWaysW) :
    FnOk P w K mg base CX0 3 f fd ["frame"] spWaysParts := by
  refine F.ok scWaysParts (fun vs H Q E h => ?_) (fun cdv A outer s H vs Q E hr h => ?_)
  · obtain ⟨g, a, c, b, ps, ws, rfl, _⟩ := h; rfl
  · obtain ⟨g, a, c, b, ps, ws, rfl, G, k⟩ := h
    refine ⟨_, pss_one (ps_ret (pe_cmp1 (defScope sWaysParts) ["frame"] ["frame"] [0] rfl (pi_list (pe_fn DC (hr.mono (by decide)) (by rfl) (pa_cons (pv 0) (pa_cons (ixt (pv 0) pe_int) pa_nil))))
      (fun cl C s H fp => pf_nil) (fun cl C s H fp => pe_fn DV hr (by rfl) (pa_cons (ixtK K rfl (pv 1) pe_int) (pa_cons (pv 0) pa_nil))) (by decide +kernel))), ?_⟩
    refine ⟨_, rfl, _, rfl, _, _, _, _, rfl, rfl, SqT.of G.tp, rfl, g, a, c, b, ps, ws, c, ws, rfl, G, G.hw, fun p qs H2 s2 hp rows => ?_⟩
    have G2 := G.keep s2
    have hql : qs.length = ps.length := by
      have e : qs.length = (Ma.cuts ps ws).length := rows.length
      rw [e, Ma.cuts_len]
    have l4 := G.ok.l4
    refine ⟨p, rfl, ⟨_, SqL.of hp⟩, comp_list (K := K) (a := p) (xs := qs.map V.ref) (fun i ys H' => ∃ ts, ys = ts.map V.ref ∧ ts.length = i ∧ Same H2 H' ∧ WaysAt H' b ts ((Ma.cuts ps ws).take i))
      ⟨[], rfl, rfl, Same.refl _, .nil⟩ (fun i ys H' _ h => by obtain ⟨_, _, _, s', _⟩ := h; exact SqL.of (s' _ _ hp)) ?_ ?_⟩
    · rintro i x ys H' hx ⟨ts, rfl, htl, s', wa⟩
      have hil : i < qs.length := by have := (List.getElem?_eq_some_iff.mp hx).1; simpa using this
      obtain ⟨q, hq, rfl⟩ : ∃ q : Addr, qs[i]? = some q ∧ x = .ref q := by
        rw [List.getElem?_map] at hx
        cases e : qs[i]? with
        | none => rw [e] at hx; cases hx
        | some d => rw [e] at hx; exact ⟨d, rfl, (Option.some.inj hx).symm⟩
      obtain ⟨row, hj, hrow⟩ := rows_get rows hq
      refine ⟨szl (by rw [List.length_map]; lia), _, rfl, _, _, _, _, rfl, rfl, SqT.of (G2.keep s').tp, rfl, _, rfl, b, q, row, rfl, s' _ _ hrow, G.ok.b16, fun x hx => G.ok.wr x (Ma.cuts_mem (List.mem_of_getElem? hj) x hx), Ma.cuts_short (fun p hp => (G.ok.pr p hp).2) (List.mem_of_getElem? hj), fun p' H3 gg np s3 hp3 hg => ⟨ts ++ [p'], by simp, by simp [htl], s'.trans s3, ?_⟩⟩
      rw [List.take_add_one, hj]
      exact Paired.snoc (wa.keep s3) ⟨gg, hp3, hg⟩
    · rintro ys H' ⟨ts, rfl, htl, s', wa⟩ l hl
      have e : (qs.map V.ref).length = (Ma.cuts ps ws).length := by rw [List.length_map, Ma.cuts_len]; exact hql
      rw [e, List.take_length] at wa
      have sl := same_upd (o := .lst (ts.map V.ref)) hl
      exact k l ts _ (s2.trans (s'.trans sl)) (s2.free (s'.free hl)) upd_same (wa.keep sl)
theorem scWaysWith : FnScope ["ways_by_part", "total", "many", "ways"] ["ways_by_part", "total"] (defScope sWaysWith) := ⟨rfl, rfl, rfl, by decide +kernel, rfl, by decide +kernel, by decide +kernel⟩
theorem ok_wayswith {f : Addr} {fd : FuncData} (F : Fun K "ways_with" "ways_with" sWaysWith f fd) : FnOk P w K mg base CX0 1 f fd ["ways_by_part", "total"] spWaysWith := by
  refine F.ok scWaysWith (fun vs H Q E h => ?_) (fun cdv A outer s H vs Q E hr h => ?_)
  · obtain ⟨p, qs, b, rows, t, rfl, _⟩ := h; rfl
  · obtain ⟨p, qs, b, rows, t, rfl, hp, wa, hb, hrs, k⟩ := h
    have nd := scWaysWith.nd
    have hu := hu_of hr
    refine ⟨_, pss_cons (ps_set (i := 2) nd rfl (Or.inl rfl) pe_int)
      (pss_cons (ps_for PassesOwn.never rfl (pi_list (pv 0)) (pg_name (i := 3) nd rfl (Or.inl rfl))
        (pss_one (ps_set (i := 2) nd rfl (Or.inl rfl) (pe_op op_mul (pv 2) (pe_dget2 hu (pv 3) (pv 1) pe_int ⟨rfl, rfl, rfl, rfl⟩)))))
      (pss_one (ps_ret (pv 2)))), ?_⟩
    refine ⟨_, rfl, p, rfl, ⟨_, SqL.of hp⟩, for_list (K := K) (a := p) (xs := qs.map V.ref) (fun i σ H' => ∃ v3, σ = [some (.ref p), some (.int t), some (.int (Me.prodW b (rows.take i) t)), v3] ∧ H = H')
      ⟨none, rfl, rfl⟩ (fun i σ H' _ h => by obtain ⟨_, _, e⟩ := h; rw [← e]; exact SqL.of hp) ?_ ?_⟩
    · rintro i x σ H' hx ⟨v3, rfl, rfl⟩
      obtain ⟨q, hq, rfl⟩ : ∃ q : Addr, qs[i]? = some q ∧ x = .ref q := by
        rw [List.getElem?_map] at hx
        cases e : qs[i]? with
        | none => rw [e] at hx; cases hx
        | some d => rw [e] at hx; exact ⟨d, rfl, (Option.some.inj hx).symm⟩
      obtain ⟨row, hj, g, hg, perm⟩ := rows_get wa hq
      obtain ⟨hw, hl⟩ := hrs row (List.mem_of_getElem? hj)
      have wok := Me.ways_ok' (b := b) hw hb
      obtain ⟨v0, v1⟩ := Me.ways_val (b := b) hb hl t
      have elk := Me.look_perm perm wok.nd t
      have cm : CMul (Me.prodW b (rows.take i) t) ((Me.look g t).getD 0) := by rw [elk]; exact .inr ⟨by lia, by lia⟩
      refine ⟨_, rfl, _, rfl, q, rfl, .inl ⟨_, hg⟩, _, rfl, _, dget_ints hg, Me.prodW b (rows.take i) t, (Me.look g t).getD 0, rfl, getD_int _, cm, some (.ref q), ?_, rfl⟩
      rw [Me.prodW_take hj, ← elk]
      rfl
    · rintro σ H' ⟨v3, rfl, rfl⟩
      have e : (qs.map V.ref).length = rows.length := by rw [List.length_map]; exact wa.length
      rw [e, List.take_length]
      exact ⟨_, rfl, k⟩
end
end Hv
namespace Hv
open PySem L2
inductive spEvenBy (vs : List V) (H : Hp) (Q : VK) (E : XK) : Prop
  | mk : ∀ f a c b ps ws, (vs = [.ref f]) → (FrAt H f a c b ps ws) → (∀ (p : Addr) (g : List (Int × Int)) (H' : Hp), H p = none → Same H H' → H' p = some (.dK (intsD g)) → (∃ row, (Ma.cuts ps ws)[0]? = some row ∧ g.Perm (Me.evenL b (Ma.cuts ps ws) (Me.keys (Me.waysW b row)))) → Q (.ref p) H') → spEvenBy vs H Q E
inductive spCountWith (vs : List V) (H : Hp) (Q : VK) (E : XK) : Prop
  | mk : ∀ f a c b ps ws, ∀ t : Int, (vs = [.ref f, .int t]) → (FrAt H f a c b ps ws) → (∀ H', Same H H' → Q (.int (Me.prodW b (Ma.cuts ps ws) t)) H') → spCountWith vs H Q E
theorem rows_ok {H : Hp} {f a c : Addr} {b : Nat} {ps : List Nat} {ws : List Int} (G : FrAt H f a c b ps ws) : ∀ row ∈ Ma.cuts ps ws, (∀ x ∈ row, -9 ≤ x ∧ x ≤ 9) ∧ row.length ≤ 6 :=
  fun row hr => ⟨fun x hx => G.ok.wr x (Ma.cuts_mem hr x hx), Ma.cuts_short (fun p hp => (G.ok.pr p hp).2) hr⟩
theorem WaysAt.rd {H : Hp} {b : Nat} {qs : List Addr} {rows : List (List Int)} (h : WaysAt H b qs rows) : WaysRd H b qs rows := L2.Paired.mapP h fun q row ⟨g, e, p⟩ => ⟨g, .inl e, p⟩
section
variable {P : Program} {w : World} {K : PySem.W.Frag} {mg : Str → Option Value} {base : Heap}
theorem scCountWith : FnScope ["frame", "s"] ["frame", "s"] (defScope sCountWith) := ⟨rfl, rfl, rfl, by decide +kernel, rfl, by decide +kernel, by decide +kernel⟩
theorem ok_countwith {f : Addr} {fd : FuncData} (F : Fun K "count_even_with" "count_even_with" sCountWith f fd) (D5 : Def P w K mg base 5 "need_frame" ["thing"] spNeedFrame) (D1 : Def P w K mg base 1 "is_whole" ["thing"] spWhole)
    (DP : Def P w K mg base 3 "ways_of_parts" ["frame"] spWaysParts) (DW : Def P w K mg base 1 "ways_with" ["ways_by_part", "total"] spWaysWith) : FnOk P w K mg base CX0 6 f fd ["frame", "s"] spCountWith := by
  refine F.ok scCountWith (fun vs H Q E h => ?_) (fun cdv A outer s H vs Q E hr h => ?_)
  · obtain ⟨g, a, c, b, ps, ws, t, rfl, _⟩ := h; rfl
  · obtain ⟨g, a, c, b, ps, ws, t, rfl, G, k⟩ := h
    refine ⟨_, pss_cons (ps_expr (pe_fn D5 hr (by rfl) (pa_cons (pv 0) pa_nil)))
      (pss_cons (ps_if (pt_not (pt_val (pe_fn D1 (hr.mono (by decide)) (by rfl) (pa_cons (pv 1) pa_nil)))) pss_never pss_nil)
      (pss_one (ps_ret (pe_fn DW (hr.mono (by decide)) (by rfl) (pa_cons (pe_fn DP (hr.mono (by decide)) (by rfl) (pa_cons (pv 0) pa_nil)) (pa_cons (pv 1) pa_nil)))))), ?_⟩
    refine ⟨_, rfl, g, a, c, b, ps, ws, rfl, G, fun H1 s1 => ?_⟩
    have G1 := G.keep s1
    refine ⟨_, rfl, .int t, rfl, .int _, _, rfl, iteF ?_⟩
    refine ⟨_, rfl, g, a, c, b, ps, ws, rfl, G1, fun p qs H2 s2 hp hp2 wa => ⟨_, rfl, p, qs, b, Ma.cuts ps ws, t, rfl, hp2, wa.rd, G.ok.b16, rows_ok G, k H2 (s1.trans s2)⟩⟩
theorem scEvenBy : FnScope ["frame", "ways_by_part", "even", "total", "many"] ["frame"] (defScope sEvenBy) := ⟨rfl, rfl, rfl, by decide +kernel, rfl, by decide +kernel, by decide +kernel⟩
theorem ok_evenby {f : Addr} {fd : FuncData} (F : Fun K "even_by_sums" "even_by_sums" sEvenBy f fd) (D5 : Def P w K mg base 5 "need_frame" ["thing"] spNeedFrame) (DP : Def P w K mg base 3 "ways_of_parts" ["frame"] spWaysParts)
    (DW : Def P w K mg base 1 "ways_with" ["ways_by_part", "total"] spWaysWith) : FnOk P w K mg base CX0 6 f fd ["frame"] spEvenBy := by
  refine F.ok scEvenBy (fun vs H Q E h => ?_) (fun cdv A outer s H vs Q E hr h => ?_)
  · obtain ⟨g, a, c, b, ps, ws, rfl, _⟩ := h; rfl
  · obtain ⟨g, a, c, b, ps, ws, rfl, G, k⟩ := h
    have nd := scEvenBy.nd
    have hu := hu_of hr
    refine ⟨_, pss_cons (ps_expr (pe_fn D5 hr (by rfl) (pa_cons (pv 0) pa_nil)))
      (pss_cons (ps_set (i := 1) nd rfl (Or.inl rfl) (pe_fn DP (hr.mono (by decide)) (by rfl) (pa_cons (pv 0) pa_nil)))
      (pss_cons (ps_set (i := 2) nd rfl (Or.inl rfl) pe_dnewK)
      (pss_cons (ps_for PassesOwn.never rfl (pi_dict (ixl (pv 1) pe_int)) (pg_name (i := 3) nd rfl (Or.inl rfl))
        (pss_cons (ps_set (i := 4) nd rfl (Or.inl rfl) (pe_fn DW (hr.mono (by decide)) (by rfl) (pa_cons (pv 1) (pa_cons (pv 3) pa_nil))))
        (pss_one (ps_if (pt_cmpR op_gt (pv 4) pe_int (nomark _)) (pss_one (ps_dput hu (pv 2) (pv 3) (pv 4) rfl)) pss_nil))))
      (pss_thaw (pss_one (ps_ret (pv 2))))))), ?_⟩
    refine ⟨_, rfl, g, a, c, b, ps, ws, rfl, G, fun H1 s1 => ?_⟩
    have G1 := G.keep s1
    refine ⟨_, rfl, g, a, c, b, ps, ws, rfl, G1, fun p qs H2 s2 hp hp2 wa => ?_⟩
    intro l hl
    -- the first part's
    obtain ⟨row, hrow⟩ : ∃ row, (Ma.cuts ps ws)[0]? = some row := ⟨(Ma.cuts ps ws)[0]'(by rw [Ma.cuts_len]; have := G.ok.l2; lia), by simp⟩
    obtain ⟨q, hq⟩ : ∃ q, qs[0]? = some q := ⟨qs[0]'(by have e : qs.length = (Ma.cuts ps ws).length := wa.length; rw [e, Ma.cuts_len]; have := G.ok.l2; lia), by simp⟩
    obtain ⟨row', hrow', g0, hg0, perm⟩ := rows_get wa hq
    have er : row' = row := by rw [hrow] at hrow'; exact (Option.some.inj hrow').symm
    subst er
    obtain ⟨hw0, hl0⟩ := rows_ok G row' (List.mem_of_getElem? hrow)
    have wok := Me.ways_ok' (b := b) hw0 G.ok.b16
    have wln := Me.Ok.len (m := 135 * row'.length) (by push_cast at wok ⊢; exact wok)
    have nd0 : (Me.keys g0).Nodup := (perm.map _).nodup_iff.mpr wok.nd
    have hgl : g0.length ≤ 2000 := by rw [perm.length_eq]; lia
    have s3 : Same H2 (upd H2 l (.dK [])) := same_upd hl
    have hql : q ≠ l := ne_of_none hg0 hl
    have hpl : p ≠ l := ne_of_none hp2 hl
    have hqp : q ≠ p := ne_of hg0 hp2 (by intro z; cases z)
    have l3 : (upd H2 l (.dK [])) l = some (.dK (intsD [])) := upd_same
    generalize upd H2 l (.dK []) = H3 at s3 l3 ⊢
    have q3 := s3 _ _ hg0
    have p3 := s3 _ _ hp2
    have at0 : atI (qs.map V.ref) 0 = some (.ref q) := atI_nat (j := 0) (by rw [List.getElem?_map, hq]; rfl)
    refine ⟨_, rfl, p, _, 0, .ref q, rfl, rfl, SqL.of p3, at0, q, intsD g0, rfl, q3, fun o => for_dict (fun i σ H' => ∃ v3 v4, σ = [some (.ref g), some (.ref p), some (.ref l), v3, v4] ∧ H' q = some (.frz o (.dK (intsD g0))) ∧ (∀ x ob, x ≠ q → x ≠ l → H3 x = some ob → H' x = some ob) ∧ H' l = some (.dK (intsD (Me.evenL b (Ma.cuts ps ws) ((Me.keys g0).take i)))))
      ⟨none, none, rfl, upd_same, fun x ob hx _ e => by rw [upd_ne hx]; exact e, by rw [upd_ne hql.symm, l3]; rfl⟩ (fun i σ H' _ h => by obtain ⟨_, _, _, z, _⟩ := h; exact z) ?_ ?_⟩
    · rintro i kk v σ H' hk ⟨v3, v4, rfl, fq, kp, hl'⟩
      obtain ⟨pr, hpr, rfl, rfl⟩ := ints_at hk
      have hki : (Me.keys g0)[i]? = some pr.1 := by rw [Me.keys, List.getElem?_map, hpr]; rfl
      have p' := kp p _ hqp.symm hpl p3
      have wr : WaysRd H' b qs (Ma.cuts ps ws) := L2.Paired.mapP wa fun q1 row1 ⟨g1, e1, pm1⟩ => by
        by_cases e : q1 = q
        · subst e
          have eg : intsD g1 = intsD g0 := by rw [e1] at hg0; injection hg0 with hg0; injection hg0
          exact ⟨g1, .inr ⟨o, by rw [eg]; exact fq⟩, pm1⟩
        · exact ⟨g1, .inl (kp q1 _ e (ne_of_none e1 hl) (s3 _ _ e1)), pm1⟩
      have hlen := Me.even_len b (Ma.cuts ps ws) ((Me.keys g0).take i)
      have hlen2 : ((Me.keys g0).take i).length ≤ 2000 := by
        rw [List.length_take, Me.keys, List.length_map]; lia
      refine ⟨_, rfl, _, rfl, p, qs, b, Ma.cuts ps ws, pr.1, rfl, p', wr, G.ok.b16, rows_ok G, ?_⟩
      refine ⟨_, rfl, _, _, rfl, rfl, _, rfl, ite2 (fun h => ?_) (fun h => ?_)⟩
      · have h' : 0 < Me.prodW b (Ma.cuts ps ws) pr.1 := of_decide_eq_true h
        refine ⟨_, rfl, _, rfl, _, rfl, l, _, rfl, dput_ints hl' (by lia), _, _, rfl, ?_, fun x ob h1 h2 e => ?_, ?_⟩
        · rw [upd_ne hql]; exact fq
        · rw [upd_ne h2]; exact kp x ob h1 h2 e
        · rw [upd_same, Me.even_yes nd0 hki h']
      · have h' : ¬ 0 < Me.prodW b (Ma.cuts ps ws) pr.1 := fun z => h (decide_eq_true z)
        refine ⟨_, _, rfl, fq, kp, ?_⟩
        rw [Me.even_no hki h']
        exact hl'
    · rintro σ H' ⟨v3, v4, rfl, fq, kp, hl'⟩
      have el : (intsD g0).length = (Me.keys g0).length := by rw [intsD, Me.keys, List.length_map, List.length_map]
      rw [el, List.take_length] at hl'
      have S3 := s1.trans (s2.trans s3)
      have lH : H l = none := s1.free (s2.free hl)
      refine ⟨q, o, intsD g0, fq, (fun o' u z => ?_), _, rfl, k l _ _ lH (fun x ob e => ?_) (by rw [upd_ne hql.symm]; exact hl') ⟨row', hrow, Me.even_perm (perm.map _)⟩⟩
      · have z' : H q = some (.frz o' u) := z
        have := S3 _ _ z'
        rw [q3] at this; cases this
      · by_cases hx : x = q
        · have := S3 _ _ e
          rw [hx] at this
          rw [hx, upd_same, ← this, q3]
        · rw [upd_ne hx]; exact kp x ob hx (ne_of_none e lH) (S3 _ _ e)
end
end Hv
namespace Hv
open PySem L2
noncomputable def runs (f : Int → Int) (lo : Int) (n : Nat) : List V := (List.range (n + 1)).map fun k => V.int (Mq.sm f lo k)
theorem runs_len (f : Int → Int) (lo : Int) (n : Nat) : (runs f lo n).length = n + 1 := by simp [runs]
theorem runs_succ (f : Int → Int) (lo : Int) (n : Nat) : runs f lo (n + 1) = runs f lo n ++ [.int (Mq.sm f lo (n + 1))] := by
  unfold runs
  rw [List.range_succ (n := n + 1), List.map_append]
  rfl
theorem runs_at {f : Int → Int} {lo : Int} {n k : Nat} (h : k ≤ n) : (runs f lo n)[k]? = some (.int (Mq.sm f lo k)) := by
  unfold runs
  rw [List.getElem?_map, List.getElem?_range (by lia)]
  rfl
theorem runs_last (f : Int → Int) (lo : Int) : ∀ n : Nat, atI (runs f lo n) (-1) = some (.int (Mq.sm f lo n))
  | 0 => atI_last [] (V.int (Mq.sm f lo 0))
  | n + 1 => by rw [runs_succ]; exact atI_last _ _
inductive spRunning (vs : List V) (H : Hp) (Q : VK) (E : XK) : Prop
  | mk : ∀ (q : Addr) (g : List (Int × Int)) (lo hi : Int), (vs = [.ref q, .int lo, .int hi]) → (H q = some (.dK (intsD g))) → (-5000 ≤ lo) → (lo ≤ 5000) → (-5000 ≤ hi) → (hi ≤ 5000) → (∀ r H', H r = none → Same H H' → H' r = some (.lst (runs (Me.gv g) lo (hi + 1 - lo).toNat)) → Q (.ref r) H') → spRunning vs H Q E
noncomputable abbrev RunsAt (H : Hp) (b : Nat) (lo : Int) (n : Nat) (rs : List Addr) (rows : List (List Int)) : Prop := Paired (fun r row => H r = some (.lst (runs (Me.fw b row) lo n))) rs rows
theorem RunsAt.keep {H H' : Hp} {b : Nat} {lo : Int} {n : Nat} {rs : List Addr} {rows : List (List Int)} (s : Same H H') (h : RunsAt H b lo n rs rows) : RunsAt H' b lo n rs rows := L2.Paired.mapP h fun q row e => s _ _ e
inductive spWithin (vs : List V) (H : Hp) (Q : VK) (E : XK) : Prop
  | mk : ∀ (p : Addr) (rs : List Addr) (b : Nat) (rows : List (List Int)) (lo : Int) (n s e : Nat), (vs = [.ref p, .int s, .int e]) → (H p = some (.lst (rs.map V.ref))) → (RunsAt H b lo n rs rows) → (b ≤ 16) → ((∀ row ∈ rows, row.length ≤ 6)) → (n ≤ 20000) → (s ≤ e) → (e ≤ n) → (Q (.int (Mq.pr (Me.fws b rows) (lo + s) (e - s))) H) → spWithin vs H Q E
section
variable {P : Program} {w : World} {K : PySem.W.Frag} {mg : Str → Option Value} {base : Heap}
theorem scRunning : FnScope ["ways", "low", "high", "counts", "total"] ["ways", "low", "high"] (defScope sRunning) := ⟨rfl, rfl, rfl, by decide +kernel, rfl, by decide +kernel, by decide +kernel⟩
theorem ok_running {f : Addr} {fd : FuncData} (F : Fun K "running_counts" "running_counts" sRunning f fd) (T : Txt mg) : FnOk P w K mg base CX0 1 f fd ["ways", "low", "high"] spRunning := by
  refine F.ok scRunning (fun vs H Q E h => ?_) (fun cdv A outer s H vs Q E hr h => ?_)
  · obtain ⟨q, g, lo, hi, rfl, _⟩ := h; rfl
  · obtain ⟨q, g, lo, hi, rfl, hq, a1, a2, a3, a4, k⟩ := h
    have nd := scRunning.nd
    have hu := hu_of hr
    refine ⟨_, pss_cons (ps_set (i := 3) nd rfl (Or.inl rfl) (pe_lst (pa_cons pe_int pa_nil)))
      (pss_cons (ps_for PassesOwn.never rfl (pi_range2 (by rfl) T.range (pa_cons (pv 1) (pa_cons (pe_op op_add (pv 2) pe_int) pa_nil))) (pg_name (i := 4) nd rfl (Or.inl rfl))
        (pss_one (ps_expr (pe_bm PySem.F.plainAttrs_list PySem.F.slot_list_append PySem.F.type_list_append mt_append (pv 3) (pa_cons (pe_op op_add (ixl (pv 3) (pe_un un_neg pe_int)) (pe_dget2 hu (pv 0) (pv 4) pe_int ⟨rfl, rfl, rfl, rfl⟩)) pa_nil)))))
      (pss_one (ps_ret (pv 3)))), ?_⟩
    refine ⟨sz (by simp), fun r hr' => ?_⟩
    have s0 := same_upd (o := .lst [.int 0]) hr'
    refine ⟨_, rfl, _, rfl, _, _, rfl, rfl, _, _, rfl, ⟨by lia, by lia, by lia, by lia⟩, ?_⟩
    refine for_range (n := (hi + 1 - lo).toNat) (fun i σ H2 => ∃ v4, σ = [some (.ref q), some (.int lo), some (.int hi), some (.ref r), v4] ∧ Same H H2 ∧ H2 r = some (.lst (runs (Me.gv g) lo i))) ⟨none, rfl, s0, upd_same⟩ ?_ ?_
    · rintro i σ H2 hi' ⟨v4, rfl, s2, h2⟩
      refine ⟨_, rfl, .inl ⟨rfl, _, SqL.of h2⟩, _, rfl, 1, rfl, ?_⟩
      have e1 := runs_last (Me.gv g) lo i
      refine r_ixl h2 e1 ⟨_, rfl, q, rfl, .inl ⟨_, .inl (s2 _ _ hq)⟩, _, rfl, _, dget_ints (.inl (s2 _ _ hq)), _, _, rfl, getD_int _, ⟨r, _, _, rfl, rfl, h2, szl (by rw [runs_len]; lia), _, rfl, same_upd2 s2 hr', ?_⟩⟩
      rw [upd_same, runs_succ]
      rfl
    · rintro σ H2 ⟨v4, rfl, s2, h2⟩
      exact ⟨_, rfl, k r H2 hr' s2 h2⟩
theorem ref_at {qs : List Addr} {i : Nat} {x : V} (hx : (qs.map V.ref)[i]? = some x) : ∃ q : Addr, qs[i]? = some q ∧ x = .ref q := by
  rw [List.getElem?_map] at hx
  cases e : qs[i]? with
  | none => rw [e] at hx; cases hx
  | some d => rw [e] at hx; exact ⟨d, rfl, (Option.some.inj hx).symm⟩
theorem maxL_perm {l m : List Int} (h : l.Perm m) (hl : 0 < l.length) : Ma.maxL l = Ma.maxL m := by
  obtain ⟨a, b⟩ := Ma.maxL_spec l hl
  exact Ma.maxL_uniq (h.mem_iff.mp a) fun n hn => b n (h.mem_iff.mpr hn)
theorem minL_perm {l m : List Int} (h : l.Perm m) (hl : 0 < l.length) : Ma.minL l = Ma.minL m := by
  obtain ⟨a, b⟩ := Ma.minL_spec l hl
  exact Ma.minL_uniq (h.mem_iff.mp a) fun n hn => b n (h.mem_iff.mpr hn)
theorem fw_val {b : Nat} {row : List Int} (hb : b ≤ 16) (hl : row.length ≤ 6) (t : Int) : 0 ≤ Me.fw b row t ∧ Me.fw b row t ≤ 16777216 := Me.ways_val hb hl t
theorem sm_diff (f : Int → Int) (lo : Int) {s e : Nat} (h : s ≤ e) : Mq.sm f lo e - Mq.sm f lo s = Mq.sm f (lo + s) (e - s) := by
  obtain ⟨k, rfl⟩ := Nat.exists_eq_add_of_le h
  rw [Mq.sm_add, Nat.add_sub_cancel_left]
  lia
theorem fws_take {b : Nat} {rows : List (List Int)} {i : Nat} {row : List Int} (h : rows[i]? = some row) (a : Int) (n : Nat) : Mq.pr (Me.fws b (rows.take (i + 1))) a n = Mq.pr (Me.fws b (rows.take i)) a n * Mq.sm (Me.fw b row) a n := by
  unfold Mq.pr Me.fws
  rw [List.take_add_one, h]
  simp
theorem scWithin : FnScope ["running_by_part", "start", "end", "many", "running"] ["running_by_part", "start", "end"] (defScope sWithin) := ⟨rfl, rfl, rfl, by decide +kernel, rfl, by decide +kernel, by decide +kernel⟩
theorem ok_within {f : Addr} {fd : FuncData} (F : Fun K "ways_within" "ways_within" sWithin f fd) : FnOk P w K mg base CX0 1 f fd ["running_by_part", "start", "end"] spWithin := by
  refine F.ok scWithin (fun vs H Q E h => ?_) (fun cdv A outer s H vs Q E hr h => ?_)
  · obtain ⟨p, rs, b, rows, lo, n, s, e, rfl, _⟩ := h; rfl
  · obtain ⟨p, rs, b, rows, lo, n, st, e, rfl, hp, ra, hb, hrs, hn, hse, hen, k⟩ := h
    have nd := scWithin.nd
    refine ⟨_, pss_cons (ps_set (i := 3) nd rfl (Or.inl rfl) pe_int)
      (pss_cons (ps_for PassesOwn.never rfl (pi_list (pv 0)) (pg_name (i := 4) nd rfl (Or.inl rfl))
        (pss_one (ps_set (i := 3) nd rfl (Or.inl rfl) (pe_op op_mul (pv 3) (pe_op op_sub (ixl (pv 4) (pv 2)) (ixl (pv 4) (pv 1)))))))
      (pss_one (ps_ret (pv 3)))), ?_⟩
    refine ⟨_, rfl, p, rfl, ⟨_, SqL.of hp⟩, for_list (K := K) (a := p) (xs := rs.map V.ref) (fun i σ H' => ∃ v4, σ = [some (.ref p), some (.int st), some (.int e), some (.int (Mq.pr (Me.fws b (rows.take i)) (lo + st) (e - st))), v4] ∧ H = H')
      ⟨none, rfl, rfl⟩ (fun i σ H' _ h => by obtain ⟨_, _, e⟩ := h; rw [← e]; exact SqL.of hp) ?_ ?_⟩
    · rintro i x σ H' hx ⟨v4, rfl, rfl⟩
      obtain ⟨q, hq, rfl⟩ : ∃ q : Addr, rs[i]? = some q ∧ x = .ref q := by
        rw [List.getElem?_map] at hx
        cases e : rs[i]? with
        | none => rw [e] at hx; cases hx
        | some d => rw [e] at hx; exact ⟨d, rfl, (Option.some.inj hx).symm⟩
      obtain ⟨row, hj, hrow⟩ := rows_get ra hq
      have hl := hrs row (List.mem_of_getElem? hj)
      have bd := Me.sm_bd (fw_val (b := b) (row := row) hb hl) (lo + st) (e - st)
      refine ⟨_, rfl, _, rfl, _, rfl, r_ixl hrow (atI_nat (runs_at (by lia))) ⟨_, rfl, _, rfl, r_ixl hrow (atI_nat (runs_at (by lia))) ⟨_, _, rfl, rfl, ?_⟩⟩⟩
      dsimp only
      rw [sm_diff _ _ hse]
      refine ⟨_, _, rfl, rfl, .inr ⟨by lia, by lia⟩, some (.ref q), ?_, rfl⟩
      rw [fws_take hj]
      rfl
    · rintro σ H' ⟨v4, rfl, rfl⟩
      have el : (rs.map V.ref).length = rows.length := by rw [List.length_map]; exact ra.length
      rw [el, List.take_length]
      exact ⟨_, rfl, k⟩
inductive spSpread (vs : List V) (H : Hp) (Q : VK) (E : XK) : Prop
  | mk : ∀ (p : Addr) (qs : List Addr) (b : Nat) (rows : List (List Int)) (d : Nat), (vs = [.ref p, .int d]) → (H p = some (.lst (qs.map V.ref))) → (WaysAt H b qs rows) → (1 ≤ b) → (b ≤ 16) → (0 < rows.length) → (rows.length ≤ 4) → ((∀ row ∈ rows, (∀ x ∈ row, -9 ≤ x ∧ x ≤ 9) ∧ row.length ≤ 6)) → (∀ H', Same H H' → Q (.int (Me.nearV b rows d)) H') → spSpread vs H Q E
theorem scSpread : FnScope ["ways_by_part", "width", "leasts", "greatests", "reach", "first", "last", "running_by_part", "count", "start", "end"] ["ways_by_part", "width"] (defScope sSpreadW) := ⟨rfl, rfl, rfl, by decide +kernel, rfl, by decide +kernel, by decide +kernel⟩
theorem ok_spread {f : Addr} {fd : FuncData} (F : Fun K "count_spread_within" "count_spread_within" sSpreadW f fd) (T : Txt mg) (DR : Def P w K mg base 1 "running_counts" ["ways", "low", "high"] spRunning) (DW : Def P w K mg base 1 "ways_within" ["running_by_part", "start", "end"] spWithin) :
    FnOk P w K mg base CX0 2 f fd ["ways_by_part", "width"] spSpread := by
  refine F.ok scSpread (fun vs H Q E h => ?_) (fun cdv A outer s H vs Q E hr h => ?_)
  · obtain ⟨p, qs, b, rows, d, rfl, _⟩ := h; rfl
  · obtain ⟨p, qs, b, rows, d, rfl, hp, wa, hb1, hb, hne, h4, hrs, k⟩ := h
    have nd := scSpread.nd
    refine ⟨_, pss_cons (ps_cmp1 (defScope sSpreadW) ["ways_by_part", "width", "leasts", "greatests", "reach", "first", "last", "running_by_part", "count", "start", "end"] [] [] (i := 2) nd rfl (Or.inl rfl) rfl (pi_list (pv 0)) (fun cl C s H fp => pf_nil) (fun cl C s H fp => pe_callB (call_minD rfl) (by rfl) T.min boot_min (pa_cons (pv 0) pa_nil)) (by decide +kernel) (by rfl))
      (pss_cons (ps_cmp1 (defScope sSpreadW) ["ways_by_part", "width", "leasts", "greatests", "reach", "first", "last", "running_by_part", "count", "start", "end"] [] [] (i := 3) nd rfl (Or.inl rfl) rfl (pi_list (pv 0)) (fun cl C s H fp => pf_nil) (fun cl C s H fp => pe_callB (call_maxD rfl) (by rfl) T.max boot_max (pa_cons (pv 0) pa_nil)) (by decide +kernel) (by rfl))
      (pss_cons (ps_set (i := 4) nd rfl (Or.inr rfl) (pe_callB (call_min2 rfl) (by rfl) T.min boot_min (pa_cons (pv 1) (pa_cons (pe_op op_sub (pe_callB (call_maxL rfl) (by rfl) T.max boot_max (pa_cons (pv 3) pa_nil)) (pe_callB (call_minL rfl) (by rfl) T.min boot_min (pa_cons (pv 2) pa_nil))) pa_nil))))
      (pss_cons (ps_set (i := 5) nd rfl (Or.inr rfl) (pe_callB (call_max2 rfl) (by rfl) T.max boot_max (pa_cons (pe_callB (call_minL rfl) (by rfl) T.min boot_min (pa_cons (pv 2) pa_nil)) (pa_cons (pe_op op_sub (pe_callB (call_maxL rfl) (by rfl) T.max boot_max (pa_cons (pv 2) pa_nil)) (pv 4)) pa_nil))))
      (pss_cons (ps_set (i := 6) nd rfl (Or.inr rfl) (pe_callB (call_minL rfl) (by rfl) T.min boot_min (pa_cons (pv 3) pa_nil)))
      (pss_cons (ps_cmp1 (defScope sSpreadW) ["ways_by_part", "width", "leasts", "greatests", "reach", "first", "last", "running_by_part", "count", "start", "end"] ["first", "last", "reach"] [5, 6, 4] (i := 7) nd rfl (Or.inl rfl) rfl (pi_list (pv 0)) (fun cl C s H fp => pf_nil) (fun cl C s H fp => pe_fn DR hr (by rfl) (pa_cons (pv 0) (pa_cons (pv 1) (pa_cons (pe_op op_add (pv 2) (pv 3)) pa_nil)))) (by decide +kernel) (by rfl))
      (pss_cons (ps_set (i := 8) nd rfl (Or.inl rfl) pe_int)
      (pss_cons (ps_for PassesOwn.never rfl (pi_range1 (by rfl) T.range (pa_cons (pe_op op_add (pe_op op_sub (pv 6) (pv 5)) pe_int) pa_nil)) (pg_name (i := 9) nd rfl (Or.inl rfl))
        (pss_cons (ps_set (i := 10) nd rfl (Or.inl rfl) (pe_op op_add (pe_op op_add (pv 9) (pv 4)) pe_int))
        (pss_one (ps_aug (i := 8) nd rfl (Or.inl rfl) (pe_op op_sub (pe_fn DW hr (by rfl) (pa_cons (pv 7) (pa_cons (pv 9) (pa_cons (pv 10) pa_nil)))) (pe_fn DW hr (by rfl) (pa_cons (pv 7) (pa_cons (pe_op op_add (pv 9) pe_int) (pa_cons (pv 10) pa_nil))))) ip_add))))
      (pss_one (ps_ret (pv 8)))))))))), ?_⟩
    have hql : qs.length = rows.length := wa.length
    -- the least sums
    refine ⟨_, rfl, p, rfl, ⟨_, SqL.of hp⟩, comp_list (K := K) (a := p) (xs := qs.map V.ref) (fun i ys H2 => ys = (Me.los b (rows.take i)).map V.int ∧ H = H2) ⟨rfl, rfl⟩ (fun i ys H2 _ h => by rw [← h.2]; exact SqL.of hp) ?_ ?_⟩
    · rintro i x ys H2 hx ⟨rfl, rfl⟩
      obtain ⟨q, hq, rfl⟩ := ref_at hx
      have hil : i < qs.length := (List.getElem?_eq_some_iff.mp hq).1
      obtain ⟨row, hj, g, hg, perm⟩ := rows_get wa hq
      have kl : 0 < (Me.keys g).length := by rw [(perm.map _).length_eq]; exact Me.keys_ne hb1 row
      refine ⟨szl (by simp [Me.los]; lia), _, rfl, q, intsD g, Me.keys g, rfl, .inl hg, by simp [intsD, Me.keys], kl, ?_, rfl⟩
      rw [minL_perm (perm.map _) kl, List.take_add_one, hj]
      simp [Me.los, Me.loW]
    rintro ys H2 ⟨rfl, rfl⟩ l1 h1
    rw [List.length_map, hql, List.take_length]
    have s1 := same_upd (o := .lst ((Me.los b rows).map V.int)) h1
    have u1 : upd H l1 (.lst ((Me.los b rows).map V.int)) l1 = some (.lst ((Me.los b rows).map V.int)) := upd_same
    generalize upd H l1 (.lst ((Me.los b rows).map V.int)) = H1 at s1 u1 ⊢
    have hp1 := s1 _ _ hp
    have wa1 := wa.keep s1
    -- the greatest sums
    refine ⟨_, rfl, p, rfl, ⟨_, SqL.of hp1⟩, comp_list (K := K) (a := p) (xs := qs.map V.ref) (fun i ys H2 => ys = (Me.his b (rows.take i)).map V.int ∧ H1 = H2) ⟨rfl, rfl⟩ (fun i ys H2 _ h => by rw [← h.2]; exact SqL.of hp1) ?_ ?_⟩
    · rintro i x ys H2 hx ⟨rfl, rfl⟩
      obtain ⟨q, hq, rfl⟩ := ref_at hx
      have hil : i < qs.length := (List.getElem?_eq_some_iff.mp hq).1
      obtain ⟨row, hj, g, hg, perm⟩ := rows_get wa1 hq
      have kl : 0 < (Me.keys g).length := by rw [(perm.map _).length_eq]; exact Me.keys_ne hb1 row
      refine ⟨szl (by simp [Me.his]; lia), _, rfl, q, intsD g, Me.keys g, rfl, .inl hg, by simp [intsD, Me.keys], kl, ?_, rfl⟩
      rw [maxL_perm (perm.map _) kl, List.take_add_one, hj]
      simp [Me.his, Me.hiW]
    rintro ys H2 ⟨rfl, rfl⟩ l2 h2
    rw [List.length_map, hql, List.take_length]
    have s2 := s1.trans (same_upd (o := .lst ((Me.his b rows).map V.int)) h2)
    have u2 : upd H1 l2 (.lst ((Me.his b rows).map V.int)) l2 = some (.lst ((Me.his b rows).map V.int)) := upd_same
    have u1' := same_upd (o := .lst ((Me.his b rows).map V.int)) h2 _ _ u1
    generalize upd H1 l2 (.lst ((Me.his b rows).map V.int)) = H2 at s2 u2 u1' ⊢
    have nl : 0 < (Me.los b rows).length := by rw [Me.los, List.length_map]; exact hne
    have nh : 0 < (Me.his b rows).length := by rw [Me.his, List.length_map]; exact hne
    have B := Me.bounds hb1 hb hne hrs
    obtain ⟨B1, B2, B3, B4, B5, B6⟩ := B
    refine ⟨_, rfl, _, rfl, l2, _, rfl, SqL.of u2, nh, _, rfl, l1, _, rfl, SqL.of u1', nl, _, _, rfl, rfl, _, _, rfl, ?_⟩
    obtain ⟨r, hr'⟩ : ∃ r : Nat, (r : Int) = if Ma.maxL (Me.his b rows) - Ma.minL (Me.los b rows) < (d : Int) then Ma.maxL (Me.his b rows) - Ma.minL (Me.los b rows) else (d : Int) := ⟨(if Ma.maxL (Me.his b rows) - Ma.minL (Me.los b rows) < (d : Int) then Ma.maxL (Me.his b rows) - Ma.minL (Me.los b rows) else (d : Int)).toNat, by split <;> lia⟩
    rw [← hr']
    have rb : (r : Int) ≤ 1620 := by split at hr' <;> lia
    refine ⟨_, rfl, l1, _, rfl, SqL.of u1', nl, _, rfl, l1, _, rfl, SqL.of u1', nl, _, rfl, _, _, rfl, rfl, _, _, rfl, ?_⟩
    generalize hf : (if Ma.maxL (Me.los b rows) - (r : Int) > Ma.minL (Me.los b rows) then Ma.maxL (Me.los b rows) - (r : Int) else Ma.minL (Me.los b rows)) = first
    have fb : -810 ≤ first ∧ first ≤ 0 := by rw [← hf]; split <;> lia
    refine ⟨_, rfl, l2, _, rfl, SqL.of u2, nh, ?_⟩
    generalize hg0 : Ma.minL (Me.his b rows) = last
    rw [hg0] at B4 B5
    have hp2 := s2 _ _ hp
    have wa2 := wa.keep s2
    obtain ⟨n, hn⟩ : ∃ n : Nat, n = (last + (r : Int) + 1 - first).toNat := ⟨_, rfl⟩
    -- the running counts
    refine ⟨_, rfl, p, rfl, ⟨_, SqL.of hp2⟩, comp_list (K := K) (a := p) (xs := qs.map V.ref) (fun i ys H3 => ∃ ts, ys = ts.map V.ref ∧ ts.length = i ∧ Same H2 H3 ∧ RunsAt H3 b first n ts (rows.take i))
      ⟨[], rfl, rfl, Same.refl _, .nil⟩ (fun i ys H3 _ h => by obtain ⟨_, _, _, s', _⟩ := h; exact SqL.of (s' _ _ hp2)) ?_ ?_⟩
    · rintro i x ys H3 hx ⟨ts, rfl, htl, s3, ra⟩
      obtain ⟨q, hq, rfl⟩ := ref_at hx
      have hil : i < qs.length := (List.getElem?_eq_some_iff.mp hq).1
      obtain ⟨row, hj, g, hg, perm⟩ := rows_get wa2 hq
      have wok := Me.ways_ok' (b := b) (hrs row (List.mem_of_getElem? hj)).1 hb
      have eg : Me.gv g = Me.fw b row := funext fun t => by
        show (Me.look g t).getD 0 = (Me.look (Me.waysW b row) t).getD 0
        rw [Me.look_perm perm wok.nd t]
      refine ⟨szl (by rw [List.length_map]; lia), _, rfl, _, rfl, _, rfl, _, rfl, _, _, rfl, rfl, q, g, first, last + (r : Int), rfl, s3 _ _ hg, by lia, by lia, by lia, by lia, fun r' H4 hr4 s4 h4 => ?_⟩
      refine ⟨ts ++ [r'], by simp, by simp [htl], s3.trans s4, ?_⟩
      rw [List.take_add_one, hj]
      rw [eg, ← hn] at h4
      exact Paired.snoc (ra.keep s4) h4
    rintro ys H3 ⟨ts, rfl, htl, s3, ra⟩ l3 h3
    rw [List.length_map, hql, List.take_length] at ra
    have s4 := (s2.trans s3).trans (same_upd (o := .lst (ts.map V.ref)) h3)
    have ra4 := ra.keep (same_upd (o := .lst (ts.map V.ref)) h3)
    have u3 : upd H3 l3 (.lst (ts.map V.ref)) l3 = some (.lst (ts.map V.ref)) := upd_same
    generalize upd H3 l3 (.lst (ts.map V.ref)) = H4 at s4 ra4 u3 ⊢
    refine ⟨_, rfl, _, rfl, _, _, rfl, rfl, _, _, rfl, rfl, _, rfl, by lia, by lia, ?_⟩
    have en : (last - first + 1).toNat = (Ma.minL (Me.his b rows) - first + 1).toNat := by rw [hg0]
    refine for_range (lo := 0) (n := (last - first + 1).toNat) (fun i σ H5 => ∃ v9 v10, σ = [some (.ref p), some (.int d), some (.ref l1), some (.ref l2), some (.int r), some (.int first), some (.int last), some (.ref l3), some (.int (Mq.sm (Mq.gat (Me.fws b rows) r) first i)), v9, v10] ∧ H4 = H5) ⟨none, none, ?_, rfl⟩ ?_ ?_
    · rfl
    · rintro i σ H5 hi ⟨v9, v10, rfl, rfl⟩
      refine ⟨_, rfl, _, rfl, _, _, rfl, rfl, _, _, rfl, rfl, ?_⟩
      refine ⟨_, rfl, _, rfl, _, rfl, _, rfl, l3, ts, b, rows, first, n, i, i + r + 1, ?_, u3, ra4, hb, fun row h => (hrs row h).2, by lia, by lia, by lia, ?_⟩
      · show [V.ref l3, V.int (0 + (i : Int)), V.int (0 + (i : Int) + (r : Int) + 1)] = _
        rw [Int.zero_add]
        push_cast
        rfl
      refine ⟨_, rfl, _, rfl, _, _, rfl, rfl, _, rfl, l3, ts, b, rows, first, n, i + 1, i + r + 1, ?_, u3, ra4, hb, fun row h => (hrs row h).2, by lia, by lia, by lia, ?_⟩
      · show [V.ref l3, V.int (0 + (i : Int) + 1), V.int (0 + (i : Int) + (r : Int) + 1)] = _
        rw [Int.zero_add]
        push_cast
        rfl
      refine ⟨_, _, rfl, rfl, _, _, rfl, rfl, some (.int (0 + (i : Int))), some (.int (0 + (i : Int) + (r : Int) + 1)), ?_, rfl⟩
      have e1 : i + r + 1 - i = r + 1 := by lia
      have e2 : i + r + 1 - (i + 1) = r := by lia
      have e3 : first + ((i + 1 : Nat) : Int) = first + (i : Int) + 1 := by push_cast; lia
      rw [e1, e2, e3]
      rfl
    · rintro σ H5 ⟨v9, v10, rfl, rfl⟩
      refine ⟨_, rfl, ?_⟩
      rw [en, Me.near_prog hb1 hne hr' hf.symm]
      exact k _ s4
end
end Hv
namespace Hv
open PySem L2
noncomputable def missV (b : Nat) (rows : List (List Int)) (d : Nat) : Int := if d = 0 then Me.nearV b rows 0 else Me.nearV b rows d - Me.nearV b rows (d - 1)
inductive spNeedMiss (vs : List V) (H : Hp) (Q : VK) (E : XK) : Prop
  | mk : ∀ d : Nat, (vs = [.int d]) → (Q .non H) → spNeedMiss vs H Q E
inductive spCountNear (vs : List V) (H : Hp) (Q : VK) (E : XK) : Prop
  | mk : ∀ f a c b ps ws, ∀ d : Nat, (vs = [.ref f, .int d]) → (FrAt H f a c b ps ws) → (∀ H', Same H H' → Q (.int (Me.nearV b (Ma.cuts ps ws) d)) H') → spCountNear vs H Q E
inductive spCountMissing (vs : List V) (H : Hp) (Q : VK) (E : XK) : Prop
  | mk : ∀ f a c b ps ws, ∀ d : Nat, (vs = [.ref f, .int d]) → (FrAt H f a c b ps ws) → (∀ H', Same H H' → Q (.int (missV b (Ma.cuts ps ws) d)) H') → spCountMissing vs H Q E
theorem cuts_ok {b : Nat} {ps : List Nat} {ws : List Int} (ok : FrOk b ps ws) : 0 < (Ma.cuts ps ws).length ∧ (Ma.cuts ps ws).length ≤ 4 ∧ ∀ row ∈ Ma.cuts ps ws, (∀ x ∈ row, -9 ≤ x ∧ x ≤ 9) ∧ row.length ≤ 6 := by
  refine ⟨by rw [Ma.cuts_len]; have := ok.l2; lia, by rw [Ma.cuts_len]; exact ok.l4, fun row h => ⟨fun x hx => ok.wr x (Ma.cuts_mem h x hx), Ma.cuts_short (fun p hp => (ok.pr p hp).2) h⟩⟩
section
variable {P : Program} {w : World} {K : PySem.W.Frag} {mg : Str → Option Value} {base : Heap}
theorem scNeedMiss : FnScope ["thing"] ["thing"] (defScope sNeedMiss) := ⟨rfl, rfl, rfl, by decide +kernel, rfl, by decide +kernel, by decide +kernel⟩
theorem ok_needmiss {f : Addr} {fd : FuncData} (F : Fun K "need_miss" "need_miss" sNeedMiss f fd) (D1 : Def P w K mg base 1 "is_whole" ["thing"] spWhole) : FnOk P w K mg base CX0 2 f fd ["thing"] spNeedMiss := by
  refine F.ok scNeedMiss (fun vs H Q E h => ?_) (fun cdv A outer s H vs Q E hr h => ?_)
  · obtain ⟨d, rfl, _⟩ := h; rfl
  · obtain ⟨d, rfl, k⟩ := h
    refine ⟨_, pss_one (ps_if (PW.pt (pw_or (pt_not (pt_val (pe_fn D1 hr (by rfl) (pa_cons (pv 0) pa_nil)))) (pw_or1 (pt_cmpR op_lt (pv 0) pe_int (nomark _))))) pss_never pss_nil), ?_⟩
    refine ⟨_, rfl, .int d, rfl, .int _, _, rfl, iteF ⟨_, rfl, _, _, rfl, rfl, _, rfl, ?_⟩⟩
    have e : decide ((d : Int) < 0) = false := decide_eq_false (by lia)
    rw [e]
    exact iteF k
theorem scCountNear : FnScope ["frame", "d"] ["frame", "d"] (defScope sCountNear) := ⟨rfl, rfl, rfl, by decide +kernel, rfl, by decide +kernel, by decide +kernel⟩
theorem ok_countnear {f : Addr} {fd : FuncData} (F : Fun K "count_near" "count_near" sCountNear f fd) (D5 : Def P w K mg base 5 "need_frame" ["thing"] spNeedFrame) (DM : Def P w K mg base 2 "need_miss" ["thing"] spNeedMiss) (DP : Def P w K mg base 3 "ways_of_parts" ["frame"] spWaysParts) (DS : Def P w K mg base 2 "count_spread_within" ["ways_by_part", "width"] spSpread) :
    FnOk P w K mg base CX0 6 f fd ["frame", "d"] spCountNear := by
  refine F.ok scCountNear (fun vs H Q E h => ?_) (fun cdv A outer s H vs Q E hr h => ?_)
  · obtain ⟨g, a, c, b, ps, ws, d, rfl, _⟩ := h; rfl
  · obtain ⟨g, a, c, b, ps, ws, d, rfl, G, k⟩ := h
    obtain ⟨c1, c2, c3⟩ := cuts_ok G.ok
    refine ⟨_, pss_cons (ps_expr (pe_fn D5 hr (by rfl) (pa_cons (pv 0) pa_nil)))
      (pss_cons (ps_expr (pe_fn DM (hr.mono (by decide)) (by rfl) (pa_cons (pv 1) pa_nil)))
      (pss_one (ps_ret (pe_fn DS (hr.mono (by decide)) (by rfl) (pa_cons (pe_fn DP (hr.mono (by decide)) (by rfl) (pa_cons (pv 0) pa_nil)) (pa_cons (pv 1) pa_nil)))))), ?_⟩
    refine ⟨_, rfl, g, a, c, b, ps, ws, rfl, G, fun H1 s1 => ⟨_, rfl, d, rfl, ?_⟩⟩
    refine ⟨_, rfl, g, a, c, b, ps, ws, rfl, G.keep s1, fun p qs H2 s2 _ hp wa => ⟨_, rfl, p, qs, b, _, d, rfl, hp, wa, by have := G.ok.b2; lia, G.ok.b16, c1, c2, c3, fun H3 s3 => k H3 (s1.trans (s2.trans s3))⟩⟩
theorem scCountMissing : FnScope ["frame", "d", "ways_by_part"] ["frame", "d"] (defScope sCountMissing) := ⟨rfl, rfl, rfl, by decide +kernel, rfl, by decide +kernel, by decide +kernel⟩
theorem ok_countmissing {f : Addr} {fd : FuncData} (F : Fun K "count_missing" "count_missing" sCountMissing f fd) (D5 : Def P w K mg base 5 "need_frame" ["thing"] spNeedFrame) (DM : Def P w K mg base 2 "need_miss" ["thing"] spNeedMiss) (DP : Def P w K mg base 3 "ways_of_parts" ["frame"] spWaysParts) (DS : Def P w K mg base 2 "count_spread_within" ["ways_by_part", "width"] spSpread) :
    FnOk P w K mg base CX0 6 f fd ["frame", "d"] spCountMissing := by
  refine F.ok scCountMissing (fun vs H Q E h => ?_) (fun cdv A outer s H vs Q E hr h => ?_)
  · obtain ⟨g, a, c, b, ps, ws, d, rfl, _⟩ := h; rfl
  · obtain ⟨g, a, c, b, ps, ws, d, rfl, G, k⟩ := h
    obtain ⟨c1, c2, c3⟩ := cuts_ok G.ok
    have nd := scCountMissing.nd
    have b1 : 1 ≤ b := by have := G.ok.b2; lia
    refine ⟨_, pss_cons (ps_expr (pe_fn D5 hr (by rfl) (pa_cons (pv 0) pa_nil)))
      (pss_cons (ps_expr (pe_fn DM (hr.mono (by decide)) (by rfl) (pa_cons (pv 1) pa_nil)))
      (pss_cons (ps_set (i := 2) nd rfl (Or.inl rfl) (pe_fn DP (hr.mono (by decide)) (by rfl) (pa_cons (pv 0) pa_nil)))
      (pss_cons (ps_if (pt_cmpR op_eq (pv 1) pe_int (nomark _)) (pss_one (ps_ret (pe_fn DS (hr.mono (by decide)) (by rfl) (pa_cons (pv 2) (pa_cons pe_int pa_nil))))) pss_nil)
      (pss_one (ps_ret (pe_op op_sub (pe_fn DS (hr.mono (by decide)) (by rfl) (pa_cons (pv 2) (pa_cons (pv 1) pa_nil))) (pe_fn DS (hr.mono (by decide)) (by rfl) (pa_cons (pv 2) (pa_cons (pe_op op_sub (pv 1) pe_int) pa_nil))))))))), ?_⟩
    refine ⟨_, rfl, g, a, c, b, ps, ws, rfl, G, fun H1 s1 => ⟨_, rfl, d, rfl, ?_⟩⟩
    refine ⟨_, rfl, g, a, c, b, ps, ws, rfl, G.keep s1, fun p qs H2 s2 _ hp wa => ?_⟩
    have S2 := s1.trans s2
    refine ⟨_, rfl, rfl, _, rfl, ?_⟩
    by_cases h0 : d = 0
    · subst h0
      refine iteT ⟨_, rfl, p, qs, b, _, 0, rfl, hp, wa, b1, G.ok.b16, c1, c2, c3, fun H3 s3 => ?_⟩
      exact k H3 (S2.trans s3)
    · have ne : ¬ V.int (d : Int) = V.int 0 := fun z => h0 (by injection z with z'; lia)
      rw [decide_eq_false ne]
      refine iteF ⟨_, rfl, _, rfl, p, qs, b, _, d, rfl, hp, wa, b1, G.ok.b16, c1, c2, c3, fun H3 s3 => ?_⟩
      refine ⟨_, rfl, _, rfl, _, _, rfl, rfl, p, qs, b, _, d - 1, ?_, s3 _ _ hp, wa.keep s3, b1, G.ok.b16, c1, c2, c3, fun H4 s4 => ⟨_, _, rfl, rfl, ?_⟩⟩
      · show [V.ref p, V.int ((d : Int) - 1)] = [V.ref p, V.int ((d - 1 : Nat) : Int)]
        rw [show ((d - 1 : Nat) : Int) = (d : Int) - 1 by lia]
      · have e : missV b (Ma.cuts ps ws) d = Me.nearV b (Ma.cuts ps ws) d - Me.nearV b (Ma.cuts ps ws) (d - 1) := if_neg h0
        have := k H4 (S2.trans (s3.trans s4))
        rw [e] at this
        exact this
end
end Hv
namespace Hv
open PySem L2
structure St7 (H : Hp) (s q : Addr) (ds : List Int) : Prop where
  hs : ∃ c : Int, H s = some (.lst [.ref q, .int c])
  hq : H q = some (.lst (ds.map V.int))
  ne : 0 < ds.length
theorem St7.keep {H H' : Hp} {s q : Addr} {ds : List Int} (S : St7 H s q ds) (t : Same H H') : St7 H' s q ds := ⟨let ⟨c, e⟩ := S.hs; ⟨c, t _ _ e⟩, t _ _ S.hq, S.ne⟩
theorem St7.off {H : Hp} {s q l : Addr} {ds : List Int} (S : St7 H s q ds) (h : H l = none) : l ∉ [s] := fun z => by
  obtain ⟨c, e⟩ := S.hs
  have z' : l = s := by simpa using z
  rw [z', e] at h; cases h
theorem St7.offq {H : Hp} {s q l : Addr} {ds : List Int} (S : St7 H s q ds) (h : H l = none) : q ≠ l := ne_of_none S.hq h
theorem St7.upd {H : Hp} {s q l : Addr} {o : HO} {ds : List Int} (S : St7 H s q ds) (h : l ∉ [s]) (hq : q ≠ l) : St7 (L2.upd H l o) s q ds :=
  ⟨let ⟨c, e⟩ := S.hs; ⟨c, by rw [upd_ne (show s ≠ l from fun z => h (by simp [z]))]; exact e⟩, by rw [upd_ne hq]; exact S.hq, S.ne⟩
inductive spTake7 (vs : List V) (H : Hp) (Q : VK) (E : XK) : Prop
  | mk : ∀ (s q : Addr) (ds : List Int) (m : Int), (vs = [.ref s, .int m]) → (St7 H s q ds) → (0 < m) → (∀ (r : Int) (H' : Hp), 0 ≤ r → r < m → St7 H' s q ds → Kp [s] H H' → Q (.int r) H') → spTake7 vs H Q E
theorem at_ints {ns : List Int} {i : Int} {Pr : Int → Prop} (h0 : 0 ≤ i) (h1 : i < ns.length) (h : ∀ n ∈ ns, Pr n) : ∃ n, atI (ns.map V.int) i = some (.int n) ∧ Pr n := by
  obtain ⟨v, e, n, rfl, hn⟩ := at_all (xs := ns.map V.int) (Pr := fun v => ∃ n, v = .int n ∧ Pr n) h0 (by rw [List.length_map]; exact h1) (fun x hx => by
    obtain ⟨n, hn, rfl⟩ := List.mem_map.mp hx
    exact ⟨n, rfl, h n hn⟩)
  exact ⟨n, e, hn⟩
inductive spFrame7 (vs : List V) (H : Hp) (Q : VK) (E : XK) : Prop
  | mk : ∀ (s q : Addr) (ds : List Int) (L : Int), (vs = [.ref s, .int L]) → (St7 H s q ds) → (1 ≤ L) → (L ≤ 6) → (∀ f a c b ps ws H', St7 H' s q ds → Kp [s] H H' → FrAt H' f a c b ps ws → H f = none → H a = none → H c = none → Q (.ref f) H') → spFrame7 vs H Q E
section
variable {P : Program} {w : World} {K : PySem.W.Frag} {mg : Str → Option Value} {base : Heap}
theorem scTake : FnScope ["store", "many"] ["store", "many"] (defScope sTake) := ⟨rfl, rfl, rfl, by decide +kernel, rfl, by decide +kernel, by decide +kernel⟩
theorem ok_take {f : Addr} {fd : FuncData} (F : Fun K "_law_take" "_law_take" sTake f fd) (T : Txt mg) : FnOk P w K mg base CX0 1 f fd ["store", "many"] spTake7 := by
  refine F.ok scTake (fun vs H Q E h => ?_) (fun cdv A outer s H vs Q E hr h => ?_)
  · obtain ⟨a, q, ds, m, rfl, _⟩ := h; rfl
  · obtain ⟨a, q, ds, m, rfl, S, hm, k⟩ := h
    obtain ⟨c, hs⟩ := S.hs
    refine ⟨_, pss_cons (ps_asg (pe_op op_add (ixl (pv 0) pe_int) pe_int) (pg_sub (pv 0) pe_int set_list))
      (pss_one (ps_ret (pe_op op_mod (ixl (ixl (pv 0) pe_int) (pe_op op_mod (pe_op op_sub (ixl (pv 0) pe_int) pe_int) (lenS T.len (by rfl) (ixl (pv 0) pe_int)))) (pv 1)))), ?_⟩
    refine ⟨_, rfl, _, _, _, _, rfl, rfl, SqL.of hs, rfl, _, _, rfl, rfl, _, rfl, a, _, _, _, rfl, rfl, hs, rfl, ?_⟩
    have u1 : (upd H a (.lst [.ref q, .int (c + 1)])) a = some (.lst [.ref q, .int (c + 1)]) := upd_same
    have nqa : q ≠ a := ne_of S.hq hs (by
      intro z
      have z' : ds.map V.int = [.ref q, .int c] := by injection z
      cases ds with
      | nil => cases z'
      | cons d r => cases z')
    have k1 : Kp [a] H (upd H a (.lst [.ref q, .int (c + 1)])) := kp_upd Kp.refl (.inl (by simp))
    have q1 : (upd H a (.lst [.ref q, .int (c + 1)])) q = some (.lst (ds.map V.int)) := by rw [upd_ne nqa]; exact S.hq
    have ew : [V.ref q, V.int c].set (Int.toNat 1) (V.int (c + 1)) = [.ref q, .int (c + 1)] := rfl
    dsimp only
    rw [ew]
    generalize upd H a (.lst [.ref q, .int (c + 1)]) = H1 at u1 k1 q1 ⊢
    have hn := S.ne
    have el : (((ds.map V.int).length : Nat) : Int) = (ds.length : Int) := by simp
    refine ⟨_, rfl, _, _, _, _, rfl, rfl, SqL.of u1, rfl, _, rfl, _, _, _, _, rfl, rfl, SqL.of u1, rfl, _, _, rfl, rfl, _, rfl, _, _, _, _, rfl, rfl, SqL.of u1, rfl, q, _, rfl, .inl (SqL.of q1), _, _, rfl, rfl, (by show (0 : Int) < _; lia), ?_⟩
    obtain ⟨n, en, _⟩ := at_ints (ns := ds) (i := (c + 1 - 1) % (((ds.map V.int).length : Nat) : Int)) (Pr := fun _ => True) (Int.emod_nonneg _ (by lia)) (by rw [el]; exact Int.emod_lt_of_pos _ (by lia)) (fun _ _ => trivial)
    refine r_ixl q1 en ⟨_, rfl, _, _, rfl, rfl, hm, ?_⟩
    exact k _ H1 (Int.emod_nonneg _ (by lia)) (Int.emod_lt_of_pos _ hm) ⟨⟨_, u1⟩, q1, S.ne⟩ k1
theorem scFrame : FnScope ["store", "most", "x", "base", "many", "size", "parts", "way", "weights", "k", "y", "some"] ["store", "most"] (defScope sFrame) := ⟨rfl, rfl, rfl, by decide +kernel, rfl, by decide +kernel, by decide +kernel⟩
theorem ok_frame {f : Addr} {fd : FuncData} (F : Fun K "_law_frame" "_law_frame" sFrame f fd) (T : Txt mg) (D1 : Def P w K mg base 1 "_law_take" ["store", "many"] spTake7) : FnOk P w K mg base CX0 2 f fd ["store", "most"] spFrame7 := by
  refine F.ok scFrame (fun vs H Q E h => ?_) (fun cdv A outer s H vs Q E hr h => ?_)
  · obtain ⟨a, q, ds, L, rfl, _⟩ := h; rfl
  · obtain ⟨d, q, ds, L, rfl, S, hL1, hL6, k⟩ := h
    have nd := scFrame.nd
    refine ⟨_, pss_cons (ps_set (i := 2) nd rfl (Or.inr rfl) (pe_fn D1 hr (by rfl) (pa_cons (pv 0) (pa_cons pe_int pa_nil))))
      (pss_cons (ps_set (i := 3) nd rfl (Or.inl rfl) (ixl (pe_lst (pa_cons pe_int (pa_cons pe_int (pa_cons pe_int (pa_cons pe_int (pa_cons (pe_op op_add pe_int (pe_op op_mod (pv 2) pe_int)) pa_nil)))))) (pe_fn D1 hr (by rfl) (pa_cons (pv 0) (pa_cons pe_int pa_nil)))))
      (pss_cons (ps_set (i := 4) nd rfl (Or.inl rfl) (pe_op op_add pe_int (pe_op op_mod (pe_op op_fdiv (pv 2) pe_int) pe_int)))
      (pss_cons (ps_set (i := 5) nd rfl (Or.inr rfl) (pe_op op_add pe_int (pe_fn D1 hr (by rfl) (pa_cons (pv 0) (pa_cons (pv 1) pa_nil)))))
      (pss_cons (ps_cmp1 (defScope sFrame) ["store", "most", "x", "base", "many", "size", "parts", "way", "weights", "k", "y", "some"] ["size", "store", "most", "x"] [5, 0, 1, 2] (i := 6) nd rfl (Or.inl rfl) rfl
        (pi_range1 (by rfl) T.range (pa_cons (pv 4) pa_nil))
        (fun cl C s H fp => pf_nil) (fun cl C s H fp => ixlK K rfl (pe_lst (pa_cons (pv 1) (pa_cons (pe_op op_add pe_int (pe_fn D1 hr (by rfl) (pa_cons (pv 2) (pa_cons (pv 3) pa_nil)))) pa_nil))) (pe_op op_mod (pe_op op_fdiv (pv 4) pe_int) pe_int)) (by decide +kernel) (by rfl))
      (pss_cons (ps_set (i := 7) nd rfl (Or.inl rfl) (pe_fn D1 hr (by rfl) (pa_cons (pv 0) (pa_cons pe_int pa_nil))))
      (pss_cons (ps_set (i := 8) nd rfl (Or.inl rfl) (pe_lst pa_nil))
      (pss_cons (ps_for PassesOwn.never rfl (pi_range1 (by rfl) T.range (pa_cons (pe_callB (call_sumA rfl) (by rfl) T.sum boot_sum (pa_cons (pv 6) pa_nil)) pa_nil)) (pg_name (i := 9) nd rfl (Or.inl rfl))
        (pss_cons (ps_set (i := 10) nd rfl (Or.inl rfl) (pe_fn D1 hr (by rfl) (pa_cons (pv 0) (pa_cons pe_int pa_nil))))
        (pss_cons (ps_set (i := 11) nd rfl (Or.inl rfl) (pe_lst (pa_cons pe_int (pa_cons (pe_op op_sub (pe_op op_mod (pv 10) pe_int) pe_int) (pa_cons (pe_op op_sub (pe_op op_mod (pv 10) pe_int) pe_int) (pa_cons (pe_op op_add (pe_op op_mod (pv 9) pe_int) pe_int)
            (pa_cons (ixl (pe_lst (pa_cons pe_int (pa_cons (pe_un un_neg pe_int) pa_nil))) (pe_op op_mod (pv 10) pe_int)) (pa_cons (pe_op op_sub pe_int (pe_op op_mul (pe_op op_mod (pv 9) pe_int) pe_int)) (pa_cons (pe_op op_mod (pv 10) pe_int) pa_nil)))))))))
        (pss_one (ps_expr (pe_bm PySem.F.plainAttrs_list PySem.F.slot_list_append PySem.F.type_list_append mt_append (pv 8) (pa_cons (ixl (pv 11) (pv 7)) pa_nil)))))))
      (pss_one (ps_ret (pe_tup (pa_cons (pv 3) (pa_cons (pv 6) (pa_cons (pv 8) pa_nil))))))))))))), ?_⟩
    -- x
    refine ⟨_, rfl, d, q, ds, 10007, rfl, S, by decide, fun x H1 x0 x1 S1 k1 => ?_⟩
    -- base
    refine ⟨_, rfl, _, _, rfl, rfl, (by show (0 : Int) < 15; decide), _, _, rfl, rfl, sz (by simp), fun l1 hl1 => ⟨_, rfl, d, q, ds, 5, rfl, S1.keep (same_upd hl1), by decide, fun r2 H2 a2 b2 S2 k2 => ?_⟩⟩
    have xm : 0 ≤ x % 15 ∧ x % 15 < 15 := ⟨Int.emod_nonneg _ (by decide), Int.emod_lt_of_pos _ (by decide)⟩
    obtain ⟨bi, eb, hb⟩ := at_ints (ns := [2, 3, 10, 16, 2 + x % 15]) (Pr := fun n => 2 ≤ n ∧ n ≤ 16) a2 b2 (by simp; lia)
    obtain ⟨b, rfl⟩ : ∃ b : Nat, bi = b := ⟨bi.toNat, by lia⟩
    refine r_ixl (k2 l1 _ upd_same (S1.off hl1)) eb ?_
    have K2 : Kp [d] H H2 := k1.trans ((Kp.of (same_upd hl1)).trans k2)
    -- many, size
    refine ⟨_, rfl, _, _, rfl, rfl, ⟨by decide, by decide⟩, _, _, rfl, rfl, (by show (0 : Int) < 3; decide), _, _, rfl, rfl, ?_⟩
    have mm : 0 ≤ x / 15 % 3 ∧ x / 15 % 3 < 3 := ⟨Int.emod_nonneg _ (by decide), Int.emod_lt_of_pos _ (by decide)⟩
    refine ⟨_, rfl, _, rfl, d, q, ds, L, rfl, S2, by lia, fun sz0 H3 a3 b3 S3 k3 => ⟨_, _, rfl, rfl, ?_⟩⟩
    have K3 : Kp [d] H H3 := K2.trans k3
    -- parts
    refine ⟨_, rfl, _, rfl, by lia, by lia, comp_range (lo := 0) (n := (2 + x / 15 % 3).toNat) (fun i ys H6 => ∃ ps : List Nat, ys = natV ps ∧ ps.length = i ∧ (∀ x ∈ ps, 1 ≤ x ∧ x ≤ 6) ∧ St7 H6 d q ds ∧ Kp [d] H H6)
      ⟨[], rfl, rfl, fun x hx => by simp at hx, S3, K3⟩ ?_ ?_⟩
    · rintro i ys H6 hi ⟨ps, rfl, hl, hp, S6, K6⟩
      refine ⟨szl (by simp [natV]; lia), _, rfl, _, rfl, _, rfl, d, q, ds, L, rfl, S6, by lia, fun r H7 a7 b7 S7 k7 => ⟨_, _, rfl, rfl, sz (by simp), fun m hm => ?_⟩⟩
      refine ⟨_, rfl, _, _, rfl, rfl, ⟨by decide, by decide⟩, _, _, rfl, rfl, (by show (0 : Int) < 2; decide), ?_⟩
      obtain ⟨z, ez, hz⟩ := at_ints (ns := [1 + sz0, 1 + r]) (i := x / 45 % 2) (Pr := fun n => 1 ≤ n ∧ n ≤ 6) (Int.emod_nonneg _ (by decide)) (Int.emod_lt_of_pos _ (by decide)) (by simp; lia)
      refine r_ixl upd_same ez ⟨ps ++ [z.toNat], ?_, by simp [hl], fun y hy => ?_, S7.keep (same_upd hm), (K6.trans k7).same (same_upd hm)⟩
      · simp [natV]
        lia
      · rcases List.mem_append.mp hy with hy | hy
        · exact hp y hy
        · have : y = z.toNat := by simpa using hy
          lia
    rintro ys H6 ⟨ps, rfl, hl, hp, S6, K6⟩ a ha
    have hna : a ∉ [d] := S6.off ha
    have hsum := Ma.sum_le6 ps hp
    -- way, weights
    refine ⟨_, rfl, d, q, ds, 7, rfl, S6.keep (same_upd ha), by decide, fun wv H9 w0 w1 S9 k9 => ⟨sz (by decide), fun l hl9 => ?_⟩⟩
    have h9 : H9 a = some (.lst (natV ps)) := k9 a _ upd_same hna
    have K9 : Kp [d] H H9 := K6.trans ((Kp.of (same_upd ha)).trans k9)
    have s9 : Same H9 (upd H9 l (.lst [])) := same_upd hl9
    have nl : l ∉ [d] := S9.off hl9
    have al : a ≠ l := ne_of_none h9 hl9
    have ql : q ≠ l := S9.offq hl9
    refine ⟨_, rfl, a, ps.map fun (p : Nat) => (p : Int), rfl, SqL.of (by rw [← natV_eq]; exact s9 _ _ h9), _, rfl, ?_⟩
    rw [Ma.sum_cast]
    refine ⟨by lia, by lia, ?_⟩
    have en' : (((ps.sum : Nat) : Int)).toNat = ps.sum := by lia
    rw [en']
    refine for_range (n := ps.sum) (fun i σ H6 => ∃ (ws : List Int) (v9 v10 v11 : Option V), σ = [some (.ref d), some (.int L), some (.int x), some (.int b), some (.int (2 + x / 15 % 3)), some (.int (1 + sz0)), some (.ref a), some (.int wv), some (.ref l), v9, v10, v11] ∧ St7 H6 d q ds ∧ Kp [d] H H6 ∧ H6 a = some (.lst (natV ps)) ∧
      H6 l = some (.lst (ws.map V.int)) ∧ ws.length = i ∧ ∀ x ∈ ws, -9 ≤ x ∧ x ≤ 9) ⟨[], none, none, none, rfl, S9.keep s9, K9.same s9, s9 _ _ h9, upd_same, rfl, fun x hx => by simp at hx⟩ ?_ ?_
    · rintro i σ H10 hi ⟨ws, v9, v10, v11, rfl, S10, K10, h10, hl10, hw10, hr10⟩
      refine ⟨_, rfl, d, q, ds, 10007, rfl, S10, by decide, fun y G1 y0 y1 F1 j1 => ?_⟩
      have m19 : 0 ≤ y % 19 ∧ y % 19 < 19 := ⟨Int.emod_nonneg _ (by decide), Int.emod_lt_of_pos _ (by decide)⟩
      have m3 : 0 ≤ y % 3 ∧ y % 3 < 3 := ⟨Int.emod_nonneg _ (by decide), Int.emod_lt_of_pos _ (by decide)⟩
      have m2 : 0 ≤ y % 2 ∧ y % 2 < 2 := ⟨Int.emod_nonneg _ (by decide), Int.emod_lt_of_pos _ (by decide)⟩
      have m4 : 0 ≤ y % 4 ∧ y % 4 < 4 := ⟨Int.emod_nonneg _ (by decide), Int.emod_lt_of_pos _ (by decide)⟩
      have i9 : 0 ≤ (0 + (i : Int)) % 9 ∧ (0 + (i : Int)) % 9 < 9 := ⟨Int.emod_nonneg _ (by decide), Int.emod_lt_of_pos _ (by decide)⟩
      have i2 : 0 ≤ (0 + (i : Int)) % 2 ∧ (0 + (i : Int)) % 2 < 2 := ⟨Int.emod_nonneg _ (by decide), Int.emod_lt_of_pos _ (by decide)⟩
      refine ⟨_, rfl, _, _, rfl, rfl, (by show (0 : Int) < 19; decide), _, _, rfl, rfl, ?_⟩
      refine ⟨_, rfl, _, _, rfl, rfl, (by show (0 : Int) < 3; decide), _, _, rfl, rfl, ?_⟩
      refine ⟨_, rfl, _, _, rfl, rfl, (by show (0 : Int) < 9; decide), _, _, rfl, rfl, ?_⟩
      refine ⟨_, rfl, sz (by simp), fun m5 hm5 => ⟨_, rfl, _, _, rfl, rfl, (by show (0 : Int) < 2; decide), ?_⟩⟩
      obtain ⟨z, ez, hz⟩ := at_ints (ns := [9, -9]) (i := y % 2) (Pr := fun n => -9 ≤ n ∧ n ≤ 9) m2.1 m2.2 (by simp)
      refine r_ixl upd_same ez ?_
      have sm5 := same_upd (o := .lst [.int 9, .int (-9)]) hm5
      generalize upd G1 m5 (.lst [.int 9, .int (-9)]) = G2 at sm5 ⊢
      have F2 := F1.keep sm5
      refine ⟨_, rfl, _, _, rfl, rfl, (by show (0 : Int) < 2; decide), _, _, rfl, rfl, .inr ⟨by decide, by decide⟩, _, _, rfl, rfl, ?_⟩
      refine ⟨_, rfl, _, _, rfl, rfl, (by show (0 : Int) < 4; decide), sz (by simp), fun m hm => ?_⟩
      have J1 : Kp [d] H10 G2 := j1.same sm5
      have sm := same_upd (o := .lst [.int 1, .int (y % 19 - 9), .int (y % 3 - 1), .int ((0 + (i : Int)) % 9 + 1), .int z, .int (1 - (0 + (i : Int)) % 2 * 2), .int (y % 4)]) hm
      have um : (upd G2 m (.lst [.int 1, .int (y % 19 - 9), .int (y % 3 - 1), .int ((0 + (i : Int)) % 9 + 1), .int z, .int (1 - (0 + (i : Int)) % 2 * 2), .int (y % 4)])) m = some (.lst ([1, y % 19 - 9, y % 3 - 1, (0 + (i : Int)) % 9 + 1, z, 1 - (0 + (i : Int)) % 2 * 2, y % 4].map V.int)) := upd_same
      generalize upd G2 m (.lst [.int 1, .int (y % 19 - 9), .int (y % 3 - 1), .int ((0 + (i : Int)) % 9 + 1), .int z, .int (1 - (0 + (i : Int)) % 2 * 2), .int (y % 4)]) = G3 at sm um ⊢
      have F3 := F2.keep sm
      have la : G3 a = some (.lst (natV ps)) := sm _ _ (J1 a _ h10 hna)
      have ll : G3 l = some (.lst (ws.map V.int)) := sm _ _ (J1 l _ hl10 nl)
      have K3' : Kp [d] H G3 := (K10.trans J1).same sm
      obtain ⟨v, ev, hv⟩ := at_ints (ns := [1, y % 19 - 9, y % 3 - 1, (0 + (i : Int)) % 9 + 1, z, 1 - (0 + (i : Int)) % 2 * 2, y % 4]) (i := wv) (Pr := fun n => -9 ≤ n ∧ n ≤ 9) w0 w1 (by simp; omega)
      refine ⟨_, rfl, .inl ⟨rfl, _, SqL.of ll⟩, _, rfl, _, rfl, _, _, _, _, rfl, rfl, SqL.of um, ev, ⟨l, _, _, rfl, rfl, ll, szl (by rw [List.length_map]; omega), ws ++ [v], _, _, _, rfl, F3.upd nl ql, kp_upd K3' (.inr (K9.free hl9 nl)), ?_, ?_, by simp [hw10], fun y hy => ?_⟩⟩
      · rw [upd_ne al]; exact la
      · rw [upd_same]; simp
      · rcases List.mem_append.mp hy with hy | hy
        · exact hr10 y hy
        · have : y = v := by simpa using hy
          rw [this]; exact hv
    · rintro σ H10 ⟨ws, v9, v10, v11, rfl, S10, K10, h10, hl10, hw10, hr10⟩
      refine ⟨_, rfl, _, rfl, _, rfl, sz (by simp), fun f' hf' => ?_⟩
      have sf := same_upd (o := .tup [.int b, .ref a, .ref l]) hf'
      exact k f' a l b ps ws _ (S10.keep sf) (K10.same sf) ⟨upd_same, sf _ _ h10, sf _ _ hl10, ⟨by lia, by lia, by lia, by lia, hp, hw10, hr10⟩⟩ (K10.free hf' (S10.off hf')) (K6.free ha hna) (K9.free hl9 nl)
end
end Hv
namespace Hv
open PySem L2
inductive spDraws (K : PySem.W.Frag) (vs : List V) (H : Hp) (Q : VK) (E : XK) : Prop
  | mk : ∀ (a : Addr) (ns : List Int), (vs = [.ref a, .int 300]) → (SqL K H a (ns.map V.int)) → (ns.length ≤ 63) → (∀ (l : Addr) (H' : Hp) (ds : List Int), H l = none → Same H H' → H' l = some (.lst (ds.map V.int)) → 0 < ds.length → Q (.ref l) H') → spDraws K vs H Q E
theorem mem_cut {xs : List V} {lo hi : Option Int} {x : V} (h : x ∈ cutV xs lo hi) : x ∈ xs := List.mem_of_mem_drop (List.mem_of_mem_take h)
theorem len_cut {xs : List V} {lo hi : Option Int} : (cutV xs lo hi).length ≤ xs.length := by
  unfold cutV
  rw [List.length_take, List.length_drop]
  lia
theorem emod_in (a : Int) {m : Int} (h : 0 < m) : 0 ≤ a % m ∧ a % m < m := ⟨Int.emod_nonneg _ (by lia), Int.emod_lt_of_pos _ h⟩
section
variable {P : Program} {w : World} {K : PySem.W.Frag} {mg : Str → Option Value} {base : Heap}
theorem scDraws : FnScope ["script", "many", "drawn", "base", "k", "cell", "number", "one"] ["script", "many"] (defScope sDraws) := ⟨rfl, rfl, rfl, by decide +kernel, rfl, by decide +kernel, by decide +kernel⟩
theorem ok_draws {f : Addr} {fd : FuncData} (F : Fun K "_law_draws" "_law_draws" sDraws f fd) (T : Txt mg) (nabs : mg "abs" = none) : FnOk P w K mg base CX0 1 f fd ["script", "many"] (spDraws K) := by
  refine F.ok scDraws (fun vs H Q E h => ?_) (fun cdv A outer s H vs Q E hr h => ?_)
  · obtain ⟨a, ns, rfl, _⟩ := h; rfl
  · obtain ⟨a0, ns, rfl, hS, hlen, k⟩ := h
    have nd := scDraws.nd
    refine ⟨_, pss_cons (ps_set (i := 2) nd rfl (Or.inl rfl) (pe_lst pa_nil))
      (pss_cons (ps_set (i := 3) nd rfl (Or.inl rfl) pe_int)
      (pss_cons (ps_for PassesOwn.never rfl (pi_enum (by rfl) T.enum (pe_slice sl_list (pv 0) po_none (po_some pe_int))) (pg_tup rfl (pgs_cons (pg_name (i := 4) nd rfl (Or.inl rfl)) (pgs_cons (pg_name (i := 5) nd rfl (Or.inl rfl)) pgs_nil)))
        (pss_cons (ps_set (i := 6) nd rfl (Or.inl rfl) (pe_callB call_abs (by rfl) nabs PyProof.Rows.boot_abs (pa_cons (pv 5) pa_nil)))
        (pss_cons (ps_set (i := 3) nd rfl (Or.inl rfl) (pe_op op_mod (pe_op op_add (pe_op op_mul (pv 3) pe_int) (pv 6)) pe_int))
        (pss_one (ps_if (pt_cmpR op_ge (pv 6) (pe_op op_pow pe_int pe_int) (nomark _))
          (pss_one (ps_while PassesOwn.never (PW.pt (pw_and (pt_cmpR op_gt (pv 6) pe_int (nomark _)) (pw_and1 (pt_cmpR op_lt (lenS T.len (by rfl) (pv 2)) (pv 1) (nomark _)))))
            (pss_cons (ps_expr (pe_bm PySem.F.plainAttrs_list PySem.F.slot_list_append PySem.F.type_list_append mt_append (pv 2) (pa_cons (pe_op op_mod (pv 6) pe_int) pa_nil)))
            (pss_one (ps_set (i := 6) nd rfl (Or.inl rfl) (pe_op op_fdiv (pv 6) pe_int))))))
          (pss_cons (ps_set (i := 7) nd rfl (Or.inl rfl) (pe_op op_mod (pe_op op_mul (pe_op op_add (pe_op op_add (pe_op op_mod (pv 6) pe_int) (pv 4)) pe_int) pe_int) pe_int))
          (pss_cons (ps_set (i := 7) nd rfl (Or.inl rfl) (pe_op op_mod (pe_op op_mul (pv 7) (pv 7)) pe_int))
          (pss_cons (ps_expr (pe_bm PySem.F.plainAttrs_list PySem.F.slot_list_append PySem.F.type_list_append mt_append (pv 2) (pa_cons (pe_op op_mod (pe_op op_fdiv (pv 7) pe_int) pe_int) pa_nil)))
          (pss_cons (ps_set (i := 7) nd rfl (Or.inl rfl) (pe_op op_mod (pe_op op_add (pe_op op_add (pe_op op_mul (pv 7) pe_int) (pe_op op_mul pe_int (pv 4))) pe_int) pe_int))
          (pss_cons (ps_set (i := 7) nd rfl (Or.inl rfl) (pe_op op_mod (pe_op op_mul (pv 7) (pv 7)) pe_int))
          (pss_one (ps_expr (pe_bm PySem.F.plainAttrs_list PySem.F.slot_list_append PySem.F.type_list_append mt_append (pv 2) (pa_cons (pe_op op_mod (pe_op op_fdiv (pv 7) pe_int) pe_int) pa_nil))))))))))))))
      (pss_cons (ps_for PassesOwn.never rfl (pi_range1 (by rfl) T.range (pa_cons (pe_op op_sub (pv 1) (lenS T.len (by rfl) (pv 2))) pa_nil)) (pg_name (i := 4) nd rfl (Or.inl rfl))
        (pss_cons (ps_set (i := 7) nd rfl (Or.inl rfl) (pe_op op_mod (pe_op op_add (pe_op op_add (pv 3) (pe_op op_mul pe_int (pv 4))) pe_int) pe_int))
        (pss_cons (ps_set (i := 7) nd rfl (Or.inl rfl) (pe_op op_mod (pe_op op_mul (pv 7) (pv 7)) pe_int))
        (pss_cons (ps_set (i := 7) nd rfl (Or.inl rfl) (pe_op op_mod (pe_op op_add (pe_op op_mul (pv 7) pe_int) (pv 4)) pe_int))
        (pss_one (ps_expr (pe_bm PySem.F.plainAttrs_list PySem.F.slot_list_append PySem.F.type_list_append mt_append (pv 2) (pa_cons (pe_op op_mod (pe_op op_fdiv (pe_op op_mod (pe_op op_mul (pv 7) (pv 7)) pe_int) pe_int) pe_int) pa_nil))))))))
      (pss_one (ps_ret (pv 2)))))), ?_⟩
    refine ⟨sz (by decide), fun l hl => ?_⟩
    have s1 : Same H (upd H l (.lst [])) := same_upd hl
    have u1 : (upd H l (.lst [])) l = some (.lst (([] : List Int).map V.int)) := upd_same
    have hS1 : SqL K (upd H l (.lst [])) a0 (ns.map V.int) := s1.seq hS
    generalize upd H l (.lst []) = H1 at s1 u1 hS1 ⊢
    refine ⟨_, rfl, _, rfl, a0, _, rfl, hS1, fun p hp => ?_⟩
    have hints : ∀ x ∈ cutV (ns.map V.int) none (some 63), ∃ n : Int, x = V.int n := fun x hx => by
      obtain ⟨n, _, rfl⟩ := List.mem_map.mp (mem_cut hx)
      exact ⟨n, rfl⟩
    have hcl : (cutV (ns.map V.int) none (some 63)).length ≤ 63 := by
      have := len_cut (xs := ns.map V.int) (lo := none) (hi := some 63)
      rw [List.length_map] at this
      lia
    generalize cutV (ns.map V.int) none (some 63) = xs at hints hcl ⊢
    have s2 : Same H (upd H1 p (.lst xs)) := s1.trans (same_upd hp)
    have u2 : (upd H1 p (.lst xs)) p = some (.lst xs) := upd_same
    have npl : l ≠ p := ne_of_none u1 hp
    have l2 : (upd H1 p (.lst xs)) l = some (.lst (([] : List Int).map V.int)) := by rw [upd_ne npl]; exact u1
    generalize upd H1 p (.lst xs) = H2 at s2 u2 l2 ⊢
    refine ⟨p, rfl, ⟨_, SqL.of u2⟩, for_enum (K := K) (a := p) (xs := xs) (fun i σ H' => ∃ (ds : List Int) (bs : Int) (v4 v5 v6 v7 : Option V), σ = [some (.ref a0), some (.int 300), some (.ref l), some (.int bs), v4, v5, v6, v7] ∧ Same H H' ∧
      H' p = some (.lst xs) ∧ H' l = some (.lst (ds.map V.int)) ∧ ds.length ≤ 300 + 2 * i ∧ 0 ≤ bs ∧ bs < 2147483629) ⟨[], 7, none, none, none, none, rfl, s2, u2, l2, by simp, by decide, by decide⟩ (fun i σ H' _ h => by obtain ⟨_, _, _, _, _, _, _, _, h, _⟩ := h; exact SqL.of h) ?_ ?_⟩
    · rintro i x σ H' t hx ⟨ds, bs, v4, v5, v6, v7, rfl, s6, hp6, hl6, hd6, b0, b1⟩ ht
      have hi : i < xs.length := (List.getElem?_eq_some_iff.mp hx).1
      obtain ⟨n, rfl⟩ := hints x (List.mem_of_getElem? hx)
      have s7 : Same H' (upd H' t (.tup [.int i, .int n])) := same_upd ht
      refine ⟨t, _, rfl, SqT.of upd_same, rfl, _, _, rfl, _, _, rfl, rfl, ?_⟩
      have sG := s6.trans s7
      have pG := s7 _ _ hp6
      have lG := s7 _ _ hl6
      generalize upd H' t (.tup [.int i, .int n]) = G at sG pG lG ⊢
      refine ⟨_, rfl, n, rfl, ?_⟩
      have m0 : 0 ≤ (if n < 0 then -n else n) := by split <;> lia
      generalize (if n < 0 then -n else n) = m at m0 ⊢
      refine ⟨_, rfl, _, _, rfl, rfl, .inr ⟨by decide, by decide⟩, _, rfl, _, _, rfl, rfl, _, _, rfl, rfl, (by show (0 : Int) < 2147483629; decide), ?_⟩
      obtain ⟨c0, c1⟩ := emod_in (bs * 31 + m) (m := 2147483629) (by decide)
      dsimp only
      generalize (bs * 31 + m) % 2147483629 = bt at c0 c1 ⊢
      refine ⟨_, rfl, _, _, rfl, rfl, ⟨by decide, by decide, by decide⟩, _, _, rfl, rfl, _, rfl, ite2 (fun _ => ?_) (fun _ => ?_)⟩
      · refine ⟨fun mu σ H' => ∃ (es : List Int) (m : Int), σ = [some (.ref a0), some (.int 300), some (.ref l), some (.int bt), some (.int i), some (.int n), some (.int m), v7] ∧ mu = 300 - es.length ∧ Same H H' ∧ H' p = some (.lst xs) ∧ H' l = some (.lst (es.map V.int)) ∧ es.length ≤ 300 + 2 * i,
          ⟨_, ds, m, rfl, rfl, sG, pG, lG, hd6⟩, ?_⟩
        rintro mu σ H2 ⟨es, m2, rfl, rfl, s8, hp8, hl8, hd8⟩
        have fin : ∃ (ds : List Int) (bs : Int) (v4 v5 v6 v7' : Option V), [some (.ref a0), some (.int 300), some (.ref l), some (.int bt), some (.int i), some (.int n), some (.int m2), v7] = [some (.ref a0), some (.int 300), some (.ref l), some (.int bs), v4, v5, v6, v7'] ∧ Same H H2 ∧
            H2 p = some (.lst xs) ∧ H2 l = some (.lst (ds.map V.int)) ∧ ds.length ≤ 300 + 2 * (i + 1) ∧ 0 ≤ bs ∧ bs < 2147483629 := ⟨es, bt, _, _, _, _, rfl, s8, hp8, hl8, by lia, c0, c1⟩
        refine ⟨_, rfl, _, _, rfl, rfl, _, rfl, ite2 (fun _ => ?_) (fun _ => fin)⟩
        refine ⟨_, rfl, l, _, rfl, .inl (SqL.of hl8), _, rfl, _, _, rfl, rfl, _, rfl, ite2 (fun hlt => ?_) (fun _ => fin)⟩
        have hlt' : es.length < 300 := by
          have z := of_decide_eq_true hlt
          rw [List.length_map] at z
          lia
        refine ⟨fun σ' H' => ∃ (e : Int) (m : Int), σ' = [some (.ref a0), some (.int 300), some (.ref l), some (.int bt), some (.int i), some (.int n), some (.int m), v7] ∧ Same H H' ∧ H' p = some (.lst xs) ∧ H' l = some (.lst ((es ++ [e]).map V.int)),
          fun σ' H' ⟨e, m, h1, h2, h3, h4⟩ => ⟨300 - (es ++ [e]).length, by simp; lia, es ++ [e], m, h1, rfl, h2, h3, h4, by simp; lia⟩, ?_⟩
        refine ⟨_, rfl, .inl ⟨rfl, _, SqL.of hl8⟩, _, rfl, _, _, rfl, rfl, (by show (0 : Int) < 10007; decide), l, _, _, rfl, rfl, hl8, szl (by rw [List.length_map]; lia), ?_⟩
        refine ⟨_, rfl, _, _, rfl, rfl, ⟨by decide, by decide⟩, m2 % 10007, m2 / 10007, rfl, same_upd2 s8 hl, ?_, ?_⟩
        · rw [upd_ne npl.symm]; exact hp8
        · rw [upd_same]; simp
      · -- one
        refine ⟨_, rfl, _, _, rfl, rfl, (by show (0 : Int) < 2147483647; decide), _, rfl, _, _, rfl, rfl, _, _, rfl, rfl, _, _, rfl, rfl, .inr ⟨by decide, by decide⟩, _, _, rfl, rfl, (by show (0 : Int) < 2147483647; decide), ?_⟩
        obtain ⟨x0, x1⟩ := emod_in ((m % 2147483647 + i + 1) * 48271) (m := 2147483647) (by decide)
        dsimp only
        generalize (m % 2147483647 + (i : Int) + 1) * 48271 % 2147483647 = one at x0 x1 ⊢
        refine ⟨_, rfl, _, rfl, _, _, rfl, rfl, .inl ⟨by lia, by lia⟩, _, _, rfl, rfl, (by show (0 : Int) < 2147483629; decide), ?_⟩
        obtain ⟨y0, y1⟩ := emod_in (one * one) (m := 2147483629) (by decide)
        dsimp only
        generalize one * one % 2147483629 = two at y0 y1 ⊢
        refine ⟨_, rfl, .inl ⟨rfl, _, SqL.of lG⟩, _, rfl, _, _, rfl, rfl, ⟨by decide, by decide⟩, _, _, rfl, rfl, (by show (0 : Int) < 10007; decide), l, _, _, rfl, rfl, lG, szl (by rw [List.length_map]; lia), ?_⟩
        have l8 : (upd G l (.lst (ds.map V.int ++ [V.int (two / 8 % 10007)]))) l = some (.lst ((ds ++ [two / 8 % 10007]).map V.int)) := by rw [upd_same]; simp
        have p8 : (upd G l (.lst (ds.map V.int ++ [V.int (two / 8 % 10007)]))) p = some (.lst xs) := by rw [upd_ne npl.symm]; exact pG
        have s8 : Same H (upd G l (.lst (ds.map V.int ++ [V.int (two / 8 % 10007)]))) := same_upd2 sG hl
        generalize upd G l (.lst (ds.map V.int ++ [V.int (two / 8 % 10007)])) = G8 at l8 p8 s8 ⊢
        refine ⟨_, rfl, _, _, rfl, rfl, .inr ⟨by decide, by decide⟩, _, rfl, _, _, rfl, rfl, .inl ⟨by decide, by decide⟩, _, _, rfl, rfl, _, _, rfl, rfl, _, _, rfl, rfl, (by show (0 : Int) < 2147483563; decide), ?_⟩
        obtain ⟨z0, z1⟩ := emod_in (two * 40692 + 2 * i + 1) (m := 2147483563) (by decide)
        dsimp only
        generalize (two * 40692 + 2 * (i : Int) + 1) % 2147483563 = three at z0 z1 ⊢
        refine ⟨_, rfl, _, rfl, _, _, rfl, rfl, .inl ⟨by lia, by lia⟩, _, _, rfl, rfl, (by show (0 : Int) < 2147483647; decide), ?_⟩
        dsimp only
        generalize three * three % 2147483647 = four
        refine ⟨_, rfl, .inl ⟨rfl, _, SqL.of l8⟩, _, rfl, _, _, rfl, rfl, ⟨by decide, by decide⟩, _, _, rfl, rfl, (by show (0 : Int) < 10007; decide), l, _, _, rfl, rfl, l8, szl (by rw [List.length_map, List.length_append]; simp; lia), ?_⟩
        refine ⟨ds ++ [two / 8 % 10007] ++ [four / 8 % 10007], bt, _, _, _, _, rfl, same_upd2 s8 hl, ?_, ?_, by simp; lia, c0, c1⟩
        · rw [upd_ne npl.symm]; exact p8
        · rw [upd_same]; simp
    · rintro σ H6 ⟨ds, bs, v4, v5, v6, v7, rfl, s6, hp6, hl6, hd6, b0, b1⟩
      have el : (((ds.map V.int).length : Nat) : Int) = (ds.length : Int) := by simp
      refine ⟨_, rfl, _, rfl, l, _, rfl, .inl (SqL.of hl6), _, _, rfl, rfl, _, rfl, ?_⟩
      rw [el]
      refine ⟨by lia, by lia, ?_⟩
      refine for_range (n := (300 - (ds.length : Int)).toNat) (fun j σ H' => ∃ (es : List Int) (v4 v5 v6 v7 : Option V), σ = [some (.ref a0), some (.int 300), some (.ref l), some (.int bs), v4, v5, v6, v7] ∧ Same H H' ∧ H' l = some (.lst (es.map V.int)) ∧ es.length = ds.length + j)
        ⟨ds, _, _, _, _, rfl, s6, hl6, rfl⟩ ?_ ?_
      · rintro j σ H' hj ⟨es, w4, w5, w6, w7, rfl, s8, hl8, hd8⟩
        refine ⟨_, rfl, _, rfl, _, _, rfl, rfl, .inl ⟨by decide, by decide⟩, _, _, rfl, rfl, _, _, rfl, rfl, _, _, rfl, rfl, (by show (0 : Int) < 2147483629; decide), ?_⟩
        obtain ⟨x0, x1⟩ := emod_in (bs + 7919 * (0 + (j : Int)) + 13) (m := 2147483629) (by decide)
        dsimp only
        generalize (bs + 7919 * (0 + (j : Int)) + 13) % 2147483629 = one at x0 x1 ⊢
        refine ⟨_, rfl, _, rfl, _, _, rfl, rfl, .inl ⟨by lia, by lia⟩, _, _, rfl, rfl, (by show (0 : Int) < 2147483647; decide), ?_⟩
        obtain ⟨y0, y1⟩ := emod_in (one * one) (m := 2147483647) (by decide)
        dsimp only
        generalize one * one % 2147483647 = two at y0 y1 ⊢
        refine ⟨_, rfl, _, _, rfl, rfl, .inr ⟨by decide, by decide⟩, _, rfl, _, _, rfl, rfl, _, _, rfl, rfl, (by show (0 : Int) < 2147483563; decide), ?_⟩
        obtain ⟨z0, z1⟩ := emod_in (two * 69621 + (0 + (j : Int))) (m := 2147483563) (by decide)
        dsimp only
        generalize (two * 69621 + (0 + (j : Int))) % 2147483563 = three at z0 z1 ⊢
        refine ⟨_, rfl, .inl ⟨rfl, _, SqL.of hl8⟩, _, rfl, _, rfl, _, _, rfl, rfl, .inl ⟨by lia, by lia⟩, _, _, rfl, rfl, (by show (0 : Int) < 2147483629; decide), _, _, rfl, rfl, ⟨by decide, by decide⟩, _, _, rfl, rfl, (by show (0 : Int) < 10007; decide), l, _, _, rfl, rfl, hl8, szl (by rw [List.length_map]; lia), ?_⟩
        refine ⟨es ++ [three * three % 2147483629 / 8 % 10007], _, _, _, _, rfl, same_upd2 s8 hl, ?_, by simp; lia⟩
        rw [upd_same]; simp
      · rintro σ H' ⟨es, w4, w5, w6, w7, rfl, s8, hl8, hd8⟩
        exact ⟨_, rfl, k l H' es hl s8 hl8 (by lia)⟩
end
end Hv
namespace Hv
open PySem L2
inductive spLaw (K : PySem.W.Frag) (vs : List V) (H : Hp) (Q : VK) (E : XK) : Prop
  | mk : ∀ (a : Addr) (ns : List Int), (vs = [.ref a]) → (SqL K H a (ns.map V.int)) → (ns.length ≤ 63) → (∀ H', Q (.bl true) H') → spLaw K vs H Q E
end Hv
namespace Hv
open PySem L2
inductive spCountEven (vs : List V) (H : Hp) (Q : VK) (E : XK) : Prop
  | mk : ∀ f a c b ps ws, (vs = [.ref f]) → (FrAt H f a c b ps ws) → (∀ (row : List Int) (H' : Hp), Same H H' → (Ma.cuts ps ws)[0]? = some row → Q (.int (Me.tot (Me.evenL b (Ma.cuts ps ws) (Me.keys (Me.waysW b row))))) H') → spCountEven vs H Q E
theorem ints_vals (g : List (Int × Int)) : (intsD g).map (·.2) = (g.map (·.2)).map V.int := by simp [intsD]
theorem St7.ints {H : Hp} {s q x : Addr} {ds ns : List Int} (S : St7 H s q ds) (h : H x = some (.lst (ns.map V.int))) : x ∉ [s] := fun z => by
  obtain ⟨c, e⟩ := S.hs
  have z' : x = s := by simpa using z
  rw [z', e] at h
  have h2 : [V.ref q, V.int c] = ns.map V.int := by injection h with h; injection h
  cases ns with
  | nil => cases h2
  | cons d r => cases h2
theorem St7.other {H : Hp} {s q x : Addr} {ds : List Int} {o : HO} (S : St7 H s q ds) (h : H x = some o) (ho : ∀ xs, o ≠ .lst xs) : x ∉ [s] := fun z => by
  obtain ⟨c, e⟩ := S.hs
  have z' : x = s := by simpa using z
  rw [z', e] at h
  exact ho _ (Option.some.inj h).symm
theorem FrAt.kp7 {H H' : Hp} {f a c s q : Addr} {b : Nat} {ps : List Nat} {ws ds : List Int} (G : FrAt H f a c b ps ws) (S : St7 H s q ds) (k : Kp [s] H H') : FrAt H' f a c b ps ws :=
  ⟨k _ _ G.tp (S.other G.tp (fun xs z => nomatch z)), k _ _ G.hp (S.ints (by rw [← natV_eq]; exact G.hp)), k _ _ G.hw (S.ints G.hw), G.ok⟩
section
variable {P : Program} {w : World} {K : PySem.W.Frag} {mg : Str → Option Value} {base : Heap}
theorem scCountEven : FnScope ["frame"] ["frame"] (defScope sCountEven) := ⟨rfl, rfl, rfl, by decide +kernel, rfl, by decide +kernel, by decide +kernel⟩
theorem ok_counteven {f : Addr} {fd : FuncData} (F : Fun K "count_even" "count_even" sCountEven f fd) (T : Txt mg) (DE : Def P w K mg base 6 "even_by_sums" ["frame"] spEvenBy) : FnOk P w K mg base CX0 7 f fd ["frame"] spCountEven := by
  refine F.ok scCountEven (fun vs H Q E h => ?_) (fun cdv A outer s H vs Q E hr h => ?_)
  · obtain ⟨g, a, c, b, ps, ws, rfl, _⟩ := h; rfl
  · obtain ⟨g, a, c, b, ps, ws, rfl, G, k⟩ := h
    refine ⟨_, pss_one (ps_ret (pe_svals rfl T.sum (by rfl) (pe_fn DE hr (by rfl) (pa_cons (pv 0) pa_nil)))), ?_⟩
    refine ⟨_, rfl, g, a, c, b, ps, ws, rfl, G, fun p g' H1 hp s1 hp1 ⟨row, hrow, perm⟩ => ⟨p, _, g'.map (·.2), rfl, hp1, ints_vals g', ?_⟩⟩
    have e := Me.tot_perm perm
    show Q (.int (Me.tot g')) H1
    rw [e]
    exact k row H1 s1 hrow
inductive spWaysPart (vs : List V) (H : Hp) (Q : VK) (E : XK) : Prop
  | mk : ∀ f a c b ps ws, ∀ (j : Nat) (row : List Int), (vs = [.ref f, .int j]) → (FrAt H f a c b ps ws) → ((Ma.cuts ps ws)[j]? = some row) → (∀ p H' g, H p = none → Same H H' → H' p = some (.dK (intsD g)) → g.Perm (Me.waysW b row) → Q (.ref p) H') → spWaysPart vs H Q E
theorem scWaysPart : FnScope ["frame", "part"] ["frame", "part"] (defScope sWaysPart) := ⟨rfl, rfl, rfl, by decide +kernel, rfl, by decide +kernel, by decide +kernel⟩
theorem ok_wayspart {f : Addr} {fd : FuncData} (F : Fun K "ways_of_part" "ways_of_part" sWaysPart f fd) (T : Txt mg) (D5 : Def P w K mg base 5 "need_frame" ["thing"] spNeedFrame) (D1 : Def P w K mg base 1 "is_whole" ["thing"] spWhole) (DC : Def P w K mg base 1 "cut_by_parts" ["frame", "row"] spCut)
    (DV : Def P w K mg base 2 "ways_of_weights" ["base", "weights"] spWaysW) : FnOk P w K mg base CX0 6 f fd ["frame", "part"] spWaysPart := by
  refine F.ok scWaysPart (fun vs H Q E h => ?_) (fun cdv A outer s H vs Q E hr h => ?_)
  · obtain ⟨g, a, c, b, ps, ws, j, row, rfl, _⟩ := h; rfl
  · obtain ⟨g, a, c, b, ps, ws, j, row, rfl, G, hj, k⟩ := h
    have hjl : j < ps.length := by
      have := (List.getElem?_eq_some_iff.mp hj).1
      rwa [Ma.cuts_len] at this
    refine ⟨_, pss_cons (ps_expr (pe_fn D5 hr (by rfl) (pa_cons (pv 0) pa_nil)))
      (pss_cons (ps_if (PW.pt (pw_or (pt_not (pt_val (pe_fn D1 (hr.mono (by decide)) (by rfl) (pa_cons (pv 1) pa_nil)))) (pw_or1 (pt_not (pt_chain op_le op_lt pe_int (pv 1) (lenS T.len (by rfl) (ixt (pv 0) pe_int))))))) pss_never pss_nil)
      (pss_one (ps_ret (pe_fn DV (hr.mono (by decide)) (by rfl) (pa_cons (ixt (pv 0) pe_int) (pa_cons (ixl (pe_fn DC (hr.mono (by decide)) (by rfl) (pa_cons (pv 0) (pa_cons (ixt (pv 0) pe_int) pa_nil))) (pv 1)) pa_nil)))))), ?_⟩
    refine ⟨_, rfl, g, a, c, b, ps, ws, rfl, G, fun H1 s1 => ?_⟩
    have G1 := G.keep s1
    refine ⟨_, rfl, .int j, rfl, .int _, _, rfl, iteF ?_⟩
    refine ⟨_, rfl, _, _, rfl, rfl, _, rfl, ite2 (fun _ => ?_) (fun h => absurd (decide_eq_true (by lia)) h)⟩
    refine ⟨_, rfl, _, _, _, _, rfl, rfl, SqT.of G1.tp, rfl, a, _, rfl, .inl (SqL.of G1.hp), _, _, rfl, rfl, _, rfl, ?_⟩
    have e3 : ((natV ps).length : Int) = ps.length := by simp [natV]
    refine iteNS (by lia) ?_
    refine ⟨_, rfl, _, _, _, _, rfl, rfl, SqT.of G1.tp, rfl, _, rfl, _, rfl, _, _, _, _, rfl, rfl, SqT.of G1.tp, rfl, g, a, c, b, ps, ws, c, ws, rfl, G1, G1.hw, fun p qs H2 s2 hp rows => ?_⟩
    have hql : j < qs.length := by
      have e : qs.length = (Ma.cuts ps ws).length := rows.length
      rw [e, Ma.cuts_len]; exact hjl
    obtain ⟨row', hr1, hr2⟩ := rows_get (i := j) (q := qs[j]) rows (by simp [hql])
    have er : row' = row := by rw [hj] at hr1; exact (Option.some.inj hr1).symm
    subst er
    refine ⟨_, rfl, p, _, (j : Int), .ref qs[j], rfl, rfl, SqL.of hp, atI_nat (by simp [hql]), b, qs[j], _, rfl, hr2, G.ok.b16, fun x hx => G.ok.wr x (Ma.cuts_mem (List.mem_of_getElem? hj) x hx), Ma.cuts_short (fun p hp => (G.ok.pr p hp).2) (List.mem_of_getElem? hj), fun p' H3 gg np s3 hp3 hg => ?_⟩
    exact k p' H3 gg (s1.free (s2.free np)) (s1.trans (s2.trans s3)) hp3 hg
end
end Hv
namespace L2
theorem while_exit {c : TT} {tb : TS} {D : Ends} {σ : St} {H : Hp} (M : St → Hp → Prop) (key : ∀ σ H, M σ H → D.nx σ H) (main : (∀ σ H, M σ H → D.nx σ H) → tWhile c tb D σ H) : tWhile c tb D σ H := main key
end L2
namespace Hv
open PySem L2
structure PsOk (qs : List Nat) : Prop where
  l2 : 2 ≤ qs.length
  l4 : qs.length ≤ 4
  pr : ∀ p ∈ qs, 1 ≤ p ∧ p ≤ 6
theorem one_less {qs : List Nat} {j x : Nat} (h : qs[j]? = some x) (hx : 2 ≤ x) (o : PsOk qs) : PsOk (qs.take j ++ [x - 1] ++ qs.drop (j + 1)) ∧ (qs.take j ++ [x - 1] ++ qs.drop (j + 1)).sum + 1 = qs.sum := by
  have hj : j < qs.length := (List.getElem?_eq_some_iff.mp h).1
  have e : qs = qs.take j ++ [x] ++ qs.drop (j + 1) := by
    conv => lhs; rw [← List.take_append_drop j qs, List.drop_eq_getElem_cons hj]
    have : qs[j] = x := by rw [List.getElem?_eq_getElem hj] at h; exact Option.some.inj h
    rw [this]; simp
  have hl : (qs.take j ++ [x - 1] ++ qs.drop (j + 1)).length = qs.length := by
    simp only [List.length_append, List.length_take, List.length_drop, List.length_cons, List.length_nil]; lia
  refine ⟨⟨by rw [hl]; exact o.l2, by rw [hl]; exact o.l4, fun p hp => ?_⟩, ?_⟩
  · rcases List.mem_append.mp hp with hp | hp
    · rcases List.mem_append.mp hp with hp | hp
      · exact o.pr p (List.mem_of_mem_take hp)
      · have : p = x - 1 := by simpa using hp
        have := o.pr x (List.mem_of_getElem? h)
        lia
    · exact o.pr p (List.mem_of_mem_drop hp)
  · have e2 := congrArg List.sum e
    simp only [List.sum_append, List.sum_cons, List.sum_nil] at e2 ⊢
    lia
inductive spSmall (vs : List V) (H : Hp) (Q : VK) (E : XK) : Prop
  | mk : ∀ (s q : Addr) (ds : List Int) (m : Int), (vs = [.ref s, .int m]) → (St7 H s q ds) → (256 ≤ m) → (m ≤ 3000) → (∀ f a c b ps ws H', St7 H' s q ds → Kp [s] H H' → FrAt H' f a c b ps ws → b ^ ps.sum ≤ 3000 → Q (.ref f) H') → spSmall vs H Q E
section
variable {P : Program} {w : World} {K : PySem.W.Frag} {mg : Str → Option Value} {base : Heap}
theorem scSmallFrame : FnScope ["store", "most", "base", "parts", "weights", "many", "turn", "at"] ["store", "most"] (defScope sSmallFrame) := ⟨rfl, rfl, rfl, by decide +kernel, rfl, by decide +kernel, by decide +kernel⟩
theorem ok_small {f : Addr} {fd : FuncData} (F : Fun K "_law_small_frame" "_law_small_frame" sSmallFrame f fd) (T : Txt mg) (DF : Def P w K mg base 2 "_law_frame" ["store", "most"] spFrame7) : FnOk P w K mg base CX0 3 f fd ["store", "most"] spSmall := by
  refine F.ok scSmallFrame (fun vs H Q E h => ?_) (fun cdv A outer s H vs Q E hr h => ?_)
  · obtain ⟨a, q, ds, L, rfl, _⟩ := h; rfl
  · obtain ⟨st, l, ds, most, rfl, S, hm1, hm2, k⟩ := h
    have nd := scSmallFrame.nd
    refine ⟨_, pss_cons (ps_asg (pe_fn DF hr (by rfl) (pa_cons (pv 0) (pa_cons pe_int pa_nil))) (pg_tup rfl (pgs_cons (pg_name (i := 2) nd rfl (Or.inl rfl)) (pgs_cons (pg_name (i := 3) nd rfl (Or.inl rfl)) (pgs_cons (pg_name (i := 4) nd rfl (Or.inl rfl)) pgs_nil)))))
      (pss_cons (ps_set (i := 5) nd rfl (Or.inl rfl) pe_int)
      (pss_cons (ps_for PassesOwn.never rfl (pi_range1 (by rfl) T.range (pa_cons (pe_callB (call_sumA rfl) (by rfl) T.sum boot_sum (pa_cons (pv 3) pa_nil)) pa_nil)) (pg_name (i := 6) nd rfl (Or.inl rfl))
        (pss_one (ps_set (i := 5) nd rfl (Or.inl rfl) (pe_op op_mul (pv 5) (pv 2)))))
      (pss_cons (ps_while PassesOwn.never (PW.pt (pw_and (pt_cmpR op_gt (pv 5) (pv 1) (nomark _)) (pw_and1 (pt_cmpR op_gt (pe_callB (call_maxL rfl) (by rfl) T.max boot_max (pa_cons (pv 3) pa_nil)) pe_int (nomark _)))))
        (pss_cons (ps_set (i := 7) nd rfl (Or.inl rfl) (pe_bm PySem.F.plainAttrs_list PySem.F.slot_list_index PySem.F.type_list_index mt_index (pv 3) (pa_cons (pe_callB (call_maxL rfl) (by rfl) T.max boot_max (pa_cons (pv 3) pa_nil)) pa_nil)))
        (pss_cons (ps_set (i := 3) nd rfl (Or.inl rfl) (pe_op op_cat (pe_op op_cat (pe_slice sl_list (pv 3) po_none (po_some (pv 7))) (pe_lst (pa_cons (pe_op op_sub (ixl (pv 3) (pv 7)) pe_int) pa_nil))) (pe_slice sl_list (pv 3) (po_some (pe_op op_add (pv 7) pe_int)) po_none)))
        (pss_one (ps_set (i := 5) nd rfl (Or.inl rfl) (pe_op op_fdiv (pv 5) (pv 2)))))))
      (pss_cons (ps_while PassesOwn.never (PW.pt (pw_and (pt_cmpR op_gt (pv 5) (pv 1) (nomark _)) (pw_and1 (pt_cmpR op_gt (lenS T.len (by rfl) (pv 3)) pe_int (nomark _)))))
        (pss_cons (ps_set (i := 3) nd rfl (Or.inl rfl) (pe_slice sl_list (pv 3) (po_some pe_int) po_none))
        (pss_one (ps_set (i := 5) nd rfl (Or.inl rfl) (pe_op op_fdiv (pv 5) (pv 2))))))
      (pss_one (ps_ret (pe_tup (pa_cons (pv 2) (pa_cons (pv 3) (pa_cons (pe_slice sl_list (pv 4) po_none (po_some (pe_callB (call_sumA rfl) (by rfl) T.sum boot_sum (pa_cons (pv 3) pa_nil)))) pa_nil)))))))))), ?_⟩
    refine ⟨_, rfl, st, l, ds, 6, rfl, S, by decide, by decide, fun g a c b ps ws H1 S1 k1 G _ _ _ => ⟨g, _, rfl, SqT.of G.tp, rfl, _, _, rfl, _, _, rfl, _, _, rfl, rfl, ?_⟩⟩
    have ok := G.ok
    have b2 := ok.b2
    have b16 := ok.b16
    have hsum := ok.sum
    refine ⟨_, rfl, a, ps.map fun (p : Nat) => (p : Int), rfl, SqL.of (by rw [← natV_eq]; exact G.hp), _, rfl, ?_⟩
    rw [Ma.sum_cast]
    refine ⟨by lia, by lia, ?_⟩
    refine for_range (n := (((ps.sum : Nat) : Int)).toNat) (fun i σ H2 => H1 = H2 ∧ ∃ v6, σ = [some (.ref st), some (.int most), some (.int b), some (.ref a), some (.ref c), some (.int ((b ^ i : Nat) : Int)), v6, none]) ⟨rfl, none, rfl⟩ ?_ ?_
    · rintro i σ H2 _ ⟨rfl, v6, rfl⟩
      refine ⟨_, rfl, _, rfl, _, _, rfl, rfl, .inr ⟨by lia, by lia⟩, rfl, some (.int (0 + (i : Int))), ?_⟩
      rw [Nat.pow_succ]
      push_cast
      rfl
    rintro σ H2 ⟨rfl, v6, rfl⟩
    rw [Int.toNat_natCast]
    -- made shorter
    refine while_exit (fun σ H' => ∃ (q : Addr) (qs : List Nat) (v7 : Option V), σ = [some (.ref st), some (.int most), some (.int b), some (.ref q), some (.ref c), some (.int ((b ^ qs.sum : Nat) : Int)), v6, v7] ∧ Same H1 H' ∧ H' q = some (.lst (natV qs)) ∧ PsOk qs ∧ qs.sum ≤ ps.sum ∧ (((b ^ qs.sum : Nat) : Int) ≤ most ∨ ∀ p ∈ qs, p = 1)) ?key1 ?main1
    case main1 =>
      intro key
      refine ⟨fun mu σ H' => ∃ (q : Addr) (qs : List Nat) (v7 : Option V), σ = [some (.ref st), some (.int most), some (.int b), some (.ref q), some (.ref c), some (.int ((b ^ qs.sum : Nat) : Int)), v6, v7] ∧ mu = qs.sum ∧ Same H1 H' ∧ H' q = some (.lst (natV qs)) ∧ PsOk qs ∧ qs.sum ≤ ps.sum,
        ⟨_, a, ps, none, rfl, rfl, Same.refl _, G.hp, ⟨ok.l2, ok.l4, ok.pr⟩, Nat.le_refl _⟩, ?_⟩
      rintro mu σ H2 ⟨q, qs, v7, rfl, rfl, s2, hq, po, hle⟩
      refine ⟨_, rfl, _, rfl, _, _, rfl, rfl, _, rfl, ite2 (fun _ => ?_) (fun h => iteF ?_)⟩
      rotate_left
      · have : ¬ most < ((b ^ qs.sum : Nat) : Int) := fun z => h (decide_eq_true z)
        apply key
        exact ⟨q, qs, v7, rfl, s2, hq, po, hle, .inl (by lia)⟩
      have hne : 0 < (qs.map fun (p : Nat) => (p : Int)).length := by rw [List.length_map]; have := po.l2; lia
      obtain ⟨mx1, mx2⟩ := Ma.maxL_spec _ hne
      have hq' : SqL K H2 q ((qs.map fun (p : Nat) => (p : Int)).map V.int) := SqL.of (by rw [← natV_eq]; exact hq)
      refine ⟨_, rfl, q, _, rfl, hq', hne, _, _, rfl, rfl, _, rfl, ite2 (fun h1 => ?_) (fun h1 => ?_)⟩
      rotate_left
      · refine key _ _ ⟨q, qs, v7, rfl, s2, hq, po, hle, .inr fun p hp => ?_⟩
        have h2 : ¬ (1 : Int) < Ma.maxL (qs.map fun (p : Nat) => (p : Int)) := fun z => h1 (decide_eq_true z)
        have h3 := mx2 p (List.mem_map.mpr ⟨p, hp, rfl⟩)
        have h4 := po.pr p hp
        lia
      have hx1 : (1 : Int) < Ma.maxL (qs.map fun (p : Nat) => (p : Int)) := of_decide_eq_true h1
      generalize Ma.maxL (qs.map fun (p : Nat) => (p : Int)) = mx at mx1 hx1
      refine ⟨fun σ' H' => ∃ (q' : Addr) (qs' : List Nat) (v7 : Option V), σ' = [some (.ref st), some (.int most), some (.int b), some (.ref q'), some (.ref c), some (.int ((b ^ qs'.sum : Nat) : Int)), v6, v7] ∧ qs'.sum < qs.sum ∧ Same H1 H' ∧ H' q' = some (.lst (natV qs')) ∧ PsOk qs',
        fun σ' H' ⟨q', qs', v7, e1, e2, e3, e4, e5⟩ => ⟨qs'.sum, e2, q', qs', v7, e1, rfl, e3, e4, e5, by lia⟩, ?_⟩
      refine ⟨_, rfl, .inl ⟨rfl, _, hq'⟩, _, rfl, q, _, rfl, hq', hne, ?_⟩
      have em : Ma.maxL (qs.map fun (p : Nat) => (p : Int)) ∈ qs.map fun (p : Nat) => (p : Int) := (Ma.maxL_spec _ hne).1
      refine ⟨q, _, _, rfl, rfl, by rw [← natV_eq]; exact hq, em, fun j hj => ?_⟩
      obtain ⟨x, hxj, exj⟩ : ∃ x : Nat, qs[j]? = some x ∧ Ma.maxL (qs.map fun (p : Nat) => (p : Int)) = x := by
        rw [List.getElem?_map] at hj
        cases e : qs[j]? with
        | none => rw [e] at hj; cases hj
        | some d => rw [e] at hj; exact ⟨d, rfl, (Option.some.inj hj).symm⟩
      have hx2 : 2 ≤ x := by lia
      clear hx1 em mx1 mx2 hj
      have hjl : j < qs.length := (List.getElem?_eq_some_iff.mp hxj).1
      obtain ⟨po', es'⟩ := one_less hxj hx2 po
      -- the row made anew
      refine ⟨_, rfl, _, rfl, _, rfl, q, _, rfl, SqL.of hq, fun p1 hp1 => ?_⟩
      rw [cut_to]
      have t1 := same_upd (o := .lst ((natV qs).take j)) hp1
      have u1 : (upd H2 p1 (.lst ((natV qs).take j))) p1 = some (.lst ((natV qs).take j)) := upd_same
      generalize upd H2 p1 (.lst ((natV qs).take j)) = H3 at t1 u1 ⊢
      refine ⟨_, rfl, _, rfl, r_ixl (t1 _ _ hq) (atI_nat (j := j) (v := .int (x : Int)) (by rw [natV, List.getElem?_map, hxj]; rfl)) ⟨_, _, rfl, rfl, sz (by simp), fun p2 hp2 => ?_⟩⟩
      have t2 := same_upd (o := .lst [.int ((x : Int) - 1)]) hp2
      have u2 : (upd H3 p2 (.lst [.int ((x : Int) - 1)])) p2 = some (.lst [.int ((x : Int) - 1)]) := upd_same
      generalize upd H3 p2 (.lst [.int ((x : Int) - 1)]) = H4 at t2 u2 ⊢
      have l4 := po.l4
      refine ⟨p1, p2, _, _, rfl, rfl, t2 _ _ u1, u2, sz (by simp [natV]; lia), fun p3 hp3 => ?_⟩
      have t3 := same_upd (o := .lst ((natV qs).take j ++ [.int ((x : Int) - 1)])) hp3
      have u3 : (upd H4 p3 (.lst ((natV qs).take j ++ [.int ((x : Int) - 1)]))) p3 = some (.lst ((natV qs).take j ++ [.int ((x : Int) - 1)])) := upd_same
      generalize upd H4 p3 (.lst ((natV qs).take j ++ [.int ((x : Int) - 1)])) = H5 at t3 u3 ⊢
      have T3 := t1.trans (t2.trans t3)
      refine ⟨_, rfl, _, rfl, _, _, rfl, rfl, _, rfl, q, _, rfl, SqL.of (T3 _ _ hq), fun p4 hp4 => ?_⟩
      have e1 : (j : Int) + 1 = ((j + 1 : Nat) : Int) := by push_cast; rfl
      rw [e1, cut_from]
      have t4 := same_upd (o := .lst ((natV qs).drop (j + 1))) hp4
      have u4 : (upd H5 p4 (.lst ((natV qs).drop (j + 1)))) p4 = some (.lst ((natV qs).drop (j + 1))) := upd_same
      generalize upd H5 p4 (.lst ((natV qs).drop (j + 1))) = H6 at t4 u4 ⊢
      refine ⟨p3, p4, _, _, rfl, rfl, t4 _ _ u3, u4, sz (by simp [natV]; lia), fun p5 hp5 => ?_⟩
      have T5 := (T3.trans t4).trans (same_upd (o := .lst ((natV qs).take j ++ [.int ((x : Int) - 1)] ++ (natV qs).drop (j + 1))) hp5)
      refine ⟨_, rfl, _, rfl, _, _, rfl, rfl, ⟨by lia, by lia⟩, p5, qs.take j ++ [x - 1] ++ qs.drop (j + 1), some (.int j), ?_, by lia, s2.trans T5, ?_, po'⟩
      · have e2 : b ^ qs.sum / b = b ^ (qs.take j ++ [x - 1] ++ qs.drop (j + 1)).sum := by
          rw [← es', Nat.pow_succ, Nat.mul_div_cancel _ (by lia)]
        rw [← e2]
        push_cast
        rfl
      · rw [upd_same]
        simp only [natV, List.map_append, List.map_take, List.map_drop, List.map_cons, List.map_nil]
        rw [show ((x - 1 : Nat) : Int) = (x : Int) - 1 by lia]
    case key1 =>
      rintro σ H2 ⟨q, qs, v7, rfl, s2, hq, po, hle, hmo⟩
      refine while_exit (fun σ H' => ∃ (q : Addr) (qs : List Nat), σ = [some (.ref st), some (.int most), some (.int b), some (.ref q), some (.ref c), some (.int ((b ^ qs.sum : Nat) : Int)), v6, v7] ∧ Same H1 H' ∧ H' q = some (.lst (natV qs)) ∧ PsOk qs ∧ qs.sum ≤ ps.sum ∧ b ^ qs.sum ≤ 3000) ?key2 ?main2
      case main2 =>
        intro key
        refine ⟨fun mu σ H' => ∃ (q : Addr) (qs : List Nat), σ = [some (.ref st), some (.int most), some (.int b), some (.ref q), some (.ref c), some (.int ((b ^ qs.sum : Nat) : Int)), v6, v7] ∧ mu = qs.sum ∧ Same H1 H' ∧ H' q = some (.lst (natV qs)) ∧ PsOk qs ∧ qs.sum ≤ ps.sum ∧ (((b ^ qs.sum : Nat) : Int) ≤ most ∨ ∀ p ∈ qs, p = 1),
          ⟨_, q, qs, rfl, rfl, s2, hq, po, hle, hmo⟩, ?_⟩
        clear hmo hle po hq s2
        rintro mu σ H3 ⟨q, qs, rfl, rfl, s2, hq, po, hle, hmo⟩
        refine ⟨_, rfl, _, rfl, _, _, rfl, rfl, _, rfl, ite2 (fun h => ?_) (fun h => iteF (key _ _ ⟨q, qs, rfl, s2, hq, po, hle, ?_⟩))⟩
        rotate_left
        · have : ¬ most < ((b ^ qs.sum : Nat) : Int) := fun z => h (decide_eq_true z)
          lia
        have hgt : most < ((b ^ qs.sum : Nat) : Int) := of_decide_eq_true h
        have ones : ∀ p ∈ qs, p = 1 := hmo.resolve_left (by lia)
        have es : ∀ (qs : List Nat), (∀ p ∈ qs, p = 1) → qs.sum = qs.length := fun qs => by
          induction qs with
          | nil => intro _; rfl
          | cons p r ih =>
            intro h
            rw [List.sum_cons, ih fun y hy => h y (by simp [hy]), h p (by simp), List.length_cons]
            lia
        have esq := es qs ones
        refine ⟨_, rfl, q, _, rfl, .inl (SqL.of hq), _, _, rfl, rfl, _, rfl, ite2 (fun h1 => ?_) (fun h1 => ?_)⟩
        rotate_left
        · have h2 : ¬ (2 : Int) < (((natV qs).length : Nat) : Int) := fun z => h1 (decide_eq_true z)
          have h3 : (natV qs).length = qs.length := by simp [natV]
          have h4 : qs.sum = 2 := by have := po.l2; lia
          refine key _ _ ⟨q, qs, rfl, s2, hq, po, hle, ?_⟩
          rw [h4]
          have : b ^ 2 ≤ 16 ^ 2 := Nat.pow_le_pow_left b16 2
          lia
        have h2 : (2 : Int) < (((natV qs).length : Nat) : Int) := of_decide_eq_true h1
        have h3 : (natV qs).length = qs.length := by simp [natV]
        cases qs with
        | nil => exact absurd po.l2 (by simp)
        | cons y r =>
          have hy : y = 1 := ones y (by simp)
          subst hy
          have hl5 : (natV (1 :: r)).length = r.length + 1 := by simp [natV]
          have po2 : PsOk r := ⟨by lia, by have := po.l4; rw [List.length_cons] at this; lia, fun p hp => po.pr p (by simp [hp])⟩
          refine ⟨fun σ' H' => ∃ (q' : Addr), σ' = [some (.ref st), some (.int most), some (.int b), some (.ref q'), some (.ref c), some (.int ((b ^ r.sum : Nat) : Int)), v6, v7] ∧ Same H1 H' ∧ H' q' = some (.lst (natV r)),
            fun σ' H' ⟨q', e1, e2, e3⟩ => ⟨r.sum, by rw [List.sum_cons]; lia, q', r, e1, rfl, e2, e3, po2, by rw [List.sum_cons] at hle; lia, .inr fun p hp => ones p (by simp [hp])⟩, ?_⟩
          refine ⟨_, rfl, _, rfl, q, _, rfl, SqL.of hq, fun p1 hp1 => ?_⟩
          refine ⟨_, rfl, _, rfl, _, _, rfl, rfl, ⟨by lia, by lia⟩, p1, ?_, s2.trans (same_upd hp1), ?_⟩
          · have e2 : b ^ (1 :: r).sum / b = b ^ r.sum := by
              rw [List.sum_cons, Nat.add_comm, Nat.pow_succ, Nat.mul_div_cancel _ (by lia)]
            rw [← e2]
            push_cast
            rfl
          · rw [upd_same, show (1 : Int) = ((1 : Nat) : Int) from rfl, cut_from]
            rfl
      case key2 =>
        clear hmo hle po hq s2
        rintro σ H3 ⟨q, qs, rfl, s2, hq, po, hle, h3000⟩
        have G3 := G.keep s2
        refine ⟨_, rfl, _, rfl, _, rfl, _, rfl, q, qs.map fun (p : Nat) => (p : Int), rfl, SqL.of (by rw [← natV_eq]; exact hq), _, rfl, c, _, rfl, SqL.of G3.hw, fun p1 hp1 => ⟨sz (by simp), fun f' hf' => ?_⟩⟩
        rw [Ma.sum_cast, cut_to] at *
        have t1 := same_upd (o := .lst ((ws.map V.int).take qs.sum)) hp1
        have u1 : (upd H3 p1 (.lst ((ws.map V.int).take qs.sum))) p1 = some (.lst ((ws.map V.int).take qs.sum)) := upd_same
        generalize upd H3 p1 (.lst ((ws.map V.int).take qs.sum)) = H4 at t1 u1 hf' ⊢
        have t2 := same_upd (o := .tup [.int b, .ref q, .ref p1]) hf'
        have T := s2.trans (t1.trans t2)
        refine k f' q p1 b qs (ws.take qs.sum) _ (S1.keep T) (k1.same T) ⟨upd_same, t2 _ _ (t1 _ _ hq), t2 _ _ (by rw [u1, List.map_take]), ⟨b2, b16, po.l2, po.l4, po.pr, ?_, fun y hy => ok.wr y (List.mem_of_mem_take hy)⟩⟩ h3000
        rw [List.length_take, ok.wl]
        lia
end
end Hv
namespace Hv
open PySem L2
inductive spSumsOf (vs : List V) (H : Hp) (Q : VK) (E : XK) : Prop
  | mk : ∀ f a c b ps ws, ∀ n : Nat, (vs = [.ref f, .int n]) → (FrAt H f a c b ps ws) → (n < b ^ ps.sum) → (∀ r H', H r = none → Same H H' → H' r = some (.lst ((Mg.sumsN b n ps ws).map V.int)) → Q (.ref r) H') → spSumsOf vs H Q E
theorem atI_natE {xs : List V} {i : Int} {j : Nat} {v : V} (e : i = (j : Int)) (h : xs[j]? = some v) : atI xs i = some v := by rw [e]; exact atI_nat h
theorem back_sum {x : List Int} {E t : Nat} {y : Int} (h : x[E - (t + 1)]? = some y) (hE : t + 1 ≤ E) : ((x.drop (E - (t + 1))).take (t + 1)).sum = ((x.drop (E - t)).take t).sum + y := by
  have hj := (List.getElem?_eq_some_iff.mp h).1
  have e : x[E - (t + 1)] = y := by rw [List.getElem?_eq_getElem hj] at h; exact Option.some.inj h
  rw [List.drop_eq_getElem_cons hj, e, List.take_succ_cons, List.sum_cons, show E - (t + 1) + 1 = E - t by lia]
  lia
section
variable {P : Program} {w : World} {K : PySem.W.Frag} {mg : Str → Option Value} {base : Heap}
theorem scSumsOf : FnScope ["frame", "n", "found", "at", "size", "total", "turn"] ["frame", "n"] (defScope sSumsOf) := ⟨rfl, rfl, rfl, by decide +kernel, rfl, by decide +kernel, by decide +kernel⟩
theorem ok_sumsof {f : Addr} {fd : FuncData} (F : Fun K "_law_sums_of" "_law_sums_of" sSumsOf f fd) (T : Txt mg) : FnOk P w K mg base CX0 1 f fd ["frame", "n"] spSumsOf := by
  refine F.ok scSumsOf (fun vs H Q E h => ?_) (fun cdv A outer s H vs Q E hr h => ?_)
  · obtain ⟨g, a, c, b, ps, ws, n, rfl, _⟩ := h; rfl
  · obtain ⟨g, a, c, b, ps, ws, n0, rfl, G, hn, k⟩ := h
    have nd := scSumsOf.nd
    have ok := G.ok
    have b2 := ok.b2
    have b16 := ok.b16
    have l4 := ok.l4
    have hsum := ok.sum
    have hxl : (Ma.wts b n0 ps.sum ws).length = ps.sum := Ma.wts_len _ _ _ _ ok.wl
    refine ⟨_, pss_cons (ps_set (i := 2) nd rfl (Or.inl rfl) (pe_lst pa_nil))
      (pss_cons (ps_set (i := 3) nd rfl (Or.inl rfl) (lenS T.len (by rfl) (ixt (pv 0) pe_int)))
      (pss_cons (ps_for PassesOwn.never rfl (pi_list (pe_srev (ixt (pv 0) pe_int) (pe_un un_neg pe_int))) (pg_name (i := 4) nd rfl (Or.inl rfl))
        (pss_cons (ps_set (i := 5) nd rfl (Or.inl rfl) pe_int)
        (pss_cons (ps_for PassesOwn.never rfl (pi_range1 (by rfl) T.range (pa_cons (pv 4) pa_nil)) (pg_name (i := 6) nd rfl (Or.inl rfl))
          (pss_cons (ps_set (i := 3) nd rfl (Or.inl rfl) (pe_op op_sub (pv 3) pe_int))
          (pss_cons (ps_set (i := 5) nd rfl (Or.inl rfl) (pe_op op_add (pv 5) (pe_op op_mul (pe_op op_mod (pv 1) (ixt (pv 0) pe_int)) (ixl (ixt (pv 0) pe_int) (pv 3)))))
          (pss_one (ps_set (i := 1) nd rfl (Or.inl rfl) (pe_op op_fdiv (pv 1) (ixt (pv 0) pe_int)))))))
        (pss_one (ps_expr (pe_bm PySem.F.plainAttrs_list PySem.F.slot_list_append PySem.F.type_list_append mt_append (pv 2) (pa_cons (pv 5) pa_nil)))))))
      (pss_one (ps_ret (pe_srev (pv 2) (pe_un un_neg pe_int)))))), ?_⟩
    refine ⟨sz (by decide), fun fl hfl => ?_⟩
    have s1 : Same H (upd H fl (.lst [])) := same_upd hfl
    have u1 : (upd H fl (.lst [])) fl = some (.lst (([] : List Int).map V.int)) := upd_same
    generalize upd H fl (.lst []) = H1 at s1 u1 ⊢
    have G1 := G.keep s1
    refine ⟨_, rfl, _, _, _, _, rfl, rfl, SqT.of G1.tp, rfl, ⟨c, _, rfl, .inl (SqL.of G1.hw), ?_⟩⟩
    rw [List.length_map, ok.wl]
    refine ⟨_, rfl, _, _, _, _, rfl, rfl, SqT.of G1.tp, rfl, ⟨_, rfl, rfl, a, _, rfl, SqL.of G1.hp, fun rv hrv => ?_⟩⟩
    have s2 : Same H (upd H1 rv (.lst (natV ps).reverse)) := s1.trans (same_upd hrv)
    have u2 : (upd H1 rv (.lst (natV ps).reverse)) rv = some (.lst (natV ps).reverse) := upd_same
    have f2 := (same_upd (o := .lst (natV ps).reverse) hrv) _ _ u1
    have nrf : rv ≠ fl := fun z => by rw [z, u1] at hrv; cases hrv
    generalize upd H1 rv (.lst (natV ps).reverse) = H2 at s2 u2 f2 ⊢
    clear u1 G1 s1
    refine ⟨rv, rfl, ⟨_, SqL.of u2⟩, for_list (K := K) (a := rv) (xs := (natV ps).reverse) (fun i σ H' => ∃ (v4 v5 v6 : Option V), σ = [some (.ref g), some (.int ((n0 / b ^ (ps.sum - (ps.take (ps.length - i)).sum) : Nat) : Int)), some (.ref fl), some (.int (((ps.take (ps.length - i)).sum : Nat) : Int)), v4, v5, v6] ∧ Same H H' ∧ H' rv = some (.lst (natV ps).reverse) ∧
      H' fl = some (.lst (((Mg.sumsN b n0 ps ws).reverse.take i).map V.int))) ⟨none, none, none, by rw [Nat.sub_zero, List.take_length, Nat.sub_self, Nat.pow_zero, Nat.div_one]; rfl, s2, u2, f2⟩ (fun i σ H' _ h => by obtain ⟨_, _, _, _, _, z, _⟩ := h; exact SqL.of z) ?_ ?_⟩
    · rintro i x σ H3 hx ⟨v4, v5, v6, rfl, s3, r3, f3⟩
      have hil : i < ps.length := by
        have := (List.getElem?_eq_some_iff.mp hx).1
        simpa [natV] using this
      obtain ⟨j, hj⟩ : ∃ j, ps.length - i = j + 1 := ⟨ps.length - i - 1, by lia⟩
      have hjl : j < ps.length := by lia
      have ej : ps[j]? = some ps[j] := by simp [hjl]
      have ex : x = .int ((ps[j] : Nat) : Int) := by
        rw [List.getElem?_reverse (by simpa [natV] using hil)] at hx
        have e : (natV ps).length - 1 - i = j := by simp only [natV, List.length_map]; lia
        rw [e, natV, List.getElem?_map, ej] at hx
        exact (Option.some.inj hx).symm
      subst ex
      have hp6 := ok.pr ps[j] (List.getElem_mem hjl)
      have eB : (ps.take (j + 1)).sum = (ps.take j).sum + ps[j] := by rw [List.take_add_one, ej, List.sum_append]; simp
      have hEL : (ps.take (j + 1)).sum ≤ ps.sum := by
        have := congrArg List.sum (List.take_append_drop (j + 1) ps)
        rw [List.sum_append] at this
        lia
      have hcut := Ma.cuts_get ps (Ma.wts b n0 ps.sum ws) j ps[j] ej
      generalize ps[j] = p at eB hp6 hcut
      rw [hj]
      refine ⟨_, rfl, _, rfl, by lia, by lia, ?_⟩
      refine for_range (n := ((p : Nat) : Int).toNat) (fun t σ H' => H3 = H' ∧ ∃ v6, σ = [some (.ref g), some (.int ((n0 / b ^ (ps.sum - (ps.take (j + 1)).sum + t) : Nat) : Int)), some (.ref fl), some (.int (((ps.take (j + 1)).sum : Int) - (t : Int))), some (.int p), some (.int (((Ma.wts b n0 ps.sum ws).drop ((ps.take (j + 1)).sum - t)).take t).sum), v6]) ⟨rfl, v6, by simp⟩ ?_ ?_
      · rintro t σ H4 ht ⟨rfl, v6, rfl⟩
        have ht' : t < p := by simpa using ht
        have hpl : (ps.take (j + 1)).sum - (t + 1) < ps.sum := by lia
        have ewp : ws[(ps.take (j + 1)).sum - (t + 1)]? = some (ws[(ps.take (j + 1)).sum - (t + 1)]'(by rw [ok.wl]; exact hpl)) := by simp
        have hw9 := ok.wr _ (List.mem_of_getElem? ewp)
        generalize ws[(ps.take (j + 1)).sum - (t + 1)]'(by rw [ok.wl]; exact hpl) = wv at ewp hw9
        have hd : (Ma.dws b n0 ps.sum ps.sum)[(ps.take (j + 1)).sum - (t + 1)]? = some (n0 / b ^ (ps.sum - (ps.take (j + 1)).sum + t) % b) := by
          unfold Ma.dws
          rw [List.getElem?_map, List.getElem?_range hpl]
          simp only [Option.map_some]
          rw [show ps.sum - 1 - ((ps.take (j + 1)).sum - (t + 1)) = ps.sum - (ps.take (j + 1)).sum + t by lia]
        have hxw := Ma.wts_get hd ewp
        have G4 := G.keep s3
        refine ⟨_, rfl, _, _, rfl, rfl, ?_⟩
        refine ⟨_, rfl, _, rfl, _, rfl, _, _, _, _, rfl, rfl, SqT.of G4.tp, rfl, _, _, rfl, rfl, (by show (0 : Int) < (b : Int); lia), ?_⟩
        refine ⟨_, rfl, _, _, _, _, rfl, rfl, SqT.of G4.tp, rfl, _, rfl, ?_⟩
        have ea : ((ps.take (j + 1)).sum : Int) - (t : Int) - 1 = (((ps.take (j + 1)).sum - (t + 1) : Nat) : Int) := by lia
        refine r_ixl G4.hw (atI_natE ea (by rw [List.getElem?_map, ewp]; rfl)) ?_
        refine ⟨_, _, rfl, rfl, .inr ⟨by lia, by lia⟩, _, _, rfl, rfl, ?_⟩
        refine ⟨_, rfl, _, rfl, _, _, _, _, rfl, rfl, SqT.of G4.tp, rfl, _, _, rfl, rfl, ⟨by lia, by lia⟩, rfl, some (.int (0 + (t : Int))), ?_⟩
        have e1 : n0 / b ^ (ps.sum - (ps.take (j + 1)).sum + (t + 1)) = n0 / b ^ (ps.sum - (ps.take (j + 1)).sum + t) / b := by rw [Ma.div_up]; rfl
        rw [e1, back_sum hxw (by lia), show ((ps.take (j + 1)).sum : Int) - ((t + 1 : Nat) : Int) = ((ps.take (j + 1)).sum : Int) - (t : Int) - 1 by push_cast; lia]
        push_cast
        rfl
      · rintro σ H4 ⟨rfl, v6, rfl⟩
        rw [Int.toNat_natCast]
        refine ⟨_, rfl, .inl ⟨rfl, _, SqL.of f3⟩, _, rfl, fl, _, _, rfl, rfl, f3, szl (by rw [List.length_map, List.length_take]; lia), some (.int p), some (.int (((Ma.wts b n0 ps.sum ws).drop ((ps.take (j + 1)).sum - p)).take p).sum), v6, ?_, ?_, ?_, ?_⟩
        · rw [show ps.length - (i + 1) = j by lia, show ps.sum - (ps.take j).sum = ps.sum - (ps.take (j + 1)).sum + p by lia, show ((ps.take (j + 1)).sum : Int) - (p : Int) = (((ps.take j).sum : Nat) : Int) by lia]
        · exact same_upd2 s3 hfl
        · rw [upd_ne nrf]; exact r3
        · rw [upd_same]
          have hps : (Mg.sumsN b n0 ps ws)[j]? = some (((Ma.wts b n0 ps.sum ws).drop (ps.take j).sum).take p).sum := by
            show (Ma.psums ps (Ma.wts b n0 ps.sum ws))[j]? = _
            unfold Ma.psums
            rw [List.getElem?_map, hcut]
            rfl
          have hln : (Mg.sumsN b n0 ps ws).length = ps.length := Ma.psums_len _ _
          have er : (Mg.sumsN b n0 ps ws).reverse[i]? = some (((Ma.wts b n0 ps.sum ws).drop (ps.take j).sum).take p).sum := by
            rw [List.getElem?_reverse (by rw [hln]; exact hil), hln, show ps.length - 1 - i = j by lia]
            exact hps
          rw [show (ps.take (j + 1)).sum - p = (ps.take j).sum by lia, List.take_add_one, er]
          simp
    · rintro σ H3 ⟨v4, v5, v6, rfl, s3, r3, f3⟩
      have hln : (Mg.sumsN b n0 ps ws).length = ps.length := Ma.psums_len _ _
      have el : (natV ps).reverse.length = (Mg.sumsN b n0 ps ws).reverse.length := by simp [natV, hln]
      rw [el, List.take_length] at f3
      refine ⟨_, rfl, _, rfl, rfl, fl, _, rfl, SqL.of f3, fun r hr' => k r _ (s3.free hr') (s3.trans (same_upd hr')) ?_⟩
      rw [upd_same, ← List.map_reverse, List.reverse_reverse]
end
end Hv
namespace Hv
open PySem L2
theorem put_len (f : List (Int × Int)) (k v : Int) : (Me.put f k v).length ≤ f.length + 1 := by
  unfold Me.put
  split
  · rw [List.length_map]; lia
  · rw [List.length_append]; simp
theorem cd_yes {w : Nat → Bool} {k : Nat → Int} {n : Nat} (h : w n = true) : Mg.cd w k (n + 1) = Me.addTo (Mg.cd w k n) (k n) 1 := if_pos h
theorem cd_no {w : Nat → Bool} {k : Nat → Int} {n : Nat} (h : ¬ w n = true) : Mg.cd w k (n + 1) = Mg.cd w k n := if_neg h
theorem cd_len (w : Nat → Bool) (k : Nat → Int) : ∀ n, (Mg.cd w k n).length ≤ n
  | 0 => Nat.le_refl _
  | n + 1 => by
    have ih := cd_len w k n
    unfold Mg.cd
    split
    · have := put_len (Mg.cd w k n) (k n) ((Me.look (Mg.cd w k n) (k n)).getD 0 + 1)
      unfold Me.addTo
      lia
    · lia
noncomputable abbrev evD (b : Nat) (ps : List Nat) (ws : List Int) (N : Nat) : List (Int × Int) := Mg.cd (fun n => decide (Mg.sprd (Mg.sumsN b n ps ws) = 0)) (fun n => (Mg.sumsN b n ps ws).getD 0 0) N
noncomputable abbrev msD (b : Nat) (ps : List Nat) (ws : List Int) (N : Nat) : List (Int × Int) := Mg.cd (fun _ => true) (fun n => Mg.sprd (Mg.sumsN b n ps ws)) N
noncomputable abbrev ptD (b : Nat) (ps : List Nat) (ws : List Int) (j N : Nat) : List (Int × Int) := Mg.cd (fun _ => true) (fun n => (Mg.sumsN b n ps ws).getD j 0) N
structure Gone (H : Hp) (e m p : Addr) (qs : List Addr) (b : Nat) (ps : List Nat) (ws : List Int) (N : Nat) : Prop where
  he : H e = some (.dK (intsD (evD b ps ws N)))
  hm : H m = some (.dK (intsD (msD b ps ws N)))
  hp : H p = some (.lst (qs.map V.ref))
  hl : qs.length = ps.length
  hq : ∀ (j : Nat) (q : Addr), qs[j]? = some q → H q = some (.dK (intsD (ptD b ps ws j N)))
theorem Gone.keep {H H' : Hp} {e m p : Addr} {qs : List Addr} {b : Nat} {ps : List Nat} {ws : List Int} {N : Nat} (G : Gone H e m p qs b ps ws N) (s : Same H H') : Gone H' e m p qs b ps ws N := ⟨s _ _ G.he, s _ _ G.hm, s _ _ G.hp, G.hl, fun j q h => s _ _ (G.hq j q h)⟩
inductive spGone (vs : List V) (H : Hp) (Q : VK) (E : XK) : Prop
  | mk : ∀ f a c b ps ws, (vs = [.ref f, .int ((b ^ ps.sum : Nat) : Int)]) → (FrAt H f a c b ps ws) → (b ^ ps.sum ≤ 3000) → (∀ (r e m p : Addr) (qs : List Addr) (H' : Hp), Same H H' → H' r = some (.lst [.ref e, .ref m, .ref p]) → Gone H' e m p qs b ps ws (b ^ ps.sum) → Q (.ref r) H') → spGone vs H Q E
section
variable {P : Program} {w : World} {K : PySem.W.Frag} {mg : Str → Option Value} {base : Heap}
noncomputable abbrev nsGone : List Str := ["frame", "many", "even", "miss", "parts", "n", "sums", "by", "known", "one"]
theorem scGone : FnScope nsGone ["frame", "many"] (defScope sGone) := ⟨rfl, rfl, rfl, by decide +kernel, rfl, by decide +kernel, by decide +kernel⟩
theorem ok_gone {f : Addr} {fd : FuncData} (F : Fun K "_law_gone_through" "_law_gone_through" sGone f fd) (T : Txt mg) (DS : Def P w K mg base 1 "_law_sums_of" ["frame", "n"] spSumsOf) : FnOk P w K mg base CX0 2 f fd ["frame", "many"] spGone := by
  refine F.ok scGone (fun vs H Q E h => ?_) (fun cdv A outer s H vs Q E hr h => ?_)
  · obtain ⟨g, a, c, b, ps, ws, rfl, _⟩ := h; rfl
  · obtain ⟨g, a, c, b, ps, ws, rfl, G, h3000, k⟩ := h
    have nd := scGone.nd
    have hu := hu_of hr
    have ok := G.ok
    have b2 := ok.b2
    have l2 := ok.l2
    have l4 := ok.l4
    have hsl : ∀ n, (Mg.sumsN b n ps ws).length = ps.length := fun n => Ma.psums_len _ _
    refine ⟨_, pss_cons (ps_set (i := 2) nd rfl (Or.inl rfl) pe_dnewK)
      (pss_cons (ps_set (i := 3) nd rfl (Or.inl rfl) pe_dnewK)
      (pss_cons (ps_cmp1 (defScope sGone) nsGone [] [] (i := 4) nd rfl (Or.inl rfl) rfl (pi_list (ixt (pv 0) pe_int)) (fun cl C s H fp => pf_nil) (fun cl C s H fp => pe_dnewK) (by decide +kernel) (by rfl))
      (pss_cons (ps_for PassesOwn.never rfl (pi_range1 (by rfl) T.range (pa_cons (pv 1) pa_nil)) (pg_name (i := 5) nd rfl (Or.inl rfl))
        (pss_cons (ps_set (i := 6) nd rfl (Or.inl rfl) (pe_fn DS hr (by rfl) (pa_cons (pv 0) (pa_cons (pv 5) pa_nil))))
        (pss_cons (ps_set (i := 7) nd rfl (Or.inl rfl) (pe_op op_sub (pe_callB (call_maxL rfl) (by rfl) T.max boot_max (pa_cons (pv 6) pa_nil)) (pe_callB (call_minL rfl) (by rfl) T.min boot_min (pa_cons (pv 6) pa_nil))))
        (pss_cons (ps_dput hu (pv 3) (pv 7) (pe_op op_add (pe_dget2 hu (pv 3) (pv 7) pe_int ⟨rfl, rfl, rfl, rfl⟩) pe_int) rfl)
        (pss_cons (ps_cut (ps_if (pt_cmpR op_eq (pv 7) pe_int (nomark _)) (pss_one (ps_dput hu (pv 2) (ixl (pv 6) pe_int) (pe_op op_add (pe_dget2 hu (pv 2) (ixl (pv 6) pe_int) pe_int ⟨rfl, rfl, rfl, rfl⟩) pe_int) rfl)) pss_nil))
        (pss_one (ps_for PassesOwn.never rfl (pi_zip (by rfl) T.zip (pv 4) (pv 6)) (pg_tup rfl (pgs_cons (pg_name (i := 8) nd rfl (Or.inl rfl)) (pgs_cons (pg_name (i := 9) nd rfl (Or.inl rfl)) pgs_nil)))
          (pss_one (ps_dput hu (pv 8) (pv 9) (pe_op op_add (pe_dget2 hu (pv 8) (pv 9) pe_int ⟨rfl, rfl, rfl, rfl⟩) pe_int) rfl)))))))))
      (pss_one (ps_ret (pe_lst (pa_cons (pv 2) (pa_cons (pv 3) (pa_cons (pv 4) pa_nil))))))))), ?_⟩
    intro e he m hm
    have nem : e ≠ m := fun z => by rw [← z, upd_same] at hm; cases hm
    have hm0 : H m = none := (same_upd he).free hm
    have s2 : Same H (upd (upd H e (.dK [])) m (.dK [])) := (same_upd he).trans (same_upd hm)
    have e2 : (upd (upd H e (.dK [])) m (.dK [])) e = some (.dK (intsD [])) := by rw [upd_ne nem, upd_same]; rfl
    have m2 : (upd (upd H e (.dK [])) m (.dK [])) m = some (.dK (intsD [])) := upd_same
    generalize upd (upd H e (.dK [])) m (.dK []) = H2 at s2 e2 m2 ⊢
    -- the parts' dicts
    refine ⟨_, rfl, _, _, _, _, rfl, rfl, SqT.of (s2 _ _ G.tp), rfl, a, rfl, ⟨_, SqL.of (s2 _ _ G.hp)⟩, comp_list (K := K) (a := a) (xs := natV ps) (fun i ys H' => ∃ qs : List Addr, ys = qs.map V.ref ∧ qs.length = i ∧ qs.Nodup ∧ (∀ q ∈ qs, H' q = some (.dK []) ∧ H2 q = none) ∧ Same H2 H')
      ⟨[], rfl, rfl, List.nodup_nil, fun q hq => by simp at hq, Same.refl _⟩ (fun i ys H' _ h => by obtain ⟨_, _, _, _, _, t⟩ := h; exact SqL.of (t _ _ (s2 _ _ G.hp))) ?_ ?_⟩
    · rintro i x ys H3 hx ⟨qs, rfl, hql, hnd, hqs, s3⟩
      have hil : i < ps.length := by
        have := (List.getElem?_eq_some_iff.mp hx).1
        simpa [natV] using this
      refine ⟨szl (by rw [List.length_map]; lia), fun q hq => ⟨qs ++ [q], by simp, by simp [hql], ?_, fun y hy => ?_, s3.trans (same_upd hq)⟩⟩
      · refine List.nodup_append.mpr ⟨hnd, by simp, fun y hy z hz => ?_⟩
        have : z = q := by simpa using hz
        rw [this]
        exact ne_of_none (hqs y hy).1 hq
      · rcases List.mem_append.mp hy with hy | hy
        · exact ⟨(same_upd hq) _ _ (hqs y hy).1, (hqs y hy).2⟩
        · have : y = q := by simpa using hy
          rw [this]
          exact ⟨upd_same, s3.free hq⟩
    rintro ys H3 ⟨qs, rfl, hql, hnd, hqs, s3⟩ p hp
    have hql' : qs.length = ps.length := by rw [hql]; simp [natV]
    have s4 := same_upd (o := .lst (qs.map V.ref)) hp
    have p4 : (upd H3 p (.lst (qs.map V.ref))) p = some (.lst (qs.map V.ref)) := upd_same
    have hp0 : H p = none := s2.free (s3.free hp)
    generalize upd H3 p (.lst (qs.map V.ref)) = H4 at s4 p4 ⊢
    have S4 := s2.trans (s3.trans s4)
    have G0 : Gone H4 e m p qs b ps ws 0 := ⟨s4 _ _ (s3 _ _ e2), s4 _ _ (s3 _ _ m2), p4, hql', fun j q h => s4 _ _ (hqs q (List.mem_of_getElem? h)).1⟩
    have hq0 : ∀ q ∈ qs, H q = none ∧ q ≠ e ∧ q ≠ m := fun q hq => ⟨s2.free (hqs q hq).2, (fun z => by have := (hqs q hq).2; rw [z, e2] at this; cases this), (fun z => by have := (hqs q hq).2; rw [z, m2] at this; cases this)⟩
    clear hqs hp s3 s4 p4 e2 m2 s2 hql hm
    refine ⟨_, rfl, _, rfl, by lia, by lia, ?_⟩
    refine for_range (n := (((b ^ ps.sum : Nat) : Int)).toNat) (fun i σ H' => ∃ (v5 v6 v7 v8 v9 : Option V), σ = [some (.ref g), some (.int ((b ^ ps.sum : Nat) : Int)), some (.ref e), some (.ref m), some (.ref p), v5, v6, v7, v8, v9] ∧ Same H H' ∧ Gone H' e m p qs b ps ws i) ⟨_, _, _, _, _, rfl, S4, G0⟩ ?_ ?_
    · rintro i σ H5 hi ⟨v5, v6, v7, v8, v9, rfl, s5, G5⟩
      have hi' : i < b ^ ps.sum := by rw [Int.toNat_natCast] at hi; exact hi
      have ei : (0 : Int) + (i : Int) = (i : Int) := Int.zero_add _
      rw [ei]
      have hS0 : 0 < (Mg.sumsN b i ps ws).length := by rw [hsl]; lia
      refine ⟨_, rfl, _, rfl, g, a, c, b, ps, ws, i, rfl, G.keep s5, hi', fun su H6 hsu s6 h6 => ?_⟩
      have G6 := G5.keep s6
      have S6 := s5.trans s6
      refine ⟨_, rfl, su, _, rfl, SqL.of h6, hS0, _, rfl, su, _, rfl, SqL.of h6, hS0, _, _, rfl, rfl, ?_⟩
      have esp : Ma.maxL (Mg.sumsN b i ps ws) - Ma.minL (Mg.sumsN b i ps ws) = Mg.sprd (Mg.sumsN b i ps ws) := rfl
      dsimp only
      rw [esp]
      -- the misses
      have lm := cd_len (fun _ => true) (fun n => Mg.sprd (Mg.sumsN b n ps ws)) i
      refine ⟨_, rfl, m, rfl, .inl ⟨_, .inl G6.hm⟩, _, rfl, _, dget_ints (.inl G6.hm), _, _, getD_int _, rfl, _, rfl, _, rfl, m, _, rfl, dput_ints G6.hm (by lia), ?_⟩
      have em1 : Me.put (msD b ps ws i) (Mg.sprd (Mg.sumsN b i ps ws)) ((Me.look (msD b ps ws i) (Mg.sprd (Mg.sumsN b i ps ws))).getD 0 + 1) = msD b ps ws (i + 1) := (cd_yes rfl).symm
      rw [em1]
      have nsm : su ≠ m := ne_of h6 G6.hm (by intro z; cases z)
      have npm : p ≠ m := ne_of G6.hp G6.hm (by intro z; cases z)
      have h7 : (upd H6 m (.dK (intsD (msD b ps ws (i + 1))))) su = some (.lst ((Mg.sumsN b i ps ws).map V.int)) := by rw [upd_ne nsm]; exact h6
      have m7 : (upd H6 m (.dK (intsD (msD b ps ws (i + 1))))) m = some (.dK (intsD (msD b ps ws (i + 1)))) := upd_same
      have e7 : (upd H6 m (.dK (intsD (msD b ps ws (i + 1))))) e = some (.dK (intsD (evD b ps ws i))) := by rw [upd_ne nem]; exact G6.he
      have p7 : (upd H6 m (.dK (intsD (msD b ps ws (i + 1))))) p = some (.lst (qs.map V.ref)) := by rw [upd_ne npm]; exact G6.hp
      have q7 : ∀ (j : Nat) (q : Addr), qs[j]? = some q → (upd H6 m (.dK (intsD (msD b ps ws (i + 1))))) q = some (.dK (intsD (ptD b ps ws j i))) := fun j q h => by rw [upd_ne (hq0 q (List.mem_of_getElem? h)).2.2]; exact G6.hq j q h
      have S7 : Same H (upd H6 m (.dK (intsD (msD b ps ws (i + 1))))) := same_upd2 S6 hm0
      generalize upd H6 m (.dK (intsD (msD b ps ws (i + 1)))) = H7 at h7 m7 e7 p7 q7 S7 ⊢
      clear h6 G6 S6 em1
      -- the even ones
      have at0 : atI ((Mg.sumsN b i ps ws).map V.int) 0 = some (.int ((Mg.sumsN b i ps ws).getD 0 0)) := atI_nat (j := 0) (by
        rw [List.getElem?_map, List.getElem?_eq_getElem hS0, List.getD_eq_getElem?_getD, List.getElem?_eq_getElem hS0]; rfl)
      refine ⟨fun σ H' => σ = [some (.ref g), some (.int ((b ^ ps.sum : Nat) : Int)), some (.ref e), some (.ref m), some (.ref p), some (.int i), some (.ref su), some (.int (Mg.sprd (Mg.sumsN b i ps ws))), v8, v9] ∧ Same H H' ∧ H' su = some (.lst ((Mg.sumsN b i ps ws).map V.int)) ∧ H' m = some (.dK (intsD (msD b ps ws (i + 1)))) ∧
        H' e = some (.dK (intsD (evD b ps ws (i + 1)))) ∧ H' p = some (.lst (qs.map V.ref)) ∧ ∀ (j : Nat) (q : Addr), qs[j]? = some q → H' q = some (.dK (intsD (ptD b ps ws j i))), ?_, ?_⟩
      · refine ⟨_, rfl, rfl, _, rfl, ?_⟩
        by_cases hz : Mg.sprd (Mg.sumsN b i ps ws) = 0
        · rw [decide_eq_true (show V.int (Mg.sprd (Mg.sumsN b i ps ws)) = V.int 0 by rw [hz])]
          have le := cd_len (fun n => decide (Mg.sprd (Mg.sumsN b n ps ws) = 0)) (fun n => (Mg.sumsN b n ps ws).getD 0 0) i
          refine iteT ⟨_, rfl, e, rfl, .inl ⟨_, .inl e7⟩, _, rfl, su, _, 0, _, rfl, rfl, SqL.of h7, at0, _, dget_ints (.inl e7), _, _, getD_int _, rfl, _, rfl, _, rfl, su, _, 0, _, rfl, rfl, SqL.of h7, at0, e, _, rfl, dput_ints e7 (by lia), ?_⟩
          have ee1 : Me.put (evD b ps ws i) ((Mg.sumsN b i ps ws).getD 0 0) ((Me.look (evD b ps ws i) ((Mg.sumsN b i ps ws).getD 0 0)).getD 0 + 1) = evD b ps ws (i + 1) := (cd_yes (decide_eq_true hz)).symm
          rw [ee1]
          have nse : su ≠ e := ne_of h7 e7 (by intro z; cases z)
          have npe : p ≠ e := ne_of p7 e7 (by intro z; cases z)
          refine ⟨rfl, same_upd2 S7 he, by rw [upd_ne nse]; exact h7, by rw [upd_ne nem.symm]; exact m7, upd_same, by rw [upd_ne npe]; exact p7, fun j q h => by rw [upd_ne (hq0 q (List.mem_of_getElem? h)).2.1]; exact q7 j q h⟩
        · rw [decide_eq_false (show ¬ V.int (Mg.sprd (Mg.sumsN b i ps ws)) = V.int 0 from fun z => hz (by injection z))]
          have ee1 : evD b ps ws (i + 1) = evD b ps ws i := cd_no (by simpa using hz)
          rw [ee1]
          exact iteF ⟨rfl, S7, h7, m7, e7, p7, q7⟩
      clear h7 m7 e7 p7 q7 S7
      rintro σ H8 ⟨rfl, S8, h8, m8, e8, p8, q8⟩
      -- the parts
      refine ⟨_, rfl, _, rfl, p, su, rfl, rfl, ⟨_, SqL.of p8⟩, ⟨_, SqL.of h8⟩, for_zip (K := K) (a := p) (b := su) (xs := qs.map V.ref) (ys := (Mg.sumsN b i ps ws).map V.int) (fun j σ H' => ∃ (v8 v9 : Option V), σ = [some (.ref g), some (.int ((b ^ ps.sum : Nat) : Int)), some (.ref e), some (.ref m), some (.ref p), some (.int i), some (.ref su), some (.int (Mg.sprd (Mg.sumsN b i ps ws))), v8, v9] ∧
        Same H H' ∧ H' su = some (.lst ((Mg.sumsN b i ps ws).map V.int)) ∧ H' m = some (.dK (intsD (msD b ps ws (i + 1)))) ∧ H' e = some (.dK (intsD (evD b ps ws (i + 1)))) ∧ H' p = some (.lst (qs.map V.ref)) ∧ ∀ (y : Nat) (q : Addr), qs[y]? = some q → H' q = some (.dK (intsD (ptD b ps ws y (if y < j then i + 1 else i)))))
        (by rw [List.length_map, List.length_map, hsl, hql']) ⟨v8, v9, rfl, S8, h8, m8, e8, p8, fun y q h => by rw [if_neg (Nat.not_lt_zero y)]; exact q8 y q h⟩ (fun j σ H' _ h => by obtain ⟨_, _, _, _, z, _, _, z2, _⟩ := h; exact ⟨SqL.of z2, SqL.of z⟩) ?_ ?_⟩
      · rintro j x y σ H9 t hx hy ⟨v8, v9, rfl, S9, h9, m9, e9, p9, q9⟩ ht
        obtain ⟨q, hq, rfl⟩ : ∃ q : Addr, qs[j]? = some q ∧ x = .ref q := by
          rw [List.getElem?_map] at hx
          cases e : qs[j]? with
          | none => rw [e] at hx; cases hx
          | some d => rw [e] at hx; exact ⟨d, rfl, (Option.some.inj hx).symm⟩
        obtain ⟨z, hz, rfl⟩ : ∃ z : Int, (Mg.sumsN b i ps ws)[j]? = some z ∧ y = .int z := by
          rw [List.getElem?_map] at hy
          cases e : (Mg.sumsN b i ps ws)[j]? with
          | none => rw [e] at hy; cases hy
          | some d => rw [e] at hy; exact ⟨d, rfl, (Option.some.inj hy).symm⟩
        have sT := same_upd (o := .tup [.ref q, .int z]) ht
        have hq9 := q9 j q hq
        rw [if_neg (Nat.lt_irrefl j)] at hq9
        refine ⟨t, _, rfl, SqT.of upd_same, rfl, _, _, rfl, _, _, rfl, rfl, ?_⟩
        have ST : Same H (upd H9 t (.tup [.ref q, .int z])) := S9.trans sT
        have qT := sT _ _ hq9
        have hT := sT _ _ h9
        have mT := sT _ _ m9
        have eT := sT _ _ e9
        have pT := sT _ _ p9
        have aT : ∀ (y : Nat) (q' : Addr), qs[y]? = some q' → (upd H9 t (.tup [.ref q, .int z])) q' = some (.dK (intsD (ptD b ps ws y (if y < j then i + 1 else i)))) := fun y q' h => sT _ _ (q9 y q' h)
        generalize upd H9 t (.tup [.ref q, .int z]) = HT at ST qT hT mT eT pT aT ⊢
        have lp := cd_len (fun _ => true) (fun n => (Mg.sumsN b n ps ws).getD j 0) i
        refine ⟨_, rfl, q, rfl, .inl ⟨_, .inl qT⟩, _, rfl, _, dget_ints (.inl qT), _, _, getD_int _, rfl, _, rfl, _, rfl, q, _, rfl, dput_ints qT (by lia), ?_⟩
        have ez : (Mg.sumsN b i ps ws).getD j 0 = z := by rw [List.getD_eq_getElem?_getD, hz]; rfl
        have ep1 : Me.put (ptD b ps ws j i) z ((Me.look (ptD b ps ws j i) z).getD 0 + 1) = ptD b ps ws j (i + 1) := by
          have := cd_yes (w := fun _ => true) (k := fun n => (Mg.sumsN b n ps ws).getD j 0) (n := i) rfl
          simp only [ez] at this
          exact this.symm
        rw [ep1]
        have hmq := hq0 q (List.mem_of_getElem? hq)
        have nsq : su ≠ q := ne_of hT qT (by intro z; cases z)
        have npq : p ≠ q := ne_of pT qT (by intro z; cases z)
        refine ⟨_, _, rfl, same_upd2 ST hmq.1, by rw [upd_ne nsq]; exact hT, by rw [upd_ne hmq.2.2.symm]; exact mT, by rw [upd_ne hmq.2.1.symm]; exact eT, by rw [upd_ne npq]; exact pT, fun y q' hyq => ?_⟩
        by_cases hyj : y = j
        · subst hyj
          have : q' = q := by rw [hq] at hyq; exact (Option.some.inj hyq).symm
          rw [this, upd_same, if_pos (Nat.lt_succ_self y)]
        · have hne : q' ≠ q := fun z => by
            rw [z] at hyq
            exact hyj ((List.getElem?_inj (List.getElem?_eq_some_iff.mp hyq).1 hnd).mp (hyq.trans hq.symm))
          rw [upd_ne hne, aT y q' hyq]
          by_cases h1 : y < j
          · rw [if_pos h1, if_pos (by lia)]
          · rw [if_neg h1, if_neg (by lia)]
      · rintro σ H9 ⟨v8, v9, rfl, S9, h9, m9, e9, p9, q9⟩
        refine ⟨_, _, _, _, _, rfl, S9, ⟨e9, m9, p9, hql', fun y q h => ?_⟩⟩
        have := q9 y q h
        rw [if_pos (by rw [List.length_map]; exact (List.getElem?_eq_some_iff.mp h).1)] at this
        exact this
    · rintro σ H5 ⟨v5, v6, v7, v8, v9, rfl, s5, G5⟩
      rw [Int.toNat_natCast] at G5
      refine ⟨_, rfl, _, rfl, _, rfl, sz (by simp), fun r hr' => ?_⟩
      have s6 := same_upd (o := .lst [.ref e, .ref m, .ref p]) hr'
      exact k r e m p qs _ (s5.trans s6) upd_same (G5.keep s6)
end
end Hv
namespace Hv
open PySem L2
theorem pt_perm {b : Nat} {ps : List Nat} {ws : List Int} (ok : FrOk b ps ws) {j p : Nat} {row : List Int} (hj : (Ma.cuts ps ws)[j]? = some row) (hp : ps[j]? = some p) : ((Me.waysW b row).map fun q => (q.1, q.2 * ((b ^ ps.sum / b ^ p : Nat) : Int))).Perm (ptD b ps ws j (b ^ ps.sum)) := by
  have b0 : 0 < b := by have := ok.b2; lia
  have hle : p ≤ ps.sum := Mg.le_sum (List.mem_of_getElem? hp)
  have hc : 0 < b ^ ps.sum / b ^ p := Nat.div_pos (Nat.pow_le_pow_right b0 hle) (Nat.pow_pos b0)
  refine Mg.perm_of_gv (Mg.scale_pos (Mg.ways_pos b row) (by lia)) (Mg.cd_pos _ _ _) fun t => ?_
  rw [Mg.scale_gv, Mg.cd_gv, ← Mg.cnt_part b0 ok.wl hj hp t]
  apply Mg.ns_congr
  intro n _
  have hjl : j < (Mg.sumsN b n ps ws).length := by
    show j < (Ma.psums ps _).length
    rw [Ma.psums_len]
    exact (List.getElem?_eq_some_iff.mp hp).1
  have e : (Mg.sumsN b n ps ws)[j]? = some ((Mg.sumsN b n ps ws).getD j 0) := by rw [List.getD_eq_getElem?_getD, List.getElem?_eq_getElem hjl]; rfl
  rw [e]
  by_cases h : (Mg.sumsN b n ps ws).getD j 0 = t
  · rw [if_pos (by rw [h]), if_pos ⟨rfl, h⟩]
  · rw [if_neg (fun z => h (Option.some.inj z)), if_neg fun z => h z.2]
inductive spPartsR2 (vs : List V) (H : Hp) (Q : VK) (E : XK) : Prop
  | mk : ∀ (f a c : Addr) (b : Nat) (ps : List Nat) (ws : List Int) (e m p : Addr) (qs : List Addr), (vs = [.ref f, .int ((b ^ ps.sum : Nat) : Int), .ref p]) → (FrAt H f a c b ps ws) → (b ^ ps.sum ≤ 3000) → (Gone H e m p qs b ps ws (b ^ ps.sum)) → (∀ H', Same H H' → Q (.bl true) H') → spPartsR2 vs H Q E
section
variable {P : Program} {w : World} {K : PySem.W.Frag} {mg : Str → Option Value} {base : Heap}
noncomputable abbrev nsPR : List Str := ["frame", "many", "parts", "part", "known", "ways", "each", "turn"]
theorem scPartsRight : FnScope nsPR ["frame", "many", "parts"] (defScope sPartsRight) := ⟨rfl, rfl, rfl, by decide +kernel, rfl, by decide +kernel, by decide +kernel⟩
theorem ok_partsright {f : Addr} {fd : FuncData} (F : Fun K "_law_parts_right" "_law_parts_right" sPartsRight f fd) (T : Txt mg) (ndict : mg "dict" = none) (DP : Def P w K mg base 6 "ways_of_part" ["frame", "part"] spWaysPart) : FnOk P w K mg base CX0 7 f fd ["frame", "many", "parts"] spPartsR2 := by
  refine F.ok scPartsRight (fun vs H Q E h => ?_) (fun cdv A outer s H vs Q E hr h => ?_)
  · obtain ⟨g, a, c, b, ps, ws, e, m, p, qs, rfl, _⟩ := h; rfl
  · obtain ⟨g, a, c, b, ps, ws, e, m, pl, qs, rfl, G, h3000, GN, k⟩ := h
    have nd := scPartsRight.nd
    have hu := hr.units
    have ok := G.ok
    have b2 := ok.b2
    have b16 := ok.b16
    have l4 := ok.l4
    have nd4 : List.Nodup (["one", "often", "many", "each"] : List Str) := by decide +kernel
    refine ⟨_, pss_cons (ps_for PassesOwn.never rfl (pi_enum (by rfl) T.enum (pv 2)) (pg_tup rfl (pgs_cons (pg_name (i := 3) nd rfl (Or.inl rfl)) (pgs_cons (pg_name (i := 4) nd rfl (Or.inl rfl)) pgs_nil)))
        (pss_cons (ps_set (i := 5) nd rfl (Or.inl rfl) (pe_fn DP hr (by rfl) (pa_cons (pv 0) (pa_cons (pv 3) pa_nil))))
        (pss_cons (ps_set (i := 6) nd rfl (Or.inr rfl) pe_int)
        (pss_cons (ps_for PassesOwn.never rfl (pi_range1 (by rfl) T.range (pa_cons (ixl (ixt (pv 0) pe_int) (pv 3)) pa_nil)) (pg_name (i := 7) nd rfl (Or.inl rfl))
          (pss_one (ps_set (i := 6) nd rfl (Or.inr rfl) (pe_op op_mul (pv 6) (ixt (pv 0) pe_int)))))
        (pss_one (ps_if (pt_cmpR (op_neDD hu) (pe_callTy (call_dictP rfl) (by rfl) ndict boot_dict (pa_cons (pe_comp (N := ["one", "often", "many", "each"]) (k := 2) (fr := [1, 6]) (cmpS (sc := defScope sPartsRight) (NX := nsPR) (k := 2) (fr := [1, 6]) rfl rfl (by decide +kernel)) (cmpF (sc := defScope sPartsRight) (NX := nsPR) rfl (by decide +kernel)) rfl (pi_items (pv 5))
          (fun cl C s H fp => pg_tupK K rfl rfl (pgs_cons (pg_name (i := 0) nd4 rfl (Or.inl rfl)) (pgs_cons (pg_name (i := 1) nd4 rfl (Or.inl rfl)) pgs_nil))) gk_two
          (fun cl C s H fp => pf_nil) (fun cl C s H fp => pe_tup (pa_cons (pv 0) (pa_cons (pe_op op_mul (pv 1) (pe_op op_fdiv (pv 2) (pv 3))) pa_nil)))) pa_nil)) (pv 4) (nomark _)) (pss_one (ps_ret pe_bl)) pss_nil))))))
      (pss_one (ps_ret pe_bl)), ?_⟩
    refine ⟨_, rfl, pl, rfl, ⟨_, SqL.of GN.hp⟩, for_enum (K := K) (a := pl) (xs := qs.map V.ref) (fun j σ H' => ∃ (v3 v4 v5 v6 v7 : Option V), σ = [some (.ref g), some (.int ((b ^ ps.sum : Nat) : Int)), some (.ref pl), v3, v4, v5, v6, v7] ∧ Same H H') ⟨none, none, none, none, none, rfl, Same.refl _⟩
      (fun j σ H' _ h => by obtain ⟨_, _, _, _, _, _, t⟩ := h; exact SqL.of (t _ _ GN.hp)) ?_ ?_⟩
    · rintro j x σ H1 t hx ⟨v3, v4, v5, v6, v7, rfl, s1⟩ ht
      obtain ⟨q, hq, rfl⟩ : ∃ q : Addr, qs[j]? = some q ∧ x = .ref q := by
        rw [List.getElem?_map] at hx
        cases e : qs[j]? with
        | none => rw [e] at hx; cases hx
        | some d => rw [e] at hx; exact ⟨d, rfl, (Option.some.inj hx).symm⟩
      have hj : j < ps.length := by rw [← GN.hl]; exact (List.getElem?_eq_some_iff.mp hq).1
      have ej : ps[j]? = some ps[j] := by simp [hj]
      have hp6 := ok.pr ps[j] (List.getElem_mem hj)
      generalize ps[j] = p at ej hp6
      obtain ⟨row, hrow⟩ : ∃ row, (Ma.cuts ps ws)[j]? = some row := ⟨(Ma.cuts ps ws)[j]'(by rw [Ma.cuts_len]; exact hj), by simp⟩
      have hperm := pt_perm ok hrow ej
      refine ⟨t, _, rfl, SqT.of upd_same, rfl, _, _, rfl, _, _, rfl, rfl, ?_⟩
      have s2 : Same H (upd H1 t (.tup [.int j, .ref q])) := same_upd2 s1 (s1.free ht)
      generalize upd H1 t (.tup [.int j, .ref q]) = H2 at s2 ⊢
      refine ⟨_, rfl, _, rfl, g, a, c, b, ps, ws, j, row, rfl, G.keep s2, hrow, fun wd H3 gg hwd s3 hw3 perm => ?_⟩
      have S3 := s2.trans s3
      have G3 := G.keep S3
      refine ⟨_, rfl, _, _, _, _, rfl, rfl, SqT.of G3.tp, rfl, _, rfl, r_ixl G3.hp (atI_nat (j := j) (v := .int (p : Int)) (by rw [natV, List.getElem?_map, ej]; rfl)) ⟨_, rfl, by lia, by lia, ?_⟩⟩
      refine for_range (n := ((p : Nat) : Int).toNat) (fun i σ H' => H3 = H' ∧ ∃ v7, σ = [some (.ref g), some (.int ((b ^ ps.sum : Nat) : Int)), some (.ref pl), some (.int j), some (.ref q), some (.ref wd), some (.int ((b ^ i : Nat) : Int)), v7]) ⟨rfl, v7, rfl⟩ ?_ ?_
      · rintro i σ H4 hi ⟨rfl, v7, rfl⟩
        refine ⟨_, rfl, _, rfl, _, _, _, _, rfl, rfl, SqT.of G3.tp, rfl, _, _, rfl, rfl, .inr ⟨by lia, by lia⟩, rfl, some (.int (0 + (i : Int))), ?_⟩
        rw [Nat.pow_succ]
        push_cast
        rfl
      rintro σ H4 ⟨rfl, v7, rfl⟩
      rw [Int.toNat_natCast]
      have b0 : 0 < b := by lia
      have hpw : b ^ p ≤ 16777216 := by
        have h : b ^ p ≤ 16 ^ 6 := Nat.le_trans (Nat.pow_le_pow_left b16 _) (Nat.pow_le_pow_right (by decide) hp6.2)
        have : (16 : Nat) ^ 6 = 16777216 := by decide
        lia
      have hpw0 : 0 < b ^ p := Nat.pow_pos b0
      have hdl : b ^ ps.sum / b ^ p ≤ 3000 := Nat.le_trans (Nat.div_le_self _ _) h3000
      have ec : ((b ^ ps.sum : Nat) : Int) / ((b ^ p : Nat) : Int) = ((b ^ ps.sum / b ^ p : Nat) : Int) := (Int.natCast_ediv _ _).symm
      generalize hcc : b ^ ps.sum / b ^ p = cc at hdl ec hperm
      have nqw : q ≠ wd := ne_of_none (s2 _ _ (GN.hq j q hq)) hwd
      have ggl : gg.length ≤ 2000 := by
        have wok := Me.ways_ok' (b := b) (ws := row) (fun x hx => ok.wr x (Ma.cuts_mem (List.mem_of_getElem? hrow) x hx)) b16
        have wln := Me.Ok.len (m := 135 * row.length) (by push_cast at wok ⊢; exact wok)
        have hl6 : row.length ≤ 6 := Ma.cuts_short (fun p hp => (ok.pr p hp).2) (List.mem_of_getElem? hrow)
        rw [perm.length_eq]
        lia
      refine ⟨_, rfl, wd, intsD gg, rfl, hw3, fun o => ?_⟩
      have fw : (upd H3 wd (.frz o (.dK (intsD gg)))) wd = some (.frz o (.dK (intsD gg))) := upd_same
      have fq : (upd H3 wd (.frz o (.dK (intsD gg)))) q = some (.dK (intsD (ptD b ps ws j (b ^ ps.sum)))) := by rw [upd_ne nqw]; exact s3 _ _ (s2 _ _ (GN.hq j q hq))
      have SF : ∀ x ob, H x = some ob → (upd H3 wd (.frz o (.dK (intsD gg)))) x = some ob := fun x ob hx' => by rw [upd_ne (ne_of_none (s2 _ _ hx') hwd)]; exact S3 _ _ hx'
      generalize upd H3 wd (.frz o (.dK (intsD gg))) = HF at fw fq SF ⊢
      refine comp_items (fun i ys H' => ∃ ts, ys = ts.map V.ref ∧ ts.length = i ∧ Same HF H' ∧ PairsAt H' ts (intsD ((gg.take i).map fun q => (q.1, q.2 * (cc : Int))))) ⟨[], rfl, rfl, Same.refl _, .nil⟩ (fun i ys H' _ h => by obtain ⟨_, _, _, s', _⟩ := h; exact s' _ _ fw)
        (fun i ys H' hi h => by
          obtain ⟨ts, rfl, htl, _⟩ := h
          rw [intsD, List.length_map] at hi
          exact szl (by rw [List.length_map]; lia)) ?_ ?_
      · rintro i kk v ys H' t2 hk ⟨ts, rfl, htl, s', pa⟩ ht2
        obtain ⟨pr, hpr, rfl, rfl⟩ := ints_at hk
        refine ⟨t2, _, rfl, SqT.of upd_same, rfl, _, _, rfl, _, _, rfl, rfl, ?_⟩
        have sT := same_upd (o := .tup [kV (Sum.inl pr.1), .int pr.2]) ht2
        have ST := s'.trans sT
        have paT := pairs_keep sT pa
        generalize upd H' t2 (.tup [kV (Sum.inl pr.1), .int pr.2]) = HT at ST paT ⊢
        refine ⟨_, rfl, _, rfl, _, rfl, _, rfl, _, _, rfl, rfl, ⟨by lia, by lia⟩, _, _, rfl, rfl, .inr ⟨by lia, by lia⟩, sz (by simp), fun t3 ht3 => ⟨ts ++ [t3], by simp, by simp [htl], ST.trans (same_upd ht3), ?_⟩⟩
        rw [List.take_add_one, hpr]
        have e2 : intsD ((gg.take i ++ (some pr).toList).map fun q => (q.1, q.2 * (cc : Int))) = intsD ((gg.take i).map fun q => (q.1, q.2 * (cc : Int))) ++ [(Sum.inl pr.1, V.int (pr.2 * (cc : Int)))] := by
          simp [intsD]
        rw [e2]
        refine pairs_snoc (p := (Sum.inl pr.1, V.int (pr.2 * (cc : Int)))) ?_ (pairs_keep (same_upd ht3) paT)
        rw [upd_same]
        dsimp only
        rw [ec]
      rintro ys H' ⟨ts, rfl, htl, s', pa⟩ l2 hl2
      have egl : (intsD gg).length = gg.length := by rw [intsD, List.length_map]
      rw [egl, List.take_length] at pa
      have sc : (gg.map fun q => (q.1, q.2 * (cc : Int))).Perm (ptD b ps ws j (b ^ ps.sum)) := (perm.map _).trans hperm
      have ptn := (Mg.cd_pos (fun _ => true) (fun n => (Mg.sumsN b n ps ws).getD j 0) (b ^ ps.sum)).nd
      have scn : (Me.keys (gg.map fun q => (q.1, q.2 * (cc : Int)))).Nodup := (sc.map Prod.fst).nodup_iff.mpr ptn
      have sL := same_upd (o := .lst (ts.map V.ref)) hl2
      refine ⟨l2, ts, _, rfl, upd_same, pairs_keep sL pa, fun d0 hd0 => ?_⟩
      have em : mergeK [] (intsD (gg.map fun q => (q.1, q.2 * (cc : Int)))) = intsD (gg.map fun q => (q.1, q.2 * (cc : Int))) := by
        have z := merge_ints (gg.map fun q => (q.1, q.2 * (cc : Int))) []
        rw [show intsD [] = ([] : List (Key × V)) from rfl] at z
        rw [z, Me.merge_new _ _ (by simpa using scn)]
        rfl
      rw [em]
      have sD := same_upd (o := .dK (intsD (gg.map fun q => (q.1, q.2 * (cc : Int))))) hd0
      refine ⟨_, rfl, d0, q, _, _, rfl, rfl, .inl upd_same, .inl (sD _ _ (sL _ _ (s' _ _ fq))), _, rfl, ?_⟩
      rw [same_perm sc ptn]
      refine iteF ⟨_, _, _, _, _, rfl, fun x ob hx' => sD _ _ (sL _ _ (s' _ _ (SF x ob hx')))⟩
    · rintro σ H1 ⟨v3, v4, v5, v6, v7, rfl, s1⟩
      exact k H1 s1
end
end Hv
namespace L2
open PySem
theorem r_name {i : Nat} {v : V} {σ : St} {H : Hp} {Q : St → Hp → Prop} (h : Q (σ.set i (some v)) H) : gName i v σ H Q := h
theorem hide {t u : TS} {D : Ends} {σ : St} {H : Hp} (h : ∀ D' : Ends, (∀ σ H, u D σ H → D'.nx σ H) → t D' σ H) : tSeq t u D σ H := h _ fun _ _ x => x
theorem for_listH {K : PySem.W.Frag} {a : Addr} {xs : List V} {g : TG} {tb : TS} {D : Ends} {σ : St} {H : Hp} (Pv : Nat → St → Hp → Prop) (h0 : Pv 0 σ H) (hl : ∀ i σ H, i ≤ xs.length → Pv i σ H → SqL K H a xs)
    (hs : ∀ i x σ H (D' : Ends), (∀ σ H, Pv (i + 1) σ H → D'.nx σ H) → xs[i]? = some x → Pv i σ H → g x σ H fun σ2 H2 => tb D' σ2 H2) (hd : ∀ σ H, Pv xs.length σ H → D.nx σ H) :
    ∃ W : Nat → Nat → St → Hp → Prop, (∃ m, W 0 m σ H) ∧ ∀ i m σ H, W i m σ H →
      ((Itl K a).stop i H ∧ D.nx σ H) ∨ ((Itl K a).go i H ∧ ∃ N : St → Hp → Prop, (∀ σ' H', N σ' H' → ∃ m', m' < m ∧ W (i + 1) m' σ' H') ∧ ∀ x H', (Itl K a).yld i H x H' → g x σ H' fun σ2 H2 => tb { D with nx := N, ct := N, bk := D.nx } σ2 H2) :=
  for_list Pv h0 hl (fun i x σ H h1 h2 => hs i x σ H _ (fun _ _ z => z) h1 h2) hd
end L2
namespace Hv
open PySem L2
theorem keys_int (g : List (Int × Int)) : (intsD g).map (fun q => kV q.1) = (Me.keys g).map V.int := by
  unfold intsD Me.keys
  rw [List.map_map, List.map_map]
  rfl
theorem Gone.kp7 {H H' : Hp} {e m p s l : Addr} {ds : List Int} {qs : List Addr} {b : Nat} {ps : List Nat} {ws : List Int} {N : Nat} (G : Gone H e m p qs b ps ws N) (S : St7 H s l ds) (k : Kp [s] H H') : Gone H' e m p qs b ps ws N :=
  ⟨k _ _ G.he (S.other G.he (fun _ z => nomatch z)), k _ _ G.hm (S.other G.hm (fun _ z => nomatch z)), k _ _ G.hp (fun z => by
    obtain ⟨c, e'⟩ := S.hs
    have z' : p = s := by simpa using z
    have hp := G.hp
    rw [z', e'] at hp
    have h2 : [V.ref l, V.int c] = qs.map V.ref := by injection hp with hp; injection hp
    match qs, h2 with
    | [_, _], h2 => simp at h2), G.hl, fun j q h => k _ _ (G.hq j q h) (S.other (G.hq j q h) (fun _ z => nomatch z))⟩
def spRight : Sp := fun vs H Q _ => ∃ (st l : Addr) (ds : List Int) (f a c : Addr) (b : Nat) (ps : List Nat) (ws : List Int), vs = [.ref st, .ref f] ∧ St7 H st l ds ∧ FrAt H f a c b ps ws ∧ b ^ ps.sum ≤ 3000 ∧ ∀ H', St7 H' st l ds → Kp [st] H H' → Q (.bl true) H'
theorem at_int {xs : List Int} {i : Nat} {x : V} (h : (xs.map V.int)[i]? = some x) : ∃ y, y ∈ xs ∧ x = .int y := by
  rw [List.getElem?_map] at h
  cases e : xs[i]? with
  | none => rw [e] at h; cases h
  | some d => rw [e] at h; exact ⟨d, List.mem_of_getElem? e, (Option.some.inj h).symm⟩
section
variable {P : Program} {w : World} {K : PySem.W.Frag} {mg : Str → Option Value} {base : Heap}
abbrev nsRight : List Str := ["store", "frame", "many", "even", "miss", "parts", "one", "d", "n", "sums"]
theorem scRight : FnScope nsRight ["store", "frame"] (defScope sRight) := ⟨rfl, rfl, rfl, by decide +kernel, rfl, by decide +kernel, by decide +kernel⟩
theorem ok_right {f : Addr} {fd : FuncData} (F : Fun K "_law_right" "_law_right" sRight f fd) (T : Txt mg) (DH : Def P w K mg base 6 "how_many" ["frame"] spHowMany) (DG : Def P w K mg base 2 "_law_gone_through" ["frame", "many"] spGone)
    (DE : Def P w K mg base 6 "even_by_sums" ["frame"] spEvenBy) (DN : Def P w K mg base 7 "count_even" ["frame"] spCountEven) (DX : Def P w K mg base 6 "count_even_with" ["frame", "s"] spCountWith) (DM : Def P w K mg base 6 "count_missing" ["frame", "d"] spCountMissing) (DA : Def P w K mg base 6 "count_near" ["frame", "d"] spCountNear)
    (DT : Def P w K mg base 1 "_law_take" ["store", "many"] spTake7) (DS : Def P w K mg base 1 "_law_sums_of" ["frame", "n"] spSumsOf) (DQ : Def P w K mg base 9 "part_sums" ["frame", "n"] spSums) (DB : Def P w K mg base 10 "misses_by" ["frame", "n"] spMisses)
    (DR : Def P w K mg base 7 "_law_parts_right" ["frame", "many", "parts"] spPartsR2) : FnOk P w K mg base CX0 11 f fd ["store", "frame"] spRight := by
  refine F.ok scRight (fun vs H Q E h => ?_) (fun cdv A outer s H vs Q E hr h => ?_)
  · obtain ⟨st, l, ds, g, a, c, b, ps, ws, rfl, _⟩ := h; rfl
  · obtain ⟨st, l, ds, g, a, c, b, ps, ws, rfl, S, G, h3000, k⟩ := h
    have nd := scRight.nd
    have hu := hr.units
    have hu1 := hu_of hr
    have ok := G.ok
    have b2 := ok.b2
    have b0 : 0 < b := by lia
    have l2 := ok.l2
    have lp : 0 < ps.length := by lia
    have N0 : 0 < b ^ ps.sum := Nat.pow_pos b0
    have nd3 : List.Nodup (["by", "often", "d"] : List Str) := by decide +kernel
    refine ⟨_, pss_cons (ps_set (i := 2) nd rfl (Or.inl rfl) (pe_fn DH (hr.mono (by decide)) (by rfl) (pa_cons (pv 1) pa_nil)))
      (pss_cons (ps_asg (pe_fn DG (hr.mono (by decide)) (by rfl) (pa_cons (pv 1) (pa_cons (pv 2) pa_nil))) (pg_lst rfl (pgs_cons (pg_name (i := 3) nd rfl (Or.inl rfl)) (pgs_cons (pg_name (i := 4) nd rfl (Or.inl rfl)) (pgs_cons (pg_name (i := 5) nd rfl (Or.inl rfl)) pgs_nil)))))
      (pss_cons (ps_if (PW.pt (pw_or (pt_cmpR (op_neDD hu) (pe_fn DE (hr.mono (by decide)) (by rfl) (pa_cons (pv 1) pa_nil)) (pv 3) (nomark _)) (pw_or1 (pt_cmpR op_ne (pe_fn DN (hr.mono (by decide)) (by rfl) (pa_cons (pv 1) pa_nil)) (pe_callB (call_sumA rfl) (by rfl) T.sum boot_sum (pa_cons (pe_lvals rfl T.list (by rfl) (pv 3)) pa_nil)) (nomark _))))) (pss_one (ps_ret pe_bl)) pss_nil)
      (pss_cons (ps_for PassesOwn.never rfl (pi_list (pe_lst (pa_cons pe_int (pa_cons (pe_callB (call_maxL rfl) (by rfl) T.max boot_max (pa_cons (pe_callTy (call_listD rfl) (by rfl) T.list boot_list (pa_cons (pv 3) pa_nil)) pa_nil)) (pa_cons (pe_callB (call_minL rfl) (by rfl) T.min boot_min (pa_cons (pe_callTy (call_listD rfl) (by rfl) T.list boot_list (pa_cons (pv 3) pa_nil)) pa_nil)) (pa_cons (pe_op op_sub (pe_fn DT (hr.mono (by decide)) (by rfl) (pa_cons (pv 0) (pa_cons pe_int pa_nil))) pe_int) pa_nil)))))) (pg_name (i := 6) nd rfl (Or.inl rfl))
        (pss_one (ps_if (pt_cmpR op_ne (pe_fn DX (hr.mono (by decide)) (by rfl) (pa_cons (pv 1) (pa_cons (pv 6) pa_nil))) (pe_dget2 hu1 (pv 3) (pv 6) pe_int ⟨rfl, rfl, rfl, rfl⟩) (nomark _)) (pss_one (ps_ret pe_bl)) pss_nil)))
      (pss_cons (ps_for PassesOwn.never rfl (pi_list (pe_lst (pa_cons pe_int (pa_cons pe_int (pa_cons (pe_callB (call_maxL rfl) (by rfl) T.max boot_max (pa_cons (pe_callTy (call_listD rfl) (by rfl) T.list boot_list (pa_cons (pv 4) pa_nil)) pa_nil)) (pa_cons (pe_fn DT (hr.mono (by decide)) (by rfl) (pa_cons (pv 0) (pa_cons (pe_op op_add (pe_callB (call_maxL rfl) (by rfl) T.max boot_max (pa_cons (pe_callTy (call_listD rfl) (by rfl) T.list boot_list (pa_cons (pv 4) pa_nil)) pa_nil)) pe_int) pa_nil))) pa_nil)))))) (pg_name (i := 7) nd rfl (Or.inr rfl))
        (pss_cons (ps_if (pt_cmpR op_ne (pe_fn DM (hr.mono (by decide)) (by rfl) (pa_cons (pv 1) (pa_cons (pv 7) pa_nil))) (pe_dget2 hu1 (pv 4) (pv 7) pe_int ⟨rfl, rfl, rfl, rfl⟩) (nomark _)) (pss_one (ps_ret pe_bl)) pss_nil)
        (pss_cons (ps_if (pt_cmpR op_ne (pe_fn DA (hr.mono (by decide)) (by rfl) (pa_cons (pv 1) (pa_cons (pv 7) pa_nil))) (pe_callB (call_sumA rfl) (by rfl) T.sum boot_sum (pa_cons (pe_comp (N := ["by", "often", "d"]) (k := 2) (fr := [7]) (cmpS (sc := defScope sRight) (NX := nsRight) (k := 2) (fr := [7]) rfl rfl (by decide +kernel)) (cmpF (sc := defScope sRight) (NX := nsRight) rfl (by decide +kernel)) rfl (pi_items (pv 4))
          (fun cl C s H fp => pg_tupK K rfl rfl (pgs_cons (pg_name (i := 0) nd3 rfl (Or.inl rfl)) (pgs_cons (pg_name (i := 1) nd3 rfl (Or.inl rfl)) pgs_nil))) gk_two
          (fun cl C s H fp => pf_one (pt_cmpR op_le (pv 0) (pv 2) (nomark _))) (fun cl C s H fp => pv 1)) pa_nil)) (nomark _)) (pss_one (ps_ret pe_bl)) pss_nil)
        (pss_thaw pss_nil))))
      (pss_cons (ps_set (i := 8) nd rfl (Or.inl rfl) (pe_op op_mod (pe_fn DT (hr.mono (by decide)) (by rfl) (pa_cons (pv 0) (pa_cons pe_int pa_nil))) (pv 2)))
      (pss_cons (ps_set (i := 9) nd rfl (Or.inl rfl) (pe_fn DS (hr.mono (by decide)) (by rfl) (pa_cons (pv 1) (pa_cons (pv 8) pa_nil))))
      (pss_cons (ps_if (PW.pt (pw_or (pt_cmpR (op_neD hu) (pe_fn DQ (hr.mono (by decide)) (by rfl) (pa_cons (pv 1) (pa_cons (pv 8) pa_nil))) (pv 9) (nomark _)) (pw_or1 (pt_cmpR op_ne (pe_fn DB hr (by rfl) (pa_cons (pv 1) (pa_cons (pv 8) pa_nil))) (pe_op op_sub (pe_callB (call_maxL rfl) (by rfl) T.max boot_max (pa_cons (pv 9) pa_nil)) (pe_callB (call_minL rfl) (by rfl) T.min boot_min (pa_cons (pv 9) pa_nil))) (nomark _))))) (pss_one (ps_ret pe_bl)) pss_nil)
      (pss_one (ps_ret (pe_fn DR (hr.mono (by decide)) (by rfl) (pa_cons (pv 1) (pa_cons (pv 2) (pa_cons (pv 5) pa_nil))))))))))))), ?_⟩
    -- gone through
    refine hide fun R1 k1 => ?_
    refine ⟨_, rfl, g, a, c, b, ps, ws, rfl, G, fun H1 s1 => ?_⟩
    refine k1 _ _ (hide fun R2 k2 => ?_)
    have G1 := G.keep s1
    refine ⟨_, rfl, _, rfl, g, a, c, b, ps, ws, rfl, G1, h3000, fun r e m p qs H2 s2 hr2 GN => ?_⟩
    refine ⟨r, _, rfl, SqL.of hr2, rfl, _, _, rfl, _, _, rfl, _, _, rfl, rfl, ?_⟩
    refine k2 _ _ (hide fun R3 k3 => ?_)
    have G2 := G1.keep s2
    have T2 := s1.trans s2
    have mfr : ∀ (o : Obj) (u : HO), H m ≠ some (.frz o u) := fun o u z => by
      have := T2 _ _ z
      rw [GN.hm] at this
      cases this
    have S2 := S.keep T2
    -- the even ones
    refine ⟨_, rfl, g, a, c, b, ps, ws, rfl, G2, fun e1 g1 H3 ne1 s3 he1 ⟨row, hrow, perm⟩ => ?_⟩
    have GN3 := GN.keep s3
    have evp := Mg.even_perm b0 ok.wl lp hrow
    have epos : Mg.Pos (evD b ps ws (b ^ ps.sum)) := Mg.cd_pos _ _ _
    have esd : sameD g1 (evD b ps ws (b ^ ps.sum)) = true := same_perm (perm.trans evp) epos.nd
    refine ⟨_, rfl, e1, e, g1, evD b ps ws (b ^ ps.sum), rfl, rfl, .inl he1, .inl GN3.he, _, rfl, ?_⟩
    rw [esd]
    refine iteF ?_
    refine ⟨_, rfl, g, a, c, b, ps, ws, rfl, G2.keep s3, fun row2 H4 s4 hrow2 => ?_⟩
    have er : row2 = row := by rw [hrow] at hrow2; exact (Option.some.inj hrow2).symm
    subst er
    have GN4 := GN3.keep s4
    have ett : Me.tot (Me.evenL b (Ma.cuts ps ws) (Me.keys (Me.waysW b row2))) = ((evD b ps ws (b ^ ps.sum)).map (·.2)).sum := Me.tot_perm evp
    have wnd := (Me.ways_tw b row2).nd
    have elk : ∀ t, Me.prodW b (Ma.cuts ps ws) t = (Me.look (evD b ps ws (b ^ ps.sum)) t).getD 0 := fun t => by
      rw [← Me.even_look (b := b) hrow wnd t, Me.look_perm evp epos.nd]
    have el0 : 0 < (Me.keys (evD b ps ws (b ^ ps.sum))).length := List.length_pos_of_mem ((evp.map (·.1)).mem_iff.mp (Me.even_zero (b := b) (rows := Ma.cuts ps ws) (row := row2) b0))
    have T4 := s3.trans s4
    refine ⟨_, rfl, e, intsD (evD b ps ws (b ^ ps.sum)), rfl, GN4.he, fun q hq => ⟨q, (evD b ps ws (b ^ ps.sum)).map (·.2), rfl, SqL.of (by rw [← ints_vals]; exact upd_same), ?_⟩⟩
    have s5 := same_upd (o := .lst ((intsD (evD b ps ws (b ^ ps.sum))).map (·.2))) hq
    generalize upd H4 q (.lst ((intsD (evD b ps ws (b ^ ps.sum))).map (·.2))) = H5 at s5 ⊢
    refine ⟨rfl, _, rfl, iteNS (by rw [ett]) ?_⟩
    refine k3 _ _ (hide fun R4 k4 => ?_)
    have GN5 := GN4.keep s5
    have S5 := (S2.keep T4).keep s5
    have G5 := (G2.keep T4).keep s5
    -- with each sum
    refine ⟨_, rfl, e, _, rfl, .inl GN5.he, fun q1 hq1 => ⟨q1, Me.keys (evD b ps ws (b ^ ps.sum)), rfl, SqL.of (by rw [← keys_int]; exact upd_same), el0, ?_⟩⟩
    have s6 := same_upd (o := .lst ((intsD (evD b ps ws (b ^ ps.sum))).map (fun q => kV q.1))) hq1
    generalize upd H5 q1 (.lst ((intsD (evD b ps ws (b ^ ps.sum))).map (fun q => kV q.1))) = H6 at s6 ⊢
    have GN6 := GN5.keep s6
    refine ⟨_, rfl, e, _, rfl, .inl GN6.he, fun q2 hq2 => ⟨q2, Me.keys (evD b ps ws (b ^ ps.sum)), rfl, SqL.of (by rw [← keys_int]; exact upd_same), el0, ?_⟩⟩
    have s7 := same_upd (o := .lst ((intsD (evD b ps ws (b ^ ps.sum))).map (fun q => kV q.1))) hq2
    generalize upd H6 q2 (.lst ((intsD (evD b ps ws (b ^ ps.sum))).map (fun q => kV q.1))) = H7 at s7 ⊢
    have GN7 := GN6.keep s7
    have S7 := (S5.keep s6).keep s7
    refine ⟨_, rfl, st, l, ds, 40, rfl, S7, by decide, fun r1 H8 r10 r11 S8 k8 => ?_⟩
    refine ⟨_, _, rfl, rfl, sz (by simp), fun ll hll => ?_⟩
    have GN8 := GN7.kp7 S7 k8
    have G8 := ((G5.keep s6).keep s7).kp7 S7 k8
    have K8 : Kp [st] H H8 := (Kp.of ((T2.trans T4).trans (s5.trans (s6.trans s7)))).trans k8
    generalize hxs : ([0, Ma.maxL (Me.keys (evD b ps ws (b ^ ps.sum))), Ma.minL (Me.keys (evD b ps ws (b ^ ps.sum))), r1 - 20] : List Int) = xs
    have exs : ([V.int 0, V.int (Ma.maxL (Me.keys (evD b ps ws (b ^ ps.sum)))), V.int (Ma.minL (Me.keys (evD b ps ws (b ^ ps.sum)))), V.int (r1 - 20)] : List V) = xs.map V.int := by rw [← hxs]; rfl
    rw [exs]
    have s9 := same_upd (o := .lst (xs.map V.int)) hll
    have u9 : (upd H8 ll (.lst (xs.map V.int))) ll = some (.lst (xs.map V.int)) := upd_same
    generalize upd H8 ll (.lst (xs.map V.int)) = H9 at s9 u9 ⊢
    have GN9 := GN8.keep s9
    have G9 := G8.keep s9
    have S9 := S8.keep s9
    refine ⟨ll, rfl, ⟨_, SqL.of u9⟩, for_listH (K := K) (a := ll) (xs := xs.map V.int) (fun i σ H' => ∃ v6, σ = [some (.ref st), some (.ref g), some (.int ((b ^ ps.sum : Nat) : Int)), some (.ref e), some (.ref m), some (.ref p), v6, none, none, none] ∧ Same H9 H') ⟨none, rfl, Same.refl _⟩ (fun i σ H' _ h => by obtain ⟨_, _, t⟩ := h; exact SqL.of (t _ _ u9)) ?_ ?_⟩
    · rintro i x σ HA DL kL hx ⟨v6, rfl, sA⟩
      obtain ⟨t, _, rfl⟩ := at_int hx
      refine ⟨_, rfl, _, rfl, g, a, c, b, ps, ws, t, rfl, G9.keep sA, fun HB sB => ?_⟩
      have heB := (GN9.keep (sA.trans sB)).he
      refine ⟨_, rfl, e, rfl, .inl ⟨_, .inl heB⟩, _, rfl, _, dget_ints (.inl heB), ?_⟩
      rw [getD_int]
      exact ⟨rfl, _, rfl, iteNS (by rw [elk t]) (kL _ _ ⟨_, rfl, sA.trans sB⟩)⟩
    rintro σ HA ⟨v6, rfl, sA⟩
    refine k4 _ _ (hide fun R5 k5 => ?_)
    have GNA := GN9.keep sA
    have GA := G9.keep sA
    have SA := S9.keep sA
    have KA : Kp [st] H HA := K8.trans (Kp.of (s9.trans sA))
    -- what they miss by
    have mnn : ∀ x ∈ Me.keys (msD b ps ws (b ^ ps.sum)), 0 ≤ x := Mg.cd_prop (q := fun x => 0 ≤ x) (fun i => Mg.sprd_nn _ (by
      show 0 < (Ma.psums ps _).length
      rw [Ma.psums_len]; exact lp)) _
    have ml0 : 0 < (Me.keys (msD b ps ws (b ^ ps.sum))).length := by
      have := Mg.cd_ne (k := fun n => Mg.sprd (Mg.sumsN b n ps ws)) N0
      rw [Me.keys, List.length_map]; exact this
    have mlen : (msD b ps ws (b ^ ps.sum)).length ≤ 3000 := Nat.le_trans (cd_len _ _ _) h3000
    have mgv : ∀ d : Nat, missV b (Ma.cuts ps ws) d = (Me.look (msD b ps ws (b ^ ps.sum)) d).getD 0 := fun d => (Mg.ms_gv b0 ok.wl lp d).symm
    have mnr : ∀ d : Nat, (((msD b ps ws (b ^ ps.sum)).filter fun q => decide (q.1 ≤ (d : Int))).map (·.2)).sum = Me.nearV b (Ma.cuts ps ws) d := fun d => (Mg.upto_sum _ _).trans (Mg.ms_near b0 ok.wl lp d)
    have mx0 := mnn _ (Ma.maxL_spec _ ml0).1
    refine ⟨_, rfl, m, _, rfl, .inl GNA.hm, fun q3 hq3 => ⟨q3, Me.keys (msD b ps ws (b ^ ps.sum)), rfl, SqL.of (by rw [← keys_int]; exact upd_same), ml0, ?_⟩⟩
    have sB := same_upd (o := .lst ((intsD (msD b ps ws (b ^ ps.sum))).map (fun q => kV q.1))) hq3
    generalize upd HA q3 (.lst ((intsD (msD b ps ws (b ^ ps.sum))).map (fun q => kV q.1))) = HB at sB ⊢
    have GNB := GNA.keep sB
    refine ⟨_, rfl, _, rfl, m, _, rfl, .inl GNB.hm, fun q4 hq4 => ⟨q4, Me.keys (msD b ps ws (b ^ ps.sum)), rfl, SqL.of (by rw [← keys_int]; exact upd_same), ml0, ?_⟩⟩
    have sC := same_upd (o := .lst ((intsD (msD b ps ws (b ^ ps.sum))).map (fun q => kV q.1))) hq4
    generalize upd HB q4 (.lst ((intsD (msD b ps ws (b ^ ps.sum))).map (fun q => kV q.1))) = HC at sC ⊢
    have GNC := GNB.keep sC
    have SC := (SA.keep sB).keep sC
    refine ⟨_, _, rfl, rfl, st, l, ds, _, rfl, SC, by lia, fun r2 HD r20 r21 SD kD => ?_⟩
    refine ⟨sz (by simp), fun l2 hl2 => ?_⟩
    have GND := GNC.kp7 SC kD
    have GD := ((GA.keep sB).keep sC).kp7 SC kD
    have KD : Kp [st] H HD := (KA.trans (Kp.of (sB.trans sC))).trans kD
    generalize hys : ([0, 1, Ma.maxL (Me.keys (msD b ps ws (b ^ ps.sum))), r2] : List Int) = zs
    have znn : ∀ z ∈ zs, 0 ≤ z := by
      rw [← hys]
      intro z hz
      simp only [List.mem_cons, List.not_mem_nil, or_false] at hz
      rcases hz with rfl | rfl | rfl | rfl <;> lia
    have ezs : ([V.int 0, V.int 1, V.int (Ma.maxL (Me.keys (msD b ps ws (b ^ ps.sum)))), V.int r2] : List V) = zs.map V.int := by rw [← hys]; rfl
    rw [ezs]
    have sE := same_upd (o := .lst (zs.map V.int)) hl2
    have uE : (upd HD l2 (.lst (zs.map V.int))) l2 = some (.lst (zs.map V.int)) := upd_same
    generalize upd HD l2 (.lst (zs.map V.int)) = HE at sE uE ⊢
    have GNE := GND.keep sE
    have GE := GD.keep sE
    have SE := SD.keep sE
    refine ⟨l2, rfl, ⟨_, SqL.of uE⟩, for_listH (K := K) (a := l2) (xs := zs.map V.int) (fun i σ H' => ∃ v7, σ = [some (.ref st), some (.ref g), some (.int ((b ^ ps.sum : Nat) : Int)), some (.ref e), some (.ref m), some (.ref p), v6, v7, none, none] ∧ Same HE H') ⟨none, rfl, Same.refl _⟩ (fun i σ H' _ h => by obtain ⟨_, _, t⟩ := h; exact SqL.of (t _ _ uE)) ?_ ?_⟩
    · rintro i x σ HF DL kL hx ⟨v7, rfl, sF⟩
      obtain ⟨t, ht, rfl⟩ := at_int hx
      obtain ⟨d, rfl⟩ : ∃ d : Nat, t = d := ⟨t.toNat, by have := znn t ht; lia⟩
      refine r_name (hide fun DM1 kM1 => ?_)
      refine ⟨_, rfl, _, rfl, g, a, c, b, ps, ws, d, rfl, GE.keep sF, fun HG sG => ?_⟩
      have hmG := (GNE.keep (sF.trans sG)).hm
      refine ⟨_, rfl, m, rfl, .inl ⟨_, .inl hmG⟩, _, rfl, _, dget_ints (.inl hmG), ?_⟩
      rw [getD_int]
      refine ⟨rfl, _, rfl, iteNS (by rw [mgv d]) (kM1 _ _ (hide fun DM2 kM2 => ?_))⟩
      refine ⟨_, rfl, _, rfl, g, a, c, b, ps, ws, d, rfl, (GE.keep sF).keep sG, fun HI sI => ?_⟩
      have SI : Same HE HI := (sF.trans sG).trans sI
      have hmI := (GNE.keep SI).hm
      refine ⟨_, rfl, m, _, rfl, hmI, fun o => comp_items (fun i ys H' => ys = (((msD b ps ws (b ^ ps.sum)).take i).filter fun q => decide (q.1 ≤ (d : Int))).map (fun q => V.int q.2) ∧ Kp [m] HI H' ∧ H' m = some (.frz o (.dK (intsD (msD b ps ws (b ^ ps.sum)))))) ⟨rfl, kp_upd Kp.refl (.inl (by simp)), upd_same⟩ (fun i ys H' _ h => h.2.2)
        (fun i ys H' _ h => by
          rw [h.1]
          refine szl ?_
          rw [List.length_map]
          have h1 := List.length_filter_le (fun q : Int × Int => decide (q.1 ≤ (d : Int))) ((msD b ps ws (b ^ ps.sum)).take i)
          have h2 := List.length_take_le i (msD b ps ws (b ^ ps.sum))
          have h3 : ((msD b ps ws (b ^ ps.sum)).take i).length ≤ (msD b ps ws (b ^ ps.sum)).length := by rw [List.length_take]; exact Nat.min_le_right _ _
          lia) ?_ ?_⟩
      · rintro i kk v ys H' t2 hk ⟨rfl, kp, hm'⟩ ht2
        obtain ⟨pr, hpr, rfl, rfl⟩ := ints_at hk
        have mt : m ≠ t2 := ne_of_none hm' ht2
        refine ⟨t2, _, rfl, SqT.of upd_same, rfl, _, _, rfl, _, _, rfl, rfl, ?_⟩
        have kT : Kp [m] HI (upd H' t2 (.tup [kV (Sum.inl pr.1), .int pr.2])) := fun x o' e n => by rw [upd_ne (ne_of_none (kp x o' e n) ht2)]; exact kp x o' e n
        have mT : (upd H' t2 (.tup [kV (Sum.inl pr.1), .int pr.2])) m = some (.frz o (.dK (intsD (msD b ps ws (b ^ ps.sum))))) := by rw [upd_ne mt]; exact hm'
        refine ⟨_, rfl, _, rfl, _, _, rfl, rfl, _, rfl, ?_⟩
        by_cases hle : pr.1 ≤ (d : Int)
        · rw [decide_eq_true hle]
          refine iteT ⟨_, rfl, ?_, kT, mT⟩
          rw [List.take_add_one, hpr]
          simp [hle]
        · rw [decide_eq_false hle]
          refine iteF ⟨?_, kT, mT⟩
          rw [List.take_add_one, hpr]
          simp [hle]
      rintro ys H' ⟨rfl, kp, hm'⟩ fl hfl
      have el : (intsD (msD b ps ws (b ^ ps.sum))).length = (msD b ps ws (b ^ ps.sum)).length := by rw [intsD, List.length_map]
      rw [el, List.take_length]
      have emm : ((msD b ps ws (b ^ ps.sum)).filter fun q => decide (q.1 ≤ (d : Int))).map (fun q => V.int q.2) = (((msD b ps ws (b ^ ps.sum)).filter fun q => decide (q.1 ≤ (d : Int))).map (·.2)).map V.int := by rw [List.map_map]; rfl
      rw [emm]
      refine ⟨fl, _, rfl, SqL.of upd_same, rfl, _, rfl, iteNS (by rw [mnr d]) (kM2 _ _ ?_)⟩
      have mf : m ≠ fl := ne_of_none hm' hfl
      refine ⟨m, o, intsD (msD b ps ws (b ^ ps.sum)), by rw [upd_ne mf]; exact hm', mfr, kL _ _ ⟨_, rfl, fun x ob hx => ?_⟩⟩
      have hx' := SI x ob hx
      by_cases hxm : x = m
      · subst hxm
        rw [upd_same, ← hmI]
        exact hx'
      · have hk := kp x ob hx' (by simpa using hxm)
        rw [upd_ne hxm, upd_ne (ne_of_none hk hfl)]
        exact hk
    rintro σ HF ⟨v7, rfl, sF⟩
    refine k5 _ _ (hide fun R6 k6 => ?_)
    have GNF := GNE.keep sF
    have GF := GE.keep sF
    have SF := SE.keep sF
    have KF : Kp [st] H HF := KD.trans (Kp.of (sE.trans sF))
    -- one of them
    refine ⟨_, rfl, st, l, ds, 10007, rfl, SF, by decide, fun r3 HG r30 r31 SG kG => ⟨_, rfl, _, _, rfl, rfl, by lia, ?_⟩⟩
    have GNG := GNF.kp7 SF kG
    have GG := GF.kp7 SF kG
    have N0' : (0 : Int) < ((b ^ ps.sum : Nat) : Int) := by lia
    obtain ⟨n, hn⟩ : ∃ n : Nat, r3 % ((b ^ ps.sum : Nat) : Int) = n := ⟨(r3 % ((b ^ ps.sum : Nat) : Int)).toNat, by have := Int.emod_nonneg r3 (Int.ne_of_gt N0'); lia⟩
    have hnN : n < b ^ ps.sum := by have := Int.emod_lt_of_pos r3 N0'; lia
    refine k6 _ _ ?_
    dsimp only
    rw [hn]
    refine hide fun R7 k7 => ?_
    have hsl : 0 < (Mg.sumsN b n ps ws).length := by
      show 0 < (Ma.psums ps _).length
      rw [Ma.psums_len]; exact lp
    refine ⟨_, rfl, _, rfl, g, a, c, b, ps, ws, n, rfl, GG, hnN, fun su HI hsu sI uI => ?_⟩
    refine k7 _ _ (hide fun R8 k8 => ?_)
    refine ⟨_, rfl, _, rfl, g, a, c, b, ps, ws, n, rfl, GG.keep sI, hnN, fun su2 HJ hsu2 sJ uJ => ?_⟩
    have uJ' := sJ _ _ uI
    refine ⟨_, rfl, eq_self (datL uJ (datIs _)) (datL uJ' (datIs _)) (by simp only [PyData.canLay0, lays]) (by simp only [PyData.depth, depths]; decide) ⟨_, rfl, iteF ?_⟩⟩
    refine ⟨_, rfl, _, rfl, g, a, c, b, ps, ws, n, rfl, (GG.keep sI).keep sJ, hnN, fun HL sL => ?_⟩
    have uL := sL _ _ uJ'
    refine ⟨_, rfl, su, _, rfl, SqL.of uL, hsl, _, rfl, su, _, rfl, SqL.of uL, hsl, _, _, rfl, rfl, rfl, _, rfl, iteNS rfl ?_⟩
    refine k8 _ _ ?_
    have SL : Same HG HL := sI.trans (sJ.trans sL)
    refine ⟨_, rfl, _, rfl, _, rfl, g, a, c, b, ps, ws, e, m, p, qs, rfl, GG.keep SL, h3000, GNG.keep SL, fun HM sM => k _ ((SG.keep SL).keep sM) ?_⟩
    exact (KF.trans kG).trans (Kp.of (SL.trans sM))
end
end Hv
namespace Hv
open PySem L2
section
variable {P : Program} {w : World} {K : PySem.W.Frag} {mg : Str → Option Value} {base : Heap}
theorem scLaw : FnScope ["script", "store", "turn"] ["script"] (defScope sLaw) := ⟨rfl, rfl, rfl, by decide +kernel, rfl, by decide +kernel, by decide +kernel⟩
theorem ok_law {f : Addr} {fd : FuncData} (F : Fun K "law" "law" sLaw f fd) (T : Txt mg) (DW : Def P w K mg base 1 "_law_draws" ["script", "many"] (spDraws K)) (DF : Def P w K mg base 3 "_law_small_frame" ["store", "most"] spSmall)
    (DA : Def P w K mg base 11 "_law_right" ["store", "frame"] spRight) : FnOk P w K mg base CX0 12 f fd ["script"] (spLaw K) := by
  refine F.ok scLaw (fun vs H Q E h => ?_) (fun cdv A outer s H vs Q E hr h => ?_)
  · obtain ⟨a, ns, rfl, _⟩ := h; rfl
  · obtain ⟨a0, ns, rfl, hS, hlen, k⟩ := h
    have nd := scLaw.nd
    refine ⟨_, pss_cons (ps_set (i := 1) nd rfl (Or.inl rfl) (pe_lst (pa_cons (pe_fn DW (hr.mono (by decide)) (by rfl) (pa_cons (pv 0) (pa_cons pe_int pa_nil))) (pa_cons pe_int pa_nil))))
      (pss_cons (ps_for PassesOwn.never rfl (pi_range1 (by rfl) T.range (pa_cons pe_int pa_nil)) (pg_name (i := 2) nd rfl (Or.inl rfl))
        (pss_one (ps_if (pt_not (pt_val (pe_fn DA hr (by rfl) (pa_cons (pv 1) (pa_cons (pe_fn DF (hr.mono (by decide)) (by rfl) (pa_cons (pv 1) (pa_cons (ixl (pe_lst (pa_cons pe_int (pa_cons pe_int (pa_cons pe_int (pa_cons pe_int pa_nil))))) (pv 2)) pa_nil))) pa_nil))))) (pss_one (ps_ret pe_bl)) pss_nil)))
      (pss_one (ps_ret pe_bl))), ?_⟩
    refine ⟨_, rfl, a0, ns, rfl, hS, hlen, fun l H1 ds hl s1 h1 hne => ⟨sz (by simp), fun st hst => ?_⟩⟩
    have S2 : St7 (upd H1 st (.lst [.ref l, .int 0])) st l ds := ⟨⟨0, upd_same⟩, by rw [upd_ne (ne_of_none h1 hst)]; exact h1, hne⟩
    generalize upd H1 st (.lst [.ref l, .int 0]) = H2 at S2 ⊢
    refine ⟨_, rfl, by decide, by decide, for_range (n := (4 : Int).toNat) (fun i σ H' => ∃ (v2 : Option V), σ = [some (.ref a0), some (.ref st), v2] ∧ St7 H' st l ds) ⟨none, rfl, S2⟩ ?_ ?_⟩
    · rintro i σ H3 hi ⟨v2, rfl, S3⟩
      have hi' : i < 4 := hi
      refine ⟨_, rfl, _, rfl, sz (by simp), fun m hm => ⟨_, rfl, ?_⟩⟩
      obtain ⟨L, eL, hL⟩ := at_ints (ns := [3000, 500, 500, 500]) (i := 0 + (i : Int)) (Pr := fun n => 256 ≤ n ∧ n ≤ 3000) (by omega) (by simp; omega) (by simp)
      refine r_ixl upd_same eL ⟨st, l, ds, L, rfl, S3.keep (same_upd hm), hL.1, hL.2, fun f a c b ps ws H4 S4 k4 G4 h3 => ?_⟩
      refine ⟨st, l, ds, f, a, c, b, ps, ws, rfl, S4, G4, h3, fun H5 S5 k5 => ⟨_, rfl, iteF ?_⟩⟩
      exact ⟨_, rfl, S5⟩
    · rintro σ H3 ⟨v2, rfl, S3⟩
      exact k _
end
end Hv
namespace Hv
open PySem L2
structure FnIn (K : PySem.W.Frag) (x : Str) (st : Stmt) : Prop where
  ex : ∃ (f : Addr) (oc : Value) (od an : Option Addr) (osl : Array (Option Value)) (kV doc pm cdv ct : Value), PySem.W.nsIn K mainGlobals x = some (some (.ref f)) ∧
    K.lookup f = some ⟨oc, od, .func (PySem.W.fnOf x x (defArgs st) (defBody st) (defScope st) .none kV doc pm an cdv ct), osl⟩ ∧ PySem.W.codeIn K cdv x = true ∧ PySem.W.keepIn K (.ref f) = true
theorem fn_in {K : PySem.W.Frag} {x : Str} {st : Stmt} {f : Addr} {oc : Value} {od an : Option Addr} {osl : Array (Option Value)} {kV doc pm cdv ct : Value} (a : PySem.W.nsIn K mainGlobals x = some (some (.ref f)))
    (l : K.lookup f = some ⟨oc, od, .func (PySem.W.fnOf x x (defArgs st) (defBody st) (defScope st) .none kV doc pm an cdv ct), osl⟩) (c : PySem.W.codeIn K cdv x = true) (k : PySem.W.keepIn K (.ref f) = true) : FnIn K x st := ⟨f, oc, od, an, osl, kV, doc, pm, cdv, ct, a, l, c, k⟩
structure TxtIn (K : PySem.W.Frag) : Prop where
  isi : PySem.W.nsIn K mainGlobals "isinstance" = some none
  int : PySem.W.nsIn K mainGlobals "int" = some none
  bool : PySem.W.nsIn K mainGlobals "bool" = some none
  list : PySem.W.nsIn K mainGlobals "list" = some none
  tuple : PySem.W.nsIn K mainGlobals "tuple" = some none
  all : PySem.W.nsIn K mainGlobals "all" = some none
  len : PySem.W.nsIn K mainGlobals "len" = some none
  sum : PySem.W.nsIn K mainGlobals "sum" = some none
  range : PySem.W.nsIn K mainGlobals "range" = some none
  max : PySem.W.nsIn K mainGlobals "max" = some none
  min : PySem.W.nsIn K mainGlobals "min" = some none
  rev : PySem.W.nsIn K mainGlobals "reversed" = some none
  zip : PySem.W.nsIn K mainGlobals "zip" = some none
  enum : PySem.W.nsIn K mainGlobals "enumerate" = some none
theorem us0 {p : List Value → Prop} (h : p []) (us : List Value) (hl : us.length = 0) : p us := by rw [List.eq_nil_of_length_eq_zero hl]; exact h
theorem usS {n : Nat} {p : List Value → Prop} (h : ∀ a r, r.length = n → p (a :: r)) (us : List Value) (hl : us.length = n + 1) : p us := by
  cases us with
  | nil => cases hl
  | cons a r => exact h a r (Nat.succ.inj hl)
theorem us1 {p : List Value → Prop} (h : ∀ a, p [a]) : ∀ us : List Value, us.length = 1 → p us := usS fun a => us0 (p := fun r => p (a :: r)) (h a)
theorem us2 {p : List Value → Prop} (h : ∀ a b, p [a, b]) : ∀ us : List Value, us.length = 2 → p us := usS fun a => us1 (p := fun r => p (a :: r)) (h a)
theorem us3 {p : List Value → Prop} (h : ∀ a b c, p [a, b, c]) : ∀ us : List Value, us.length = 3 → p us := usS fun a => us2 (p := fun r => p (a :: r)) (h a)
section
variable {P : Program} {w : World} {K : PySem.W.Frag} {mg : Str → Option Value} {base h : Heap}
theorem TxtIn.txt (T : TxtIn K) (X : K.In h) (G : h.Ns mainGlobals mg) : Txt mg :=
  have e : ∀ x, PySem.W.nsIn K mainGlobals x = some none → mg x = none := fun x z => PySem.W.mg_none_of X G z
  ⟨e _ T.isi, e _ T.int, e _ T.bool, e _ T.list, e _ T.tuple, e _ T.all, e _ T.len, e _ T.sum, e _ T.range, e _ T.max, e _ T.min, e _ T.rev, e _ T.zip, e _ T.enum⟩
theorem def_of {x : Str} {st : Stmt} {k : Nat} {ps : List Str} {sp : Sp} (D : FnIn K x st) (X : K.In h) (G : h.Ns mainGlobals mg) (ok : ∀ f fd, Fun K x x st f fd → FnOk P w K mg base CX0 k f fd ps sp)
    (hb : ∀ (kV doc pm : Value) (an : Option Addr) (cdv ct : Value) (us : List Value), us.length = ps.length → bindArgs (PySem.W.fnOf x x (defArgs st) (defBody st) (defScope st) .none kV doc pm an cdv ct) ⟨us, []⟩ = pure (ps.zip us)) : Def P w K mg base k x ps sp := by
  obtain ⟨f, oc, od, an, osl, kV, doc, pm, cdv, ct, a, l, c, kp⟩ := D.ex
  have F := fun_mk (st := st) l c kp
  exact ⟨f, _, ok _ _ F, PySem.W.mg_of X G a, kp, F.binds hb⟩
end
end Hv
namespace Hv
open PySem L2
theorem all_mk {l : PySem.W.OpenLaw} {w : World} {K : PySem.W.Frag} {h : Heap} {mg : Str → Option Value} {fa : Addr} (X : K.In h) (G : h.Ns mainGlobals mg) (hfa : mg "law" = some (.ref fa)) (TI : TxtIn K)
    (i0 : FnIn K "is_whole" sWhole)
    (i1 : FnIn K "is_between" sBetw)
    (i2 : FnIn K "is_list_between" sLBetw)
    (i3 : FnIn K "is_frame" sIsFrame)
    (i4 : FnIn K "need_frame" sNeedFrame)
    (i5 : FnIn K "how_many" sHowMany)
    (i6 : FnIn K "need_number" sNeedNumber)
    (i7 : FnIn K "cut_by_parts" sCut)
    (i8 : FnIn K "figures_of" sFiguresOf)
    (i9 : FnIn K "part_sums" sPartSums)
    (i10 : FnIn K "misses_by" sMissesBy)
    (i11 : FnIn K "with_one_more_figure" sOneMore)
    (i12 : FnIn K "ways_of_weights" sWaysW)
    (i13 : FnIn K "ways_of_parts" sWaysParts)
    (i14 : FnIn K "ways_with" sWaysWith)
    (i15 : FnIn K "even_by_sums" sEvenBy)
    (i16 : FnIn K "ways_of_part" sWaysPart)
    (i17 : FnIn K "count_even" sCountEven)
    (i18 : FnIn K "count_even_with" sCountWith)
    (i19 : FnIn K "need_miss" sNeedMiss)
    (i20 : FnIn K "running_counts" sRunning)
    (i21 : FnIn K "ways_within" sWithin)
    (i22 : FnIn K "count_spread_within" sSpreadW)
    (i23 : FnIn K "count_near" sCountNear)
    (i24 : FnIn K "count_missing" sCountMissing)
    (i25 : FnIn K "_law_draws" sDraws)
    (i26 : FnIn K "_law_take" sTake)
    (i27 : FnIn K "_law_frame" sFrame)
    (i28 : FnIn K "_law_small_frame" sSmallFrame)
    (i29 : FnIn K "_law_sums_of" sSumsOf)
    (i30 : FnIn K "_law_gone_through" sGone)
    (i31 : FnIn K "_law_parts_right" sPartsRight)
    (i32 : FnIn K "_law_right" sRight)
    (ndict : PySem.W.nsIn K mainGlobals "dict" = some none)
    (nsorted : PySem.W.nsIn K mainGlobals "sorted" = some none)
    (nabs : PySem.W.nsIn K mainGlobals "abs" = some none)
    (jl : FnIn K "law" sLaw) :
    ∃ fd : FuncData, (∀ (s : Shared) (v : Value), BindsTo s fd ⟨[v], []⟩ [("script", v)]) ∧ ∀ base : Heap, K.In base → base.Ns mainGlobals mg → FnOk l.prog w K mg base CX0 12 fa fd ["script"] (spLaw K) := by
  have T := TI.txt X G
  obtain ⟨f, oc, od, an, osl, kV, doc, pm, cdv, ct, a, lk, c, kp⟩ := jl.ex
  have e := hfa.symm.trans (PySem.W.mg_of X G a)
  cases e
  have F := fun_mk (st := sLaw) lk c kp
  refine ⟨PySem.W.fnOf "law" "law" (defArgs sLaw) (defBody sLaw) (defScope sLaw) .none kV doc pm an cdv ct, fun s v => .of_eq rfl, fun base BX _ => ?_⟩
  have ndict : mg "dict" = none := PySem.W.mg_none_of X G ndict
  have nsorted : mg "sorted" = none := PySem.W.mg_none_of X G nsorted
  have nabs : mg "abs" = none := PySem.W.mg_none_of X G nabs
  have d_is_whole : Def l.prog w K mg base 1 "is_whole" ["thing"] spWhole := def_of i0 X G (fun _ _ F => ok_whole F T) fun _ _ _ _ _ _ => us1 fun _ => rfl
  have d_is_between : Def l.prog w K mg base 2 "is_between" ["thing", "least", "greatest"] spBetw := def_of i1 X G (fun _ _ F => ok_betw F d_is_whole) fun _ _ _ _ _ _ => us3 fun _ _ _ => rfl
  have d_is_list_between : Def l.prog w K mg base 3 "is_list_between" ["thing", "least", "greatest"] spLBetw := def_of i2 X G (fun _ _ F => ok_lbetw F T d_is_between) fun _ _ _ _ _ _ => us3 fun _ _ _ => rfl
  have d_is_frame : Def l.prog w K mg base 4 "is_frame" ["thing"] spIsFrame := def_of i3 X G (fun _ _ F => ok_isframe F T d_is_between d_is_list_between) fun _ _ _ _ _ _ => us1 fun _ => rfl
  have d_need_frame : Def l.prog w K mg base 5 "need_frame" ["thing"] spNeedFrame := def_of i4 X G (fun _ _ F => ok_needframe F d_is_frame) fun _ _ _ _ _ _ => us1 fun _ => rfl
  have d_how_many : Def l.prog w K mg base 6 "how_many" ["frame"] spHowMany := def_of i5 X G (fun _ _ F => ok_howmany F T d_need_frame) fun _ _ _ _ _ _ => us1 fun _ => rfl
  have d_need_number : Def l.prog w K mg base 7 "need_number" ["frame", "thing"] spNeedNumber := def_of i6 X G (fun _ _ F => ok_neednumber F d_is_between d_how_many) fun _ _ _ _ _ _ => us2 fun _ _ => rfl
  have d_cut_by_parts : Def l.prog w K mg base 1 "cut_by_parts" ["frame", "row"] spCut := def_of i7 X G (fun _ _ F => ok_cut F) fun _ _ _ _ _ _ => us2 fun _ _ => rfl
  have d_figures_of : Def l.prog w K mg base 8 "figures_of" ["frame", "n"] spFigures := def_of i8 X G (fun _ _ F => ok_figuresof F T d_need_frame d_need_number) fun _ _ _ _ _ _ => us2 fun _ _ => rfl
  have d_part_sums : Def l.prog w K mg base 9 "part_sums" ["frame", "n"] spSums := def_of i9 X G (fun _ _ F => ok_partsums F T d_figures_of d_cut_by_parts) fun _ _ _ _ _ _ => us2 fun _ _ => rfl
  have d_misses_by : Def l.prog w K mg base 10 "misses_by" ["frame", "n"] spMisses := def_of i10 X G (fun _ _ F => ok_misses F T d_part_sums) fun _ _ _ _ _ _ => us2 fun _ _ => rfl
  have d_with_one_more_figure : Def l.prog w K mg base 1 "with_one_more_figure" ["ways", "base", "weight"] spOneMore := def_of i11 X G (fun _ _ F => ok_onemore F T) fun _ _ _ _ _ _ => us3 fun _ _ _ => rfl
  have d_ways_of_weights : Def l.prog w K mg base 2 "ways_of_weights" ["base", "weights"] spWaysW := def_of i12 X G (fun _ _ F => ok_waysw F T ndict nsorted d_with_one_more_figure) fun _ _ _ _ _ _ => us2 fun _ _ => rfl
  have d_ways_of_parts : Def l.prog w K mg base 3 "ways_of_parts" ["frame"] spWaysParts := def_of i13 X G (fun _ _ F => ok_waysparts F T d_cut_by_parts d_ways_of_weights) fun _ _ _ _ _ _ => us1 fun _ => rfl
  have d_ways_with : Def l.prog w K mg base 1 "ways_with" ["ways_by_part", "total"] spWaysWith := def_of i14 X G (fun _ _ F => ok_wayswith F) fun _ _ _ _ _ _ => us2 fun _ _ => rfl
  have d_even_by_sums : Def l.prog w K mg base 6 "even_by_sums" ["frame"] spEvenBy := def_of i15 X G (fun _ _ F => ok_evenby F d_need_frame d_ways_of_parts d_ways_with) fun _ _ _ _ _ _ => us1 fun _ => rfl
  have d_ways_of_part : Def l.prog w K mg base 6 "ways_of_part" ["frame", "part"] spWaysPart := def_of i16 X G (fun _ _ F => ok_wayspart F T d_need_frame d_is_whole d_cut_by_parts d_ways_of_weights) fun _ _ _ _ _ _ => us2 fun _ _ => rfl
  have d_count_even : Def l.prog w K mg base 7 "count_even" ["frame"] spCountEven := def_of i17 X G (fun _ _ F => ok_counteven F T d_even_by_sums) fun _ _ _ _ _ _ => us1 fun _ => rfl
  have d_count_even_with : Def l.prog w K mg base 6 "count_even_with" ["frame", "s"] spCountWith := def_of i18 X G (fun _ _ F => ok_countwith F d_need_frame d_is_whole d_ways_of_parts d_ways_with) fun _ _ _ _ _ _ => us2 fun _ _ => rfl
  have d_need_miss : Def l.prog w K mg base 2 "need_miss" ["thing"] spNeedMiss := def_of i19 X G (fun _ _ F => ok_needmiss F d_is_whole) fun _ _ _ _ _ _ => us1 fun _ => rfl
  have d_running_counts : Def l.prog w K mg base 1 "running_counts" ["ways", "low", "high"] spRunning := def_of i20 X G (fun _ _ F => ok_running F T) fun _ _ _ _ _ _ => us3 fun _ _ _ => rfl
  have d_ways_within : Def l.prog w K mg base 1 "ways_within" ["running_by_part", "start", "end"] spWithin := def_of i21 X G (fun _ _ F => ok_within F) fun _ _ _ _ _ _ => us3 fun _ _ _ => rfl
  have d_count_spread_within : Def l.prog w K mg base 2 "count_spread_within" ["ways_by_part", "width"] spSpread := def_of i22 X G (fun _ _ F => ok_spread F T d_running_counts d_ways_within) fun _ _ _ _ _ _ => us2 fun _ _ => rfl
  have d_count_near : Def l.prog w K mg base 6 "count_near" ["frame", "d"] spCountNear := def_of i23 X G (fun _ _ F => ok_countnear F d_need_frame d_need_miss d_ways_of_parts d_count_spread_within) fun _ _ _ _ _ _ => us2 fun _ _ => rfl
  have d_count_missing : Def l.prog w K mg base 6 "count_missing" ["frame", "d"] spCountMissing := def_of i24 X G (fun _ _ F => ok_countmissing F d_need_frame d_need_miss d_ways_of_parts d_count_spread_within) fun _ _ _ _ _ _ => us2 fun _ _ => rfl
  have d_law_draws : Def l.prog w K mg base 1 "_law_draws" ["script", "many"] (spDraws K) := def_of i25 X G (fun _ _ F => ok_draws F T nabs) fun _ _ _ _ _ _ => us2 fun _ _ => rfl
  have d_law_take : Def l.prog w K mg base 1 "_law_take" ["store", "many"] spTake7 := def_of i26 X G (fun _ _ F => ok_take F T) fun _ _ _ _ _ _ => us2 fun _ _ => rfl
  have d_law_frame : Def l.prog w K mg base 2 "_law_frame" ["store", "most"] spFrame7 := def_of i27 X G (fun _ _ F => ok_frame F T d_law_take) fun _ _ _ _ _ _ => us2 fun _ _ => rfl
  have d_law_small_frame : Def l.prog w K mg base 3 "_law_small_frame" ["store", "most"] spSmall := def_of i28 X G (fun _ _ F => ok_small F T d_law_frame) fun _ _ _ _ _ _ => us2 fun _ _ => rfl
  have d_law_sums_of : Def l.prog w K mg base 1 "_law_sums_of" ["frame", "n"] spSumsOf := def_of i29 X G (fun _ _ F => ok_sumsof F T) fun _ _ _ _ _ _ => us2 fun _ _ => rfl
  have d_law_gone_through : Def l.prog w K mg base 2 "_law_gone_through" ["frame", "many"] spGone := def_of i30 X G (fun _ _ F => ok_gone F T d_law_sums_of) fun _ _ _ _ _ _ => us2 fun _ _ => rfl
  have d_law_parts_right : Def l.prog w K mg base 7 "_law_parts_right" ["frame", "many", "parts"] spPartsR2 := def_of i31 X G (fun _ _ F => ok_partsright F T ndict d_ways_of_part) fun _ _ _ _ _ _ => us3 fun _ _ _ => rfl
  have d_law_right : Def l.prog w K mg base 11 "_law_right" ["store", "frame"] spRight := def_of i32 X G (fun _ _ F => ok_right F T d_how_many d_law_gone_through d_even_by_sums d_count_even d_count_even_with d_count_missing d_count_near d_law_take d_law_sums_of d_part_sums d_misses_by d_law_parts_right) fun _ _ _ _ _ _ => us2 fun _ _ => rfl
  exact ok_law F T d_law_draws d_law_small_frame d_law_right
theorem walk {l : PySem.W.OpenLaw} {q : Program} {loose : List Str} {XP : (Str → Option Value) → Heap → Prop} {YP : World → Heap → Prop} {d : DefRec} {K : Params → PySem.W.Frag} (hn : l.most = some 63) (hdf : d.params.defaults = [])
    (hY : ∀ (w : World) (h : Heap), YP w h → (K w.params).In h)
    (F : ∀ (w : World) (mg : Str → Option Value) (fa : Addr) (h : Heap), (K w.params).In h → h.Ns mainGlobals mg → mg d.name = some (.ref fa) →
      ∃ fd : FuncData, (∀ (s : Shared) (u : Value), BindsTo s fd ⟨[u], []⟩ [("script", u)]) ∧ ∀ base : Heap, (K w.params).In base → base.Ns mainGlobals mg → FnOk l.prog w (K w.params) mg base CX0 12 fa fd ["script"] (spLaw (K w.params))) :
    PySem.W.WalkO q loose XP YP l.row.toRowW d [] (fun f vs => PySem.call f vs) :=
  L2.walk_of (n := 63) (k := 12) (x := "script") (CX := fun _ => CX0) (sp := fun w => spLaw (K w.params)) hn (by decide) hdf ⟨rfl, by decide, by decide, rfl⟩ hY F (fun _ _ a ns hl _ hS => ⟨a, ns, rfl, hS, hl, fun _ => rfl⟩) fun _ _ _ _ _ z => z
end Hv
open PySem PySem.W PyProof.Rows
set_option maxRecDepth 100000 in
set_option maxHeartbeats 0 in
theorem PySem.Challenge.cw_likehalves_k12_whole_small_frames_holds : PySem.Challenge.rw_likehalves_k12_whole_small_frames.Holds := by
  w_on; o_law; k_head; (case hw => w_witness2)
  k_fill
  refine Hv.walk (l := PySem.Challenge.rw_likehalves_k12_whole_small_frames) rfl rfl (fun w h Y => PySem.W.kIn_of Y) ?F
  case F =>
    intro w mg fa h KX G hmg
    refine' Hv.all_mk KX G hmg ?t ?i0 ?i1 ?i2 ?i3 ?i4 ?i5 ?i6 ?i7 ?i8 ?i9 ?i10 ?i11 ?i12 ?i13 ?i14 ?i15 ?i16 ?i17 ?i18 ?i19 ?i20 ?i21 ?i22 ?i23 ?i24 ?i25 ?i26 ?i27 ?i28 ?i29 ?i30 ?i31 ?i32 ?ndict ?nsorted ?nabs ?jl
    case ndict => k_is
    case nsorted => k_is
    case nabs => k_is
    case t => refine ⟨?_, ?_, ?_, ?_, ?_, ?_, ?_, ?_, ?_, ?_, ?_, ?_, ?_, ?_⟩ <;> k_is
    all_goals
      refine' Hv.fn_in ?a ?l ?c ?k
      (case a => k_is); (case l => k_is); (case c => k_is); (case k => k_is)
#print axioms PySem.Challenge.cw_likehalves_k12_whole_small_frames_holds
