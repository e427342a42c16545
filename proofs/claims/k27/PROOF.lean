import PyProof.Rows.All
import Wide.All
import OpenK.AllK
import Wide.FinOn
import Lean
import PyProof.EqAt
import PyProof.EqKinds
import PyProof.TupleCall
import PyProof.LongRange
import PyProof.AttrMissSeq
import PyProof.DictUpdate
import PyProof.WalksS
import KE.KDictOf
import PyProof.ListRange
import KE.KEqDict
import KE.KDictList
import KE.KTurnsDict
import KE.KPairComp
import PyProof.Rows.SortShell
import PyProof.SumWalkG
import PyProof.ReprRoads
import PyProof.ReprLen
import PyProof.StationsW
import PyProof.Rows.TopTwo
import OpenK.KOwn
import PyProof.RulesDel
import PyProof.Rows.CatchOwn
import PyProof.RulesAs
import KE.KIsAll
import PyProof.ExcArgs
import PySem.Challenge.RW_likehalves_k27_together_refused
set_option compiler.extract_closed false
set_option genSizeOf false
set_option Elab.async false
set_option linter.all false
set_option maxRecDepth 100000
namespace L2
open PySem PySem.Spec PyProof.Rows

noncomputable abbrev Key := Sum Int Str
noncomputable def keyIs : Key → Value → Bool
  | .inl k, v => Value.isInt k v
  | .inr x, v => Value.isStrOf x v
noncomputable def keyH (w : World) : Key → Int
  | .inl k => hashInt k
  | .inr x => hashStr w x
theorem keyIs_shape : ∀ {k : Key} {v : Value}, keyIs k v = true → (∃ i t, k = Sum.inl i ∧ v = Value.int i t) ∨ (∃ x t, k = Sum.inr x ∧ v = Value.str x t)
  | .inl i, v, h => by
    obtain ⟨t, e⟩ := Value.isInt_shape (k := i) (v := v) h
    exact .inl ⟨i, t, rfl, e⟩
  | .inr x, v, h => by
    obtain ⟨t, e⟩ := Value.isStrOf_shape (x := x) (v := v) h
    exact .inr ⟨x, t, rfl, e⟩
theorem key_ll (a b : Int) : decide ((Sum.inl a : Key) = Sum.inl b) = (a == b) := by
  by_cases e : a = b
  · subst e; simp
  · have h : ¬ (Sum.inl a : Key) = Sum.inl b := fun q => e (Sum.inl.inj q)
    rw [decide_eq_false h]
    exact (beq_eq_false_iff_ne.mpr e).symm
theorem key_rr (a b : Str) : decide ((Sum.inr a : Key) = Sum.inr b) = decide (a = b) := by
  by_cases e : a = b
  · subst e; simp
  · have h : ¬ (Sum.inr a : Key) = Sum.inr b := fun q => e (Sum.inr.inj q)
    rw [decide_eq_false h, decide_eq_false e]
theorem key_lr (a : Int) (b : Str) : decide ((Sum.inl a : Key) = Sum.inr b) = false := decide_eq_false (fun q => nomatch q)
theorem key_rl (a : Str) (b : Int) : decide ((Sum.inr a : Key) = Sum.inl b) = false := decide_eq_false (fun q => nomatch q)

noncomputable def mixKind (prog : Program) (w : World) : PySem.KeyKind prog w Key where
  is := keyIs
  hash := keyH w
  inj := fun v a b ha hb => by
    rcases keyIs_shape ha with ⟨i, t, rfl, rfl⟩ | ⟨x, t, rfl, rfl⟩
    · rcases keyIs_shape hb with ⟨j, u, rfl, e⟩ | ⟨y, u, rfl, e⟩
      · injection e with e1 _; rw [e1]
      · exact nomatch e
    · rcases keyIs_shape hb with ⟨j, u, rfl, e⟩ | ⟨y, u, rfl, e⟩
      · exact nomatch e
      · injection e with e1 _; rw [e1]
  byValue := fun k v h => by
    rcases keyIs_shape h with ⟨i, t, rfl, rfl⟩ | ⟨x, t, rfl, rfl⟩ <;> rfl
  pyHash := fun hv h => by
    rcases keyIs_shape hv with ⟨i, t, rfl, rfl⟩ | ⟨x, t, rfl, rfl⟩
    · exact wpAny_pyHash_int h
    · exact wpAny_pyHash_str h
  eqBool := fun hu hv h => by
    rcases keyIs_shape hu with ⟨i, t, rfl, rfl⟩ | ⟨x, t, rfl, rfl⟩
    · rcases keyIs_shape hv with ⟨j, u, rfl, rfl⟩ | ⟨y, u, rfl, rfl⟩
      · rw [key_ll] at h; exact wpAny_eqBool_int h
      · rw [key_lr] at h; exact SeqAt.EqAt.int_str i t y u _ _ _ _ h
    · rcases keyIs_shape hv with ⟨j, u, rfl, rfl⟩ | ⟨y, u, rfl, rfl⟩
      · rw [key_rl] at h; exact SeqAt.EqAt.str_int x t j u _ _ _ _ h
      · rw [key_rr] at h; exact wpAny_eqBool_str h
  «strs» := fun k x t v h => by
    rcases keyIs_shape h with ⟨i, u, rfl, e⟩ | ⟨y, u, rfl, e⟩
    · exact nomatch e
    · injection e with e1 _
      subst e1
      cases v <;> rfl

end L2

namespace L2
open PySem PySem.Spec PyProof.Rows

inductive V where
  | non | bl (b : Bool) | int (i : Int) | str (x : Str) | byt (b : Array UInt8) | flt (b : UInt64) | ref (a : Addr) | ty (n : String)
  deriving DecidableEq

noncomputable def RelV : V → Value → Prop
  | .non, u => u = Value.none
  | .bl b, u => u = Value.bool b
  | .int i, u => ∃ t, u = Value.int i t
  | .str x, u => ∃ t, u = Value.str x t
  | .byt b, u => ∃ t, u = Value.bytes b t
  | .flt b, u => ∃ t, u = Value.float b t
  | .ref a, u => u = Value.ref a
  | .ty n, u => u = Value.type n

noncomputable abbrev Vals : List V → List Value → Prop := Paired RelV
theorem Vals.length {xs : List V} {us : List Value} (r : Vals xs us) : xs.length = us.length := Paired.length r
theorem Vals.get : ∀ {xs : List V} {us : List Value} {i : Nat} {x : V}, Vals xs us → xs[i]? = some x → ∃ u, us[i]? = some u ∧ RelV x u
  | _, _, _, _, .nil, e => by simp at e
  | _, _, 0, _, .cons r _, e => by simp at e; subst e; exact ⟨_, rfl, r⟩
  | _, _, i + 1, x, .cons _ t, e => by
    obtain ⟨u, h1, h2⟩ := Vals.get (i := i) (x := x) t (by simpa using e)
    exact ⟨u, by simpa using h1, h2⟩
theorem Vals.set {x : V} {u : Value} (r : RelV x u) : ∀ {xs : List V} {us : List Value} (i : Nat), Vals xs us → Vals (xs.set i x) (us.set i u)
  | _, _, _, .nil => .nil
  | _, _, 0, .cons _ t => .cons r t
  | _, _, i + 1, .cons q t => .cons q (Vals.set r i t)
theorem Vals.append {xs ys : List V} {us ws : List Value} (a : Vals xs us) (b : Vals ys ws) : Vals (xs ++ ys) (us ++ ws) := by
  induction a with
  | nil => exact b
  | cons r _ ih => exact .cons r ih
theorem Vals.take : ∀ {xs : List V} {us : List Value} (n : Nat), Vals xs us → Vals (xs.take n) (us.take n)
  | _, _, 0, _ => .nil
  | _, _, _ + 1, .nil => .nil
  | _, _, n + 1, .cons r t => .cons r (Vals.take n t)
theorem Vals.drop : ∀ {xs : List V} {us : List Value} (n : Nat), Vals xs us → Vals (xs.drop n) (us.drop n)
  | _, _, 0, r => r
  | _, _, _ + 1, .nil => .nil
  | _, _, n + 1, .cons _ t => Vals.drop n t
theorem Vals.none_of : ∀ {xs : List V} {us : List Value} {i : Nat}, Vals xs us → xs[i]? = none → us[i]? = none := fun {xs us i} r e => by
  have h1 := r.length
  have h2 : xs.length ≤ i := List.getElem?_eq_none_iff.mp e
  exact List.getElem?_eq_none_iff.mpr (by omega)

noncomputable def RelO : Option V → Option Value → Prop
  | some v, some u => RelV v u
  | none, none => True
  | _, _ => False
noncomputable def KV {κ : Type} : List (κ × V) → List (κ × Value) → Prop := Paired fun (p : κ × V) (q : κ × Value) => p.1 = q.1 ∧ RelV p.2 q.2

noncomputable def kV : Key → V
  | .inl i => .int i
  | .inr x => .str x

inductive HO where
  /-- a list -/
  | lst (xs : List V)
  /-- a tuple (never changes) -/
  | tup (xs : List V)
  /-- a dict whose keys are ints and texts; one whose keys are tuples of ints and texts (the empty one is both) -/
  | dK (kvs : List (Key × V)) | dT (kvs : List (List Key × V))
  /-- a set of ints: its members, its size -/
  | set (S : Int → Bool) (n : Nat)
  /-- an instance of the class at C, its dict at dx, its attributes -/
  | ins (C dx : Addr) (fs : List (Str × V))
  /-- the dict of the instance at x -/
  | own (x : Addr)
  /-- the dict of an exception -/
  | xd (fs : List (Str × V))
  /-- a bound method, f of x -/
  | met (f x : Addr)
  /-- a range object lo, lo + 1, .. below hi -/
  | rng (lo hi : Int)
  /-- a thing that is known to the object (the script; a dict while a loop walks it): read, never written while it is so -/
  | frz (o : Obj) (u : HO)
  /-- a code object's table -/
  | tbl (ps : Array Value)
  /-- any other thing, by what is true of its one object (a def of one's own: SetO a S n := HO.ext fun h => ..) -/
  | ext (φ : Heap → Prop)

noncomputable abbrev Hp := Addr → Option HO
noncomputable def upd (H : Hp) (a : Addr) (o : HO) : Hp := fun b => if b = a then some o else H b
theorem upd_same {H : Hp} {a : Addr} {o : HO} : upd H a o a = some o := by unfold upd; rw [if_pos rfl]
theorem upd_ne {H : Hp} {a b : Addr} {o : HO} (h : b ≠ a) : upd H a o b = H b := by unfold upd; rw [if_neg h]
theorem ne_of {H : Hp} {a b : Addr} {o u : HO} (h : H a = some o) (h' : H b = some u) (d : o ≠ u) : a ≠ b := by
  intro e; subst e; rw [h] at h'; exact d (Option.some.inj h')
theorem ne_of_none {H : Hp} {a b : Addr} {o : HO} (h : H a = some o) (h' : H b = none) : a ≠ b := by
  intro e; subst e; rw [h] at h'; cases h'

section
variable (P : Program) (w : World)
noncomputable def ObjOk (H : Hp) (h : Heap) (a : Addr) : HO → Prop
  | .lst xs => xs.length ≤ sizeLine ∧ ∃ (its : List Value) (n : Nat), Vals xs its ∧ h.get? a = some { cls := .type "list", data := .seq its.toArray n }
  | .tup xs => xs.length ≤ sizeLine ∧ ∃ its : List Value, Vals xs its ∧ IsTup h a its.toArray
  | .dK kvs => kvs.length ≤ sizeLine ∧ (a == sysModules) = false ∧ ∃ vs, KV kvs vs ∧ h.DictOf (mixKind P w) a vs
  | .dT kvs => kvs.length ≤ sizeLine ∧ (a == sysModules) = false ∧ ∃ xs : List (List Key × Addr × Value),
      Paired (fun (p : List Key × V) (q : List Key × Addr × Value) => p.1 = q.1 ∧ H q.2.1 = some (.tup (p.1.map kV)) ∧ RelV p.2 q.2.2) kvs xs ∧
      ∃ o es ep, h.get? a = some o ∧ o.ExactDict ∧ o.data = .dict es ep ∧ es.toList = xs.map (entryOfKey (tupleKind (mixKind P w))) ∧ (xs.map (·.1)).Nodup
  | .set S n => h.SetOf (intKind P w) a S n
  | .ins C dx fs => H dx = some (.own a) ∧ fs.length ≤ 1000 ∧ dx ≠ a ∧ h.get? a = some (PySem.W.instObj C dx) ∧
      ∃ mA, h.Ns1 dx mA ∧ (∀ f, RelO (fs.lookup f) (mA f)) ∧ PySem.Within mA (fs.map (·.1))
  | .own _ => ∃ o, h.get? a = some o
  | .xd fs => ∃ mA, h.Ns1 a mA ∧ ∀ f, RelO (fs.lookup f) (mA f)
  | .rng lo hi => ∃ t u v, h.get? a = some { cls := .type "range", data := .fields #[.int lo t, .int hi u, .int 1 v] }
  | .frz o u => h.get? a = some o ∧ ObjOk H h a u
  | .tbl ps => h.get? a = some { cls := .none, data := .fields ps }
  | .met f x => h.get? a = some (PySem.W.methodObj (.ref f) (.ref x))
  | .ext φ => φ h ∧ (∃ o, h.get? a = some o) ∧ ∀ h1 h2 : Heap, φ h1 → (∀ o, h1.get? a = some o → h2.get? a = some o) → φ h2
noncomputable def HOk (H : Hp) (h : Heap) : Prop := ∀ a o, H a = some o → ObjOk P w H h a o
end

section
variable {P : Program} {w : World} {H H' : Hp} {h h' : Heap} {a : Addr} {o : HO}
theorem ObjOk.lt (x : ObjOk P w H h a o) : a < h.objs.size := by
  cases o with
  | lst xs => obtain ⟨_, _, _, _, e⟩ := x; exact Heap.lt_size e
  | tup xs => obtain ⟨_, _, _, p⟩ := x; exact p.lt
  | dK kvs => obtain ⟨_, _, _, _, o, _, _, e, _⟩ := x; exact Heap.lt_size e
  | dT kvs => obtain ⟨_, _, _, _, o, _, _, e, _⟩ := x; exact Heap.lt_size e
  | set S n => obtain ⟨o, _, _, _, e, _⟩ := x; exact Heap.lt_size e
  | ins C dx fs => obtain ⟨_, _, _, e, _⟩ := x; exact Heap.lt_size e
  | own y => obtain ⟨_, e⟩ := x; exact Heap.lt_size e
  | xd fs => obtain ⟨_, ⟨_, _, _, e, _⟩, _⟩ := x; exact Heap.lt_size e
  | rng lo hi => obtain ⟨_, _, _, e⟩ := x; exact Heap.lt_size e
  | frz ob u => obtain ⟨e, _⟩ := x; exact Heap.lt_size e
  | tbl ps => exact Heap.lt_size (show h.get? a = some _ from x)
  | met f y => exact Heap.lt_size (show h.get? a = some _ from x)
  | ext φ => obtain ⟨_, ⟨_, e⟩, _⟩ := x; exact Heap.lt_size e
theorem Paired.mapP {α β : Type} {F G : α → β → Prop} {l₁ : List α} {l₂ : List β} (h : Paired F l₁ l₂) (f : ∀ a b, F a b → G a b) : Paired G l₁ l₂ := by
  induction h with
  | nil => exact .nil
  | cons r _ ih => exact .cons (f _ _ r) ih
theorem ObjOk.stay (x : ObjOk P w H h a o) (k : ∀ b u, (b = a ∨ H b = some (.own a)) → h.get? b = some u → h'.get? b = some u)
    (ho : ∀ b, H b = some (.own a) → H' b = some (.own a)) (ht : ∀ b xs, H b = some (.tup xs) → H' b = some (.tup xs)) : ObjOk P w H' h' a o := by
  induction o with
  | lst xs => obtain ⟨z, its, n, r, e⟩ := x; exact ⟨z, its, n, r, k _ _ (.inl rfl) e⟩
  | tup xs => obtain ⟨z, its, r, ob, e, c⟩ := x; exact ⟨z, its, r, ob, k _ _ (.inl rfl) e, c⟩
  | dK kvs => obtain ⟨z, y, vs, r, ob, es, ep, e, c⟩ := x; exact ⟨z, y, vs, r, ob, es, ep, k _ _ (.inl rfl) e, c⟩
  | dT kvs =>
    obtain ⟨z, y, xs, r, ob, es, ep, e, c⟩ := x
    exact ⟨z, y, xs, Paired.mapP r fun p q z => ⟨z.1, ht _ _ z.2.1, z.2.2⟩, ob, es, ep, k _ _ (.inl rfl) e, c⟩
  | set S n => obtain ⟨ob, es, ep, t, e, c⟩ := x; exact ⟨ob, es, ep, t, k _ _ (.inl rfl) e, c⟩
  | ins C dx fs =>
    obtain ⟨d, z, ne, e, mA, ⟨od, es, ep, e2, c⟩, r⟩ := x
    exact ⟨ho _ d, z, ne, k _ _ (.inl rfl) e, mA, ⟨od, es, ep, k _ _ (.inr d) e2, c⟩, r⟩
  | own y => obtain ⟨ob, e⟩ := x; exact ⟨ob, k _ _ (.inl rfl) e⟩
  | xd fs => obtain ⟨mA, ⟨od, es, ep, e, c⟩, r⟩ := x; exact ⟨mA, ⟨od, es, ep, k _ _ (.inl rfl) e, c⟩, r⟩
  | rng lo hi => obtain ⟨t, u, v, e⟩ := x; exact ⟨t, u, v, k _ _ (.inl rfl) e⟩
  | frz ob u ih => obtain ⟨e, q⟩ := x; exact ⟨k _ _ (.inl rfl) e, ih q⟩
  | tbl ps =>
    have e : h.get? a = some { cls := .none, data := .fields ps } := x
    show h'.get? a = some { cls := .none, data := .fields ps }
    exact k a _ (.inl rfl) e
  | met f y =>
    have e : h.get? a = some (PySem.W.methodObj (.ref f) (.ref y)) := x
    show h'.get? a = some (PySem.W.methodObj (.ref f) (.ref y))
    exact k a _ (.inl rfl) e
  | ext φ => obtain ⟨p, ⟨o, e⟩, st⟩ := x; exact ⟨st _ _ p fun o q => k _ _ (.inl rfl) q, ⟨o, k _ _ (.inl rfl) e⟩, st⟩
theorem HOk.lt (x : HOk P w H h) (e : H a = some o) : a < h.objs.size := (x a o e).lt
theorem HOk.fresh (x : HOk P w H h) (e : h.objs.size ≤ a) : H a = none := by
  cases q : H a with
  | none => rfl
  | some u => exact absurd (Nat.lt_of_lt_of_le (x.lt q) e) (Nat.lt_irrefl _)
theorem HOk.kept (x : HOk P w H h) (k : ∀ b u, h.get? b = some u → h'.get? b = some u) : HOk P w H h' := fun a o e =>
  (x a o e).stay (fun b u _ q => k b u q) (fun _ q => q) fun _ _ q => q
theorem HOk.laid (x : HOk P w H h) (k : ∀ b u, h.get? b = some u → h'.get? b = some u) (hp : h.objs.size ≤ a) (new : ObjOk P w (upd H a o) h' a o) : HOk P w (upd H a o) h' := fun b u e => by
  have hn := x.fresh hp
  by_cases hb : b = a
  · subst hb; rw [upd_same] at e; cases e; exact new
  · rw [upd_ne hb] at e
    exact (x b u e).stay (fun c v _ q => k c v q) (fun c q => by rw [upd_ne (ne_of_none q hn)]; exact q) fun c xs q => by rw [upd_ne (ne_of_none q hn)]; exact q
end

noncomputable def Rd (H : Hp) (a : Addr) (u : HO) : Prop := H a = some u ∨ ∃ o, H a = some (.frz o u)
theorem Rd.ok {P : Program} {w : World} {H : Hp} {h : Heap} {a : Addr} {u : HO} (r : Rd H a u) (x : HOk P w H h) : ObjOk P w H h a u := by
  rcases r with r | ⟨o, r⟩
  · exact x a u r
  · obtain ⟨_, q⟩ := x a _ r
    exact q
noncomputable def Mut : Option HO → Prop
  | some (.lst _) => True
  | some (.dK _) => True
  | some (.dT _) => True
  | some (.set _ _) => True
  | some (.ins _ _ _) => True
  | some (.ext _) => True
  | _ => False
section
variable {P : Program} {w : World} {H : Hp} {h h' : Heap} {x e : Addr} {o' : HO}
theorem HOk.write (ok : HOk P w H h) (mu : Mut (H x)) (he : e = x ∨ H e = some (.own x)) (k : ∀ b u, b ≠ e → h.get? b = some u → h'.get? b = some u) (heo : ∃ u, h'.get? e = some u)
    (new : ObjOk P w (upd H x o') h' x o') : HOk P w (upd H x o') h' := fun b u q => by
  have nown : ∀ c y, H c = some (.own y) → c ≠ x := fun c y r z => by subst z; rw [r] at mu; exact mu
  have ntup : ∀ c xs, H c = some (.tup xs) → c ≠ x := fun c xs r z => by subst z; rw [r] at mu; exact mu
  by_cases hb : b = x
  · subst hb; rw [upd_same] at q; cases q; exact new
  · rw [upd_ne hb] at q
    by_cases hbe : b = e
    · have q' : H b = some (.own x) := by
        rcases he with z | z
        · exact absurd (hbe.trans z) hb
        · rw [hbe]; exact z
      rw [q] at q'; cases q'
      obtain ⟨v, hv⟩ := heo
      exact ⟨v, by rw [hbe]; exact hv⟩
    · refine (ok b u q).stay (fun c v hc r => k c v ?_ r) (fun c r => by rw [upd_ne (nown c b r)]; exact r) fun c xs r => by rw [upd_ne (ntup c xs r)]; exact r
      rcases hc with rfl | hc
      · exact hbe
      · rintro rfl
        rcases he with z | z
        · exact nown c b hc z
        · rw [hc] at z; cases z; exact hb rfl
end

structure Un (fs ex : List Addr) (H H' : Hp) (h h' : Heap) : Prop where
  keep : ∀ b o, h.get? b = some o → H b = none → b ∉ fs → b ∉ ex → h'.get? b = some o
  slot : ∀ b o, h.get? b = some o → H b = none → b ∈ fs → b ∉ ex → ∃ sl, h'.get? b = some { o with slots := sl }
  free : ∀ b o, h.get? b = some o → H b = none → b ∉ ex → H' b = none
  there : ∀ b o, h.get? b = some o → b ∉ ex → ∃ o', h'.get? b = some o'
  tups : ∀ b xs, H b = some (.tup xs) → H' b = some (.tup xs)
  frzs : ∀ b o u, H b = some (.frz o u) → H' b = some (.frz o u)
  tbls : ∀ b ps, H b = some (.tbl ps) → ∃ more, H' b = some (.tbl (ps ++ more))
section
variable {fs fs' ex ex' : List Addr} {H H1 H2 : Hp} {h h1 h2 h' : Heap} {a x e : Addr} {o : HO}
theorem Un.any (u : Un fs ex H H1 h h1) {b : Addr} {ob : Obj} (q : h.get? b = some ob) (n : H b = none) (hx : b ∉ ex) : ∃ sl, h1.get? b = some { ob with slots := sl } := by
  by_cases hb : b ∈ fs
  · exact u.slot b ob q n hb hx
  · exact ⟨ob.slots, u.keep b ob q n hb hx⟩
theorem Un.kept (k : ∀ b u, h.get? b = some u → h'.get? b = some u) : Un fs ex H H h h' :=
  ⟨fun b ob q _ _ _ => k b ob q, fun b ob q _ _ _ => ⟨ob.slots, k b ob q⟩, fun _ _ _ n _ => n, fun b ob q _ => ⟨ob, k b ob q⟩, fun _ _ q => q, fun _ _ _ q => q, fun _ ps q => ⟨#[], by rw [q]; simp⟩⟩
theorem Un.refl : Un fs ex H H h h := Un.kept fun _ _ q => q
theorem Un.laid (k : ∀ b u, h.get? b = some u → h'.get? b = some u) (hp : h.objs.size ≤ a) (hn : H a = none) : Un fs ex H (upd H a o) h h' where
  keep := fun b u q _ _ _ => k b u q
  slot := fun b u q _ _ _ => ⟨u.slots, k b u q⟩
  free := fun b u q n _ => by rw [upd_ne (Nat.ne_of_lt (Nat.lt_of_lt_of_le (Heap.lt_size q) hp))]; exact n
  there := fun b u q _ => ⟨u, k b u q⟩
  tups := fun b xs q => by rw [upd_ne (ne_of_none q hn)]; exact q
  frzs := fun b u xs q => by rw [upd_ne (ne_of_none q hn)]; exact q
  tbls := fun b ps q => ⟨#[], by rw [upd_ne (ne_of_none q hn), q]; simp⟩
theorem Un.write (mu : Mut (H x)) (he : e = x ∨ H e = some (.own x)) (k : ∀ b u, b ≠ e → h.get? b = some u → h'.get? b = some u) (heo : ∃ u, h'.get? e = some u) : Un fs ex H (upd H x o) h h' := by
  have hx : ∀ b, H b = none → b ≠ x := fun b n z => by subst z; rw [n] at mu; exact mu
  have hb : ∀ b, H b = none → b ≠ e := fun b n z => by
    subst z
    rcases he with r | r
    · exact hx b n r
    · rw [n] at r; cases r
  have hm : ∀ b u, H b = some u → ¬ Mut (some u) → b ≠ x := fun b u q nm z => by subst z; rw [q] at mu; exact nm mu
  refine ⟨fun b u q n _ _ => k b u (hb b n) q, fun b u q n _ _ => ⟨u.slots, k b u (hb b n) q⟩, fun b u q n _ => by rw [upd_ne (hx b n)]; exact n, fun b u q _ => ?_,
    fun b xs q => by rw [upd_ne (hm b _ q fun z => z)]; exact q, fun b u xs q => by rw [upd_ne (hm b _ q fun z => z)]; exact q, fun b ps q => ⟨#[], by rw [upd_ne (hm b _ q fun z => z), q]; simp⟩⟩
  by_cases hbe : b = e
  · subst hbe; exact heo
  · exact ⟨u, k b u hbe q⟩
end

noncomputable def trk (h : Heap) (H : Hp) : List Addr := (List.range h.objs.size).filter fun a => (H a).isSome
noncomputable def hidT (h : Heap) (H : Hp) : Heap := PySem.W.hideAll h (trk h H)
theorem hidT_size (h : Heap) (H : Hp) : (hidT h H).objs.size = h.objs.size := PySem.W.hideAll_size _ _
theorem hidT_get {h : Heap} {H : Hp} {b : Addr} {o : Obj} (e : h.get? b = some o) (n : H b = none) : (hidT h H).get? b = some o :=
  PySem.W.hideAll_get _ e fun hm => by
    have q : (H b).isSome = true := (List.mem_filter.mp hm).2
    rw [n] at q; simp at q
theorem of_hidT {h : Heap} {H : Hp} {b : Addr} {o : Obj} (e : (hidT h H).get? b = some o) : h.get? b = some o ∧ H b = none := by
  have e' : h.get? b = some o := PySem.W.of_hideAll (trk h H) e
  refine ⟨e', ?_⟩
  cases q : H b with
  | none => rfl
  | some x =>
    have hm : b ∈ trk h H := List.mem_filter.mpr ⟨List.mem_range.mpr (Heap.lt_size e'), by simp [q]⟩
    have z : (hidT h H).get? b = none := PySem.W.hideAll_none (trk h H) hm
    rw [z] at e; cases e

noncomputable def allNews (g h : Heap) (L : Addr) : List (Addr × Obj) := (List.range h.objs.size).filterMap fun a => if a = L ∨ (g.get? a).isSome = true then none else (h.get? a).map fun o => (a, o)
noncomputable def rest (g h : Heap) (L d : Addr) : List (Addr × Obj) := (allNews g h L).filter fun p => decide (p.1 ≠ d)
end L2

namespace L2
open PySem PySem.Spec PyProof.Rows

structure Mod (K : PySem.W.Frag) (mg : Str → Option Value) (base : Heap) : Prop where
  kin : K.In base
  glob : base.Ns mainGlobals mg
  blt : ∃ mb, base.Ns builtinsNs mb ∧ ∀ x : Str, x ≠ "__name__" → mb x = bootBuiltins x
  nolimit : base.NoLimit

structure Cx where
  prog : Program
  w : World
  K : PySem.W.Frag
  mg : Str → Option Value
  base : Heap
  A : Around
  N : List Str
  s₀ : Shared
  H₀ : Hp
  env : Env
  outer : List Env
  stack : List Env
  ex : List Addr
  fn : Str → Bool
  calm : Bool
  pn : List (Addr × Obj)
  xe : Value → Shared → Prop
noncomputable def frs (l : List Env) : List Addr := l.filterMap (·.frame)
noncomputable abbrev Cx.fs (X : Cx) : List Addr := frs X.outer

noncomputable def Vis (sc : Scope) (x : Str) : Prop := sc.names.lookup x = some .local ∨ sc.names.lookup x = some .cell ∨ sc.names.lookup x = some .free
noncomputable def Loc (sc : Scope) (x : Str) : Prop := sc.names.lookup x = some .local ∨ sc.names.lookup x = some .cell
noncomputable def Look (env : Env) (h : Heap) (m : Str → Option Value) (x : Str) (u : Value) : Prop :=
  (env.kindOf x = some .local ∧ m x = some u) ∨ ((env.kindOf x = some .cell ∨ env.kindOf x = some .free) ∧ ∃ c, env.cells.lookup x = some c ∧ h.IsCell c (some u))

structure Cx.Ok (X : Cx) : Prop where
  mod : Mod X.K X.mg X.base
  kind : X.env.scope.kind = .function
  glob : X.env.globals = mainGlobals
  blt : X.env.builtins = builtinsNs
  above : X.s₀.heap.objs.size ≤ X.env.locals
  inj : ∀ x y c, X.env.cells.lookup x = some c → X.env.cells.lookup y = some c → x = y
  has : ∀ x, (X.env.kindOf x = some .cell ∨ X.env.kindOf x = some .free) → ∃ c, X.env.cells.lookup x = some c
  cab : ∀ x c, X.fn x = true → X.env.cells.lookup x = some c → X.s₀.heap.objs.size ≤ c
  hd : X.calm = true → X.A.handled = none
  frames : X.A.frames = some X.stack
  stk : X.stack = X.outer ∨ (X.stack = X.env :: X.outer ∧ X.env.frame = some X.env.locals)
  exf : ∀ b ∈ X.ex, b ≠ X.env.locals ∧ ∀ x c, X.env.cells.lookup x = some c → c ≠ b
  bs : ∀ b o, X.base.get? b = some o → X.s₀.heap.get? b = some o ∧ X.H₀ b = none
  bsz : X.base.objs.size ≤ X.s₀.heap.objs.size
  noex : ∀ b o, X.base.get? b = some o → b ∉ X.ex
  exfs : ∀ b ∈ X.ex, b ∉ X.fs
  funs : X.s₀.heap.FunFrames X.base X.outer
  frf : ∀ b ∈ X.fs, X.H₀ b = none

structure Inv (X : Cx) (pins : List (Addr × Obj)) (σ : List (Option V)) (H : Hp) (s : Shared) : Prop where
  ok : X.Ok
  os : s.os = X.s₀.os
  bare : AllBare s.gens
  base : Un X.fs X.ex X.H₀ H X.s₀.heap s.heap
  loc : ∃ m, s.heap.Ns X.env.locals m ∧ ∀ (i : Nat) (x : Str) (v : V), X.N[i]? = some x → σ[i]? = some (some v) → Vis X.env.scope x → ∃ u, RelV v u ∧ Look X.env s.heap m x u
  cell : ∀ x c, X.env.cells.lookup x = some c → ∃ v, s.heap.IsCell c v
  free : H X.env.locals = none
  freeC : ∀ x c, X.env.cells.lookup x = some c → H c = none
  pin : ∀ p ∈ X.pn ++ pins, s.heap.get? p.1 = some p.2 ∧ H p.1 = none ∧ p.1 ≠ X.env.locals ∧ p.1 ∉ X.fs ∧ ∀ v, p.2.data ≠ .cell v
  hok : HOk X.prog X.w H s.heap
  len : σ.length = X.N.length

section
variable {X : Cx} {pins : List (Addr × Obj)} {σ : List (Option V)} {H H' : Hp} {s : Shared} {h' : Heap}

theorem Cx.Ok.nofr (ok : X.Ok) {b : Addr} {o : Obj} (e : X.base.get? b = some o) : b ∉ X.fs := fun hb => by
  have := (ok.funs.mem hb).1
  rw [e] at this; cases this
theorem Inv.bs (I : Inv X pins σ H s) : ∀ b o, X.base.get? b = some o → s.heap.get? b = some o ∧ H b = none := fun b o e =>
  ⟨I.base.keep b o (I.ok.bs b o e).1 (I.ok.bs b o e).2 (I.ok.nofr e) (I.ok.noex b o e), I.base.free b o (I.ok.bs b o e).1 (I.ok.bs b o e).2 (I.ok.noex b o e)⟩
theorem Inv.bk (I : Inv X pins σ H s) : ∀ b o, X.base.get? b = some o → s.heap.get? b = some o := fun b o e => (I.bs b o e).1
theorem Inv.mod (I : Inv X pins σ H s) : Mod X.K X.mg X.base := I.ok.mod
theorem Inv.kIn (I : Inv X pins σ H s) : X.K.In s.heap := I.ok.mod.kin.keeps I.bk
theorem Inv.fr (I : Inv X pins σ H s) : ∃ m, Fr X.base X.env.locals s.heap m :=
  let ⟨m, hn, _⟩ := I.loc
  ⟨m, hn, I.bk, Nat.le_trans I.ok.bsz I.ok.above⟩
theorem Inv.lt (I : Inv X pins σ H s) : X.env.locals < s.heap.objs.size := let ⟨_, hn, _⟩ := I.loc; hn.lt
theorem Inv.sz (I : Inv X pins σ H s) : X.s₀.heap.objs.size ≤ s.heap.objs.size := Nat.le_trans I.ok.above (Nat.le_of_lt I.lt)
theorem Inv.nofs (I : Inv X pins σ H s) {a : Addr} (h : s.heap.objs.size ≤ a) : a ∉ X.fs := fun hb => by
  obtain ⟨_, o, ho, _⟩ := I.ok.funs.mem hb
  exact absurd (Nat.lt_of_lt_of_le (Heap.lt_size ho) (Nat.le_trans I.sz h)) (Nat.lt_irrefl _)
theorem Inv.cne (I : Inv X pins σ H s) : ∀ x c, X.env.cells.lookup x = some c → c ≠ X.env.locals := fun x c e z => by
  obtain ⟨v, o, ho, hd⟩ := I.cell x c e
  obtain ⟨m, ⟨o', es, ep, ho', hd', _⟩, _⟩ := I.loc
  rw [z, ho'] at ho; cases ho; rw [hd'] at hd; cases hd
theorem Inv.funs (I : Inv X pins σ H s) : s.heap.FunFrames X.base X.outer := by
  have all : ∀ (l : List Env), (∀ b ∈ frs l, b ∈ X.fs) → X.s₀.heap.FunFrames X.base l → s.heap.FunFrames X.base l := by
    intro l
    induction l with
    | nil => intro _ _; trivial
    | cons env r ih =>
      intro hs hl
      obtain ⟨hk, ⟨L, o, hf, hn, ho, hd⟩, hr⟩ := hl
      have hL : L ∈ X.fs := hs L (by unfold frs; rw [List.filterMap_cons, hf]; exact List.mem_cons_self)
      obtain ⟨sl, e⟩ := I.base.slot L o ho (I.ok.frf L hL) hL fun z => I.ok.exfs L z hL
      exact ⟨hk, ⟨L, _, hf, hn, e, hd⟩, ih (fun b hb => hs b (by unfold frs; rw [List.filterMap_cons, hf]; exact List.mem_cons_of_mem _ hb)) hr⟩
  exact all X.outer (fun _ hb => hb) I.ok.funs

theorem Inv.stack (I : Inv X pins σ H s) : s.heap.FunFrames X.base X.stack := by
  rcases I.ok.stk with e | ⟨e, hf⟩
  · rw [e]; exact I.funs
  · rw [e]
    obtain ⟨m, hn, _⟩ := I.loc
    refine .cons (by rw [I.ok.kind]; decide) hf hn ?_ I.funs
    exact Heap.get?_none_of_le (Nat.le_trans I.ok.bsz I.ok.above)
theorem Inv.stkSub (I : Inv X pins σ H s) : ∀ b ∈ frs X.stack, b ∈ X.env.locals :: X.fs := fun b hb => by
  rcases I.ok.stk with e | ⟨e, hf⟩
  · rw [e] at hb; exact List.mem_cons_of_mem _ hb
  · rw [e] at hb
    unfold frs at hb
    rw [List.filterMap_cons, hf] at hb
    exact hb
theorem Inv.stkFree (I : Inv X pins σ H s) : ∀ b ∈ frs X.stack, H b = none := fun b hb => by
  rcases List.mem_cons.mp (I.stkSub b hb) with e | hb
  · rw [e]; exact I.free
  · obtain ⟨_, o, ho, _⟩ := I.ok.funs.mem hb
    exact I.base.free b o ho (I.ok.frf b hb) fun z => I.ok.exfs b z hb

theorem Inv.step {g' : Array GenState} {t' : Nat} {d' : Drawn} {ch : List Addr} (I : Inv X pins σ H s)
    (hch : ∀ b ∈ ch, (b ∈ X.ex ∨ X.s₀.heap.objs.size ≤ b) ∧ b ≠ X.env.locals ∧ (∀ x c, X.env.cells.lookup x = some c → c ≠ b) ∧ ∀ p ∈ X.pn ++ pins, p.1 ≠ b)
    (keep : ∀ b o, b ≠ X.env.locals → b ∉ X.fs → b ∉ ch → s.heap.get? b = some o → H b = none → h'.get? b = some o)
    (slot : ∀ b o, b ≠ X.env.locals → b ∈ X.fs → b ∉ ch → s.heap.get? b = some o → H b = none → ∃ sl, h'.get? b = some { o with slots := sl }) (free : ∀ b o, b ∉ ch → s.heap.get? b = some o → H b = none → H' b = none)
    (there : ∀ b o, b ∉ ch → s.heap.get? b = some o → ∃ o', h'.get? b = some o')
    (tups : ∀ b xs, H b = some (.tup xs) → H' b = some (.tup xs)) (frzs : ∀ b o u, H b = some (.frz o u) → H' b = some (.frz o u)) (tbls : ∀ b ps, H b = some (.tbl ps) → ∃ more, H' b = some (.tbl (ps ++ more)))
    (ns : ∀ m, s.heap.Ns X.env.locals m → h'.Ns X.env.locals m) (hok : HOk X.prog X.w H' h') (hg : AllBare g') :
    Inv X pins σ H' { s with heap := h', gens := g', drawn := d', toks := t' } := by
  have neL : ∀ b o, X.s₀.heap.get? b = some o → b ≠ X.env.locals := fun b o e => Nat.ne_of_lt (Nat.lt_of_lt_of_le (Heap.lt_size e) I.ok.above)
  have neC : ∀ b o, X.s₀.heap.get? b = some o → b ∉ X.ex → b ∉ ch := fun b o e hx hb => by
    rcases (hch b hb).1 with z | z
    · exact hx z
    · exact absurd (Nat.lt_of_lt_of_le (Heap.lt_size e) z) (Nat.lt_irrefl _)
  have cellK : ∀ x c, X.env.cells.lookup x = some c → ∀ v, s.heap.IsCell c v → h'.IsCell c v := fun x c e v ⟨o, ho, hd⟩ => by
    have nch : c ∉ ch := fun z => (hch c z).2.2.1 x c e rfl
    by_cases hc : c ∈ X.fs
    · obtain ⟨sl, q⟩ := slot c o (I.cne x c e) hc nch ho (I.freeC x c e)
      exact ⟨_, q, hd⟩
    · exact ⟨o, keep c o (I.cne x c e) hc nch ho (I.freeC x c e), hd⟩
  refine ⟨I.ok, I.os, hg, ⟨fun b o e n hb hx => ?_, fun b o e n hb hx => ?_, fun b o e n hx => ?_, fun b o e hx => ?_, fun b xs e => tups b xs (I.base.tups b xs e), fun b o xs e => frzs b o xs (I.base.frzs b o xs e), fun b ps e => ?_⟩, ?_, fun x c e => ?_, ?_, fun x c e => ?_, fun p hp => ?_, hok, I.len⟩
  · exact keep b o (neL b o e) hb (neC b o e hx) (I.base.keep b o e n hb hx) (I.base.free b o e n hx)
  · obtain ⟨sl, e1⟩ := I.base.slot b o e n hb hx
    obtain ⟨sl', e2⟩ := slot b _ (neL b o e) hb (neC b o e hx) e1 (I.base.free b o e n hx)
    exact ⟨sl', e2⟩
  · obtain ⟨o', e1⟩ := I.base.there b o e hx
    exact free b o' (neC b o e hx) e1 (I.base.free b o e n hx)
  · obtain ⟨o', e1⟩ := I.base.there b o e hx
    exact there b o' (neC b o e hx) e1
  · obtain ⟨m1, e1⟩ := I.base.tbls b ps e
    obtain ⟨m2, e2⟩ := tbls b _ e1
    exact ⟨m1 ++ m2, by rw [e2, Array.append_assoc]⟩
  · obtain ⟨m, hn, hl⟩ := I.loc
    refine ⟨m, ns m hn, fun i x v e1 e2 e3 => ?_⟩
    obtain ⟨u, r, l⟩ := hl i x v e1 e2 e3
    refine ⟨u, r, ?_⟩
    rcases l with l | ⟨k, c, e, z⟩
    · exact .inl l
    · exact .inr ⟨k, c, e, cellK x c e _ z⟩
  · obtain ⟨v, z⟩ := I.cell x c e
    exact ⟨v, cellK x c e v z⟩
  · obtain ⟨m, ⟨o, _, _, ho, _⟩, _⟩ := I.loc
    exact free _ o (fun z => (hch _ z).2.1 rfl) ho I.free
  · obtain ⟨v, o, ho, hd⟩ := I.cell x c e
    exact free c o (fun z => (hch c z).2.2.1 x c e rfl) ho (I.freeC x c e)
  · obtain ⟨e, n, ne, nf, d⟩ := I.pin p hp
    have nch : p.1 ∉ ch := fun z => (hch p.1 z).2.2.2 p hp rfl
    exact ⟨keep p.1 p.2 ne nf nch e n, free p.1 p.2 nch e n, ne, nf, d⟩
theorem Inv.un {t' : Nat} (I : Inv X pins σ H s) (u : Un X.fs [] H H' s.heap h') (hok : HOk X.prog X.w H' h') : Inv X pins σ H' { s with heap := h', toks := t' } := by
  obtain ⟨m, ⟨o, es, ep, ho, r⟩, _⟩ := id I.loc
  obtain ⟨sl, hL⟩ := u.any ho I.free (by simp)
  exact I.step (g' := s.gens) (d' := s.drawn) (ch := []) (fun _ z => nomatch z) (fun b o _ hb _ e n => u.keep b o e n hb (by simp)) (fun b o _ hb _ e n => u.slot b o e n hb (by simp)) (fun b o _ e n => u.free b o e n (by simp)) (fun b o _ e => u.there b o e (by simp)) u.tups u.frzs u.tbls (fun m' hm => by
    obtain ⟨o', es', ep', ho', r'⟩ := hm
    rw [ho] at ho'; cases ho'
    exact ⟨_, es', ep', hL, r'⟩) hok I.bare
theorem Inv.call {g' : Array GenState} {t' : Nat} {d' : Drawn} {ch : List Addr} (I : Inv X pins σ H s) (u : Un (frs X.stack) ch H H' s.heap h') (hok : HOk X.prog X.w H' h') (hg : AllBare g')
    (hch : ∀ b ∈ ch, (b ∈ X.ex ∨ X.s₀.heap.objs.size ≤ b) ∧ b ≠ X.env.locals ∧ (∀ x c, X.env.cells.lookup x = some c → c ≠ b) ∧ ∀ p ∈ X.pn ++ pins, p.1 ≠ b) :
    Inv X pins σ H' { s with heap := h', gens := g', drawn := d', toks := t' } := by
  obtain ⟨m, ⟨o, es, ep, ho, r⟩, _⟩ := id I.loc
  obtain ⟨sl, hL⟩ := u.any ho I.free fun z => (hch _ z).2.1 rfl
  exact I.step (ch := ch) hch (fun b o hL hb hc e n => u.keep b o e n (fun z => (List.mem_cons.mp (I.stkSub b z)).elim hL hb) hc) (fun b o _ _ hc e n => u.any e n hc) (fun b o hc e n => u.free b o e n hc) (fun b o hc e => u.there b o e hc) u.tups u.frzs u.tbls (fun m' hm => by
    obtain ⟨o', es', ep', ho', r'⟩ := hm
    rw [ho] at ho'; cases ho'
    exact ⟨_, es', ep', hL, r'⟩) hok hg
theorem Inv.turned {t' : Nat} {it : Addr} (I : Inv X pins σ H s) (k : ∀ b o, b ≠ it → s.heap.get? b = some o → h'.get? b = some o) (hn : H it = none) (hL : it ≠ X.env.locals)
    (h1 : it ∈ X.ex ∨ X.s₀.heap.objs.size ≤ it) (h2 : ∀ x c, X.env.cells.lookup x = some c → c ≠ it) (h3 : ∀ p ∈ X.pn ++ pins, p.1 ≠ it) : Inv X pins σ H { s with heap := h', toks := t' } := by
  have nit : ∀ b u, H b = some u → b ≠ it := fun b u e z => by rw [z, hn] at e; cases e
  refine I.step (g' := s.gens) (d' := s.drawn) (ch := [it]) (fun b hb => ?_) (fun b o _ _ hc e _ => k b o (fun z => hc (by simp [z])) e) (fun b o _ _ hc e _ => ⟨o.slots, k b o (fun z => hc (by simp [z])) e⟩) (fun _ _ _ _ n => n)
    (fun b o hc e => ⟨o, k b o (fun z => hc (by simp [z])) e⟩) (fun _ _ e => e) (fun _ _ _ e => e) (fun b ps e => ⟨#[], by rw [e]; simp⟩) (fun m hm => ?_) (fun b u e => ?_) I.bare
  · have e : b = it := by simpa using hb
    subst e
    exact ⟨h1, hL, h2, h3⟩
  · obtain ⟨o, es, ep, ho, r⟩ := hm
    exact ⟨o, es, ep, k _ o (Ne.symm hL) ho, r⟩
  · refine (I.hok b u e).stay (fun c v hc q => k c v ?_ q) (fun _ q => q) fun _ _ q => q
    rcases hc with z | z
    · rw [z]; exact nit b u e
    · exact nit c _ z
theorem Inv.tok (I : Inv X pins σ H s) (t : Nat) : Inv X pins σ H { s with toks := t } := I.un (h' := s.heap) (t' := t) Un.refl I.hok
theorem Inv.kept {t' : Nat} (I : Inv X pins σ H s) (k : ∀ b u, s.heap.get? b = some u → h'.get? b = some u) : Inv X pins σ H { s with heap := h', toks := t' } := I.un (Un.kept k) (I.hok.kept k)
theorem Inv.laid {a : Addr} {o : HO} {t' : Nat} (I : Inv X pins σ H s) (k : ∀ b u, s.heap.get? b = some u → h'.get? b = some u) (hp : s.heap.objs.size ≤ a) (new : ObjOk X.prog X.w (upd H a o) h' a o) :
    Inv X pins σ (upd H a o) { s with heap := h', toks := t' } := I.un (Un.laid k hp (I.hok.fresh hp)) (I.hok.laid k hp new)
theorem Inv.write {x e : Addr} {o : HO} {t' : Nat} (I : Inv X pins σ H s) (mu : Mut (H x)) (he : e = x ∨ H e = some (.own x)) (k : ∀ b u, b ≠ e → s.heap.get? b = some u → h'.get? b = some u) (heo : ∃ u, h'.get? e = some u)
    (new : ObjOk X.prog X.w (upd H x o) h' x o) : Inv X pins σ (upd H x o) { s with heap := h', toks := t' } := I.un (Un.write mu he k heo) (I.hok.write mu he k heo new)
theorem Inv.weak {σ' : List (Option V)} (I : Inv X pins σ H s) (hl : σ'.length = σ.length) (w : ∀ (i : Nat) v, σ'[i]? = some (some v) → σ[i]? = some (some v)) : Inv X pins σ' H s :=
  ⟨I.ok, I.os, I.bare, I.base, let ⟨m, hn, hl'⟩ := I.loc; ⟨m, hn, fun i x v e1 e2 e3 => hl' i x v e1 (w i v e2) e3⟩, I.cell, I.free, I.freeC, I.pin, I.hok, hl.trans I.len⟩
theorem Inv.pins_of {pins' : List (Addr × Obj)} (I : Inv X pins σ H s) (h : ∀ p ∈ pins', s.heap.get? p.1 = some p.2 ∧ H p.1 = none ∧ p.1 ≠ X.env.locals ∧ p.1 ∉ X.fs ∧ ∀ v, p.2.data ≠ .cell v) : Inv X pins' σ H s :=
  ⟨I.ok, I.os, I.bare, I.base, I.loc, I.cell, I.free, I.freeC, fun p hp => (List.mem_append.mp hp).elim (fun z => I.pin p (List.mem_append_left _ z)) (h p), I.hok, I.len⟩

theorem nodup_ix {N : List Str} (hN : N.Nodup) {i j : Nat} {x : Str} (a : N[i]? = some x) (b : N[j]? = some x) : i = j := by
  obtain ⟨h1, e1⟩ := List.getElem?_eq_some_iff.mp a
  obtain ⟨h2, e2⟩ := List.getElem?_eq_some_iff.mp b
  exact (List.getElem_inj hN).mp (e1.trans e2.symm)

theorem store_ok2 {M : Model} {A : Around} {E : Value → Shared → Prop} {i : Nat} {x : Str} {v : V} {u : Value} {Q : Unit → Shared → Prop} (I : Inv X pins σ H s) (hN : X.N.Nodup) (hi : X.N[i]? = some x) (hx : Loc X.env.scope x) (r : RelV v u)
    (h : ∀ s', Inv X pins (σ.set i (some v)) H s' → (∃ a, Heap.SameBut a s.heap s'.heap ∧ (a = X.env.locals ∨ X.env.cells.lookup x = some a)) → Q () s') (hf : X.fn x = true ∨ X.env.scope.names.lookup x = some .local := by first | exact .inl rfl | exact .inr rfl | assumption) : wpAny M A (storeName X.env x u) Q E s := by
  obtain ⟨m, hn, hl⟩ := id I.loc
  have hcls : (X.env.scope.kind == .class || (X.env.scope.kind == .module && X.env.locals != X.env.globals)) = false := by rw [I.ok.kind]; rfl
  have hiσ : i < σ.length := by rw [I.len]; exact (List.getElem?_eq_some_iff.mp hi).1
  have cne := I.cne
  have tracked : ∀ {a : Addr} {h' : Heap}, (∃ o, s.heap.get? a = some o ∧ H a = none) → Heap.SameBut a s.heap h' → HOk X.prog X.w H h' := fun {a h'} ha hs b ob e => by
    obtain ⟨_, _, hfree⟩ := ha
    refine (I.hok b ob e).stay (fun c w' hc q => (hs.2 c ?_).trans q) (fun _ q => q) fun _ _ q => q
    rintro rfl
    rcases hc with rfl | hc
    · rw [hfree] at e; cases e
    · rw [hfree] at hc; cases hc
  rcases hx with hk | hk
  · refine wpAny_storeName_local hk hn (fun h' hn' hs => ?_) hcls
    obtain ⟨oL, _, _, hoL, _⟩ := id hn
    refine h _ ⟨I.ok, I.os, I.bare, ⟨fun b o e n hb hx => ?_, fun b o e n hb hx => ?_, I.base.free, fun b o e hx => ?_, I.base.tups, I.base.frzs, I.base.tbls⟩, ⟨_, hn', fun j y v' e1 e2 e3 => ?_⟩, fun y c e => ?_, I.free, I.freeC, fun p hp => ?_, tracked ⟨oL, hoL, I.free⟩ hs, by simpa using I.len⟩ ⟨_, hs, .inl rfl⟩
    · exact (hs.2 b (Nat.ne_of_lt (Nat.lt_of_lt_of_le (Heap.lt_size e) I.ok.above))).trans (I.base.keep b o e n hb hx)
    · obtain ⟨sl, e1⟩ := I.base.slot b o e n hb hx
      exact ⟨sl, (hs.2 b (Nat.ne_of_lt (Nat.lt_of_lt_of_le (Heap.lt_size e) I.ok.above))).trans e1⟩
    · obtain ⟨o', e1⟩ := I.base.there b o e hx
      exact ⟨o', (hs.2 b (Nat.ne_of_lt (Nat.lt_of_lt_of_le (Heap.lt_size e) I.ok.above))).trans e1⟩
    · by_cases hj : j = i
      · subst hj
        rw [hi] at e1; cases e1
        rw [List.getElem?_set_self hiσ] at e2
        cases e2
        exact ⟨u, r, .inl ⟨hk, by simp⟩⟩
      · rw [List.getElem?_set_ne (Ne.symm hj)] at e2
        obtain ⟨u', r', q⟩ := hl j y v' e1 e2 e3
        refine ⟨u', r', ?_⟩
        rcases q with ⟨k, e⟩ | ⟨k, c, e, z⟩
        · refine .inl ⟨k, ?_⟩
          have : y ≠ x := fun e => hj (nodup_ix hN e1 (e ▸ hi))
          simp [this, e]
        · exact .inr ⟨k, c, e, z.sameBut hs (cne y c e)⟩
    · obtain ⟨w', z⟩ := I.cell y c e
      exact ⟨w', z.sameBut hs (cne y c e)⟩
    · obtain ⟨e, n, ne, nf, d⟩ := I.pin p hp
      exact ⟨(hs.2 p.1 ne).trans e, n, ne, nf, d⟩
  · have hfn : X.fn x = true := by
      rcases hf with z | z
      · exact z
      · rw [z] at hk; cases hk
    obtain ⟨c, hc⟩ := I.ok.has x (.inl hk)
    obtain ⟨w', z⟩ := I.cell x c hc
    refine wpAny_storeName_cell I.ok.kind hk hc z (fun h' hc' hs => ?_)
    obtain ⟨oc, hoc, hocd⟩ := id z
    refine h { s with heap := h' } ⟨I.ok, I.os, I.bare, ⟨fun b o e n hb hx => ?_, fun b o e n hb hx => ?_, I.base.free, fun b o e hx => ?_, I.base.tups, I.base.frzs, I.base.tbls⟩, ⟨m, hn.sameBut hs (Ne.symm (cne x c hc)), fun j y v' e1 e2 e3 => ?_⟩, fun y c' e => ?_, I.free, I.freeC, fun p hp => ?_, tracked ⟨oc, hoc, I.freeC x c hc⟩ hs, by simpa using I.len⟩ ⟨c, hs, .inr hc⟩
    · exact (hs.2 b (Nat.ne_of_lt (Nat.lt_of_lt_of_le (Heap.lt_size e) (I.ok.cab x c hfn hc)))).trans (I.base.keep b o e n hb hx)
    · obtain ⟨sl, e1⟩ := I.base.slot b o e n hb hx
      exact ⟨sl, (hs.2 b (Nat.ne_of_lt (Nat.lt_of_lt_of_le (Heap.lt_size e) (I.ok.cab x c hfn hc)))).trans e1⟩
    · obtain ⟨o', e1⟩ := I.base.there b o e hx
      exact ⟨o', (hs.2 b (Nat.ne_of_lt (Nat.lt_of_lt_of_le (Heap.lt_size e) (I.ok.cab x c hfn hc)))).trans e1⟩
    · by_cases hj : j = i
      · subst hj
        rw [hi] at e1; cases e1
        rw [List.getElem?_set_self hiσ] at e2
        cases e2
        exact ⟨u, r, .inr ⟨.inl hk, c, hc, hc'⟩⟩
      · rw [List.getElem?_set_ne (Ne.symm hj)] at e2
        obtain ⟨u', r', q⟩ := hl j y v' e1 e2 e3
        refine ⟨u', r', ?_⟩
        rcases q with q | ⟨k, c', e, z'⟩
        · exact .inl q
        · refine .inr ⟨k, c', e, z'.sameBut hs ?_⟩
          rintro rfl
          exact hj (nodup_ix hN e1 (I.ok.inj _ _ _ e hc ▸ hi))
    · by_cases hcc : c' = c
      · subst hcc; exact ⟨_, hc'⟩
      · obtain ⟨w2, z2⟩ := I.cell y c' e
        exact ⟨w2, z2.sameBut hs hcc⟩
    · obtain ⟨e, n, ne, nf, d⟩ := I.pin p hp
      refine ⟨(hs.2 p.1 ?_).trans e, n, ne, nf, d⟩
      intro q
      rw [q, hoc] at e
      have q' : oc = p.2 := Option.some.inj e
      exact d w' (by rw [← q']; exact hocd)
theorem store_ok {M : Model} {A : Around} {E : Value → Shared → Prop} {i : Nat} {x : Str} {v : V} {u : Value} {Q : Unit → Shared → Prop} (I : Inv X pins σ H s) (hN : X.N.Nodup) (hi : X.N[i]? = some x) (hx : Loc X.env.scope x) (r : RelV v u)
    (h : ∀ s', Inv X pins (σ.set i (some v)) H s' → Q () s') (hf : X.fn x = true ∨ X.env.scope.names.lookup x = some .local := by first | exact .inl rfl | exact .inr rfl | assumption) : wpAny M A (storeName X.env x u) Q E s :=
  store_ok2 I hN hi hx r (fun s' I' _ => h s' I') hf
theorem Inv.call' {s' : Shared} {ch : List Addr} (I : Inv X pins σ H s) (ho : s'.os = s.os) (u : Un (frs X.stack) ch H H' s.heap s'.heap) (hok : HOk X.prog X.w H' s'.heap) (hg : AllBare s'.gens)
    (hch : ∀ b ∈ ch, (b ∈ X.ex ∨ X.s₀.heap.objs.size ≤ b) ∧ b ≠ X.env.locals ∧ (∀ x c, X.env.cells.lookup x = some c → c ≠ b) ∧ ∀ p ∈ X.pn ++ pins, p.1 ≠ b) : Inv X pins σ H' s' := by
  obtain ⟨h', g', d', t', o'⟩ := s'
  have e : o' = s.os := ho
  subst e
  exact I.call (g' := g') (t' := t') (d' := d') u hok hg hch
end

noncomputable abbrev XK := Value → Option Addr → Hp → Prop
noncomputable abbrev St := List (Option V)
noncomputable abbrev VK := V → Hp → Prop
noncomputable abbrev TE := St → Hp → VK → Prop
noncomputable abbrev TT := St → Hp → (Bool → Hp → Prop) → Prop
noncomputable abbrev TA := St → Hp → (List V → Hp → Prop) → Prop
structure Ends where
  nx : St → Hp → Prop
  rt : VK
  bk : St → Hp → Prop := fun _ _ => False
  ct : St → Hp → Prop := fun _ _ => False
noncomputable abbrev TS := Ends → St → Hp → Prop

noncomputable def EP (X : Cx) (pins : List (Addr × Obj)) (σ : St) (Q : VK) (u : Value) (s' : Shared) : Prop := ∃ v H', Inv X pins σ H' s' ∧ RelV v u ∧ Q v H'
noncomputable def TP (X : Cx) (pins : List (Addr × Obj)) (σ : St) (Q : Bool → Hp → Prop) (b : Bool) (s' : Shared) : Prop := ∃ H', Inv X pins σ H' s' ∧ Q b H'
noncomputable def AP (X : Cx) (pins : List (Addr × Obj)) (σ : St) (Q : List V → Hp → Prop) (us : List Value) (s' : Shared) : Prop := ∃ vs H', Inv X pins σ H' s' ∧ Vals vs us ∧ Q vs H'
noncomputable def SP (X : Cx) (pins : List (Addr × Obj)) (D : Ends) (f : Flow) (s' : Shared) : Prop :=
  match f with
  | .next => ∃ σ' H', Inv X pins σ' H' s' ∧ D.nx σ' H'
  | .brk => ∃ σ' H', Inv X pins σ' H' s' ∧ D.bk σ' H'
  | .cont => ∃ σ' H', Inv X pins σ' H' s' ∧ D.ct σ' H'
  | .ret u => ∃ v σ' H', Inv X pins σ' H' s' ∧ RelV v u ∧ D.rt v H'

noncomputable def PE (X : Cx) (e : Expr) (t : TE) : Prop :=
  ∀ (pins : List (Addr × Obj)) (s : Shared) (σ : St) (H : Hp) (Q : VK), Inv X pins σ H s → t σ H Q → wpAny (model X.prog X.w) X.A (eval e X.env) (EP X pins σ Q) X.xe s
noncomputable def PT (X : Cx) (e : Expr) (t : TT) : Prop :=
  ∀ (pins : List (Addr × Obj)) (s : Shared) (σ : St) (H : Hp) (Q : Bool → Hp → Prop), Inv X pins σ H s → t σ H Q → wpAny (model X.prog X.w) X.A (isTrue e X.env (eval e X.env)) (TP X pins σ Q) X.xe s
noncomputable def PW (X : Cx) (e : Expr) (t : TT) : Prop :=
  ∀ (whole : Sem Value) (pins : List (Addr × Obj)) (s : Shared) (σ : St) (H : Hp) (Q : Bool → Hp → Prop), Inv X pins σ H s → t σ H Q → wpAny (model X.prog X.w) X.A (isTrue e X.env whole) (TP X pins σ Q) X.xe s
theorem PW.pt {X : Cx} {e : Expr} {t : TT} (h : PW X e t) : PT X e t := h _
noncomputable def PA (X : Cx) (es : List Expr) (t : TA) : Prop :=
  ∀ (pos : Pos) (pins : List (Addr × Obj)) (s : Shared) (σ : St) (H : Hp) (Q : List V → Hp → Prop), Inv X pins σ H s → t σ H Q → wpAny (model X.prog X.w) X.A (spliced (backTo pos (starEach es X.env))) (AP X pins σ Q) X.xe s
noncomputable def PS (X : Cx) (st : Stmt) (t : TS) : Prop :=
  ∀ (pins : List (Addr × Obj)) (s : Shared) (σ : St) (H : Hp) (D : Ends), Inv X pins σ H s → t D σ H → wpAny (model X.prog X.w) X.A (exec st X.env) (SP X pins D) X.xe s
noncomputable def PSs (X : Cx) (st : List Stmt) (t : TS) : Prop :=
  ∀ (pins : List (Addr × Obj)) (s : Shared) (σ : St) (H : Hp) (D : Ends), Inv X pins σ H s → t D σ H → wpAny (model X.prog X.w) X.A (execs st X.env) (SP X pins D) X.xe s
theorem thn {α : Type} {t : Sem α} {Q Q' : α → Shared → Prop} {M : Model} {A : Around} {E : Value → Shared → Prop} {s : Shared} (h : wpAny M A t Q E s) (hQ : ∀ a s, Q a s → Q' a s) : wpAny M A t Q' E s := wpAny_mono h hQ fun _ _ x => x
end L2

namespace L2
open PySem PySem.Spec PyProof.Rows
section
variable {X : Cx}

theorem bin {a b : Expr} {ta tb : TE} (ha : PE X a ta) (hb : PE X b tb) {pins : List (Addr × Obj)} {s : Shared} {σ : St} {H : Hp} {R : V → V → Hp → Prop} (I : Inv X pins σ H s) (h : ta σ H fun x H1 => tb σ H1 fun y H2 => R x y H2)
    {α : Type} {Q : α → Shared → Prop} {f : Value → Value → Sem α}
    (hf : ∀ v u s2 x y H2, Inv X pins σ H2 s2 → RelV x v → RelV y u → R x y H2 → wpAny (model X.prog X.w) X.A (f v u) Q X.xe s2) :
    wpAny (model X.prog X.w) X.A (eval a X.env) (fun v s₁ => wpAny (model X.prog X.w) X.A (eval b X.env) (fun u s₂ => wpAny (model X.prog X.w) X.A (f v u) Q X.xe s₂) X.xe s₁) X.xe s := by
  refine thn (ha pins s σ H _ I h) fun v s1 ⟨x, H1, I1, r1, q1⟩ => ?_
  refine thn (hb pins s1 σ H1 _ I1 q1) fun u s2 ⟨y, H2, I2, r2, q2⟩ => ?_
  exact hf v u s2 x y H2 I2 r1 r2 q2

noncomputable def tVar (i : Nat) : TE := fun σ H Q => ∃ v, σ[i]? = some (some v) ∧ Q v H
noncomputable def tC (v : V) : TE := fun _ H Q => Q v H
theorem pe_var {i : Nat} {x : Str} {pos : Pos} (hN : X.N[i]? = some x) (hv : Vis X.env.scope x) (hd : (x == ("__debug__" : Str)) = false := by decide) (hcd : (x == ("__classdict__" : Str)) = false := by decide) : PE X (.Name x pos) (tVar i) := by
  intro pins s σ H Q I h
  obtain ⟨v, e, h⟩ := h
  obtain ⟨m, hn, hl⟩ := I.loc
  obtain ⟨u, r, l⟩ := hl i x v hN e hv
  have fin : EP X pins σ Q u s := ⟨v, H, I, r, h⟩
  rcases l with ⟨hk, hm⟩ | ⟨hk, c, hc, hcell⟩
  · exact wpAny_Name (wpAny_loadName_local I.ok.kind hk hn hm fin) hd
  · rcases hk with hk | hk
    · exact wpAny_Name (wpAny_loadName_cell I.ok.kind hk hc hcell fin) hd
    · exact wpAny_Name (wpAny_loadName_free I.ok.kind hk hc hcell fin hcd) hd
theorem pe_int {i j pos} : PE X (.Constant (.int i) j pos) (tC (.int i)) := fun _ _ _ H _ I h => wpAny_Constant_int ⟨.int i, H, I.tok _, ⟨_, rfl⟩, h⟩
theorem pe_bl {b j pos} : PE X (.Constant (.bool b) j pos) (tC (.bl b)) := fun _ _ _ H _ I h => Constant_bool ⟨.bl b, H, I, rfl, h⟩
theorem pe_non {j pos} : PE X (.Constant .none j pos) (tC .non) := fun _ _ _ H _ I h => Constant_none ⟨.non, H, I, rfl, h⟩
theorem pe_str {x j pos} : PE X (.Constant (.str x) j pos) (tC (.str x)) := fun _ _ _ H _ I h => Calls.Constant_str ⟨.str x, H, I.tok _, ⟨_, rfl⟩, h⟩

noncomputable def Gl (X : Cx) (x : Str) : Prop := X.env.kindOf x = some .globalImplicit
theorem ld_glob {E : Value → Shared → Prop} {pins : List (Addr × Obj)} {s : Shared} {σ : St} {H : Hp} {x : Str} {u : Value} {pos : Pos} {Q : Value → Shared → Prop} (I : Inv X pins σ H s) (hg : Gl X x) (hm : X.mg x = some u) (h : Q u s)
    (hd : (x == ("__debug__" : Str)) = false := by decide) : wpAny (model X.prog X.w) X.A (eval (.Name x pos) X.env) Q E s :=
  Calls.Name_function_global I.ok.kind hg (Calls.loadGlobal_global (by rw [I.ok.glob]; exact I.mod.glob.keeps I.bk) hm h) hd
theorem ld_blt {E : Value → Shared → Prop} {pins : List (Addr × Obj)} {s : Shared} {σ : St} {H : Hp} {x : Str} {u : Value} {pos : Pos} {Q : Value → Shared → Prop} (I : Inv X pins σ H s) (hg : Gl X x) (hm : X.mg x = none) (hv : bootBuiltins x = some u) (h : Q u s)
    (hn : x ≠ "__name__" := by decide) (hd : (x == ("__debug__" : Str)) = false := by decide) : wpAny (model X.prog X.w) X.A (eval (.Name x pos) X.env) Q E s := by
  obtain ⟨mb, h1, h2⟩ := I.mod.blt
  exact Calls.Name_function_global I.ok.kind hg (Calls.loadGlobal_builtin (by rw [I.ok.glob]; exact I.mod.glob.keeps I.bk) hm (by rw [I.ok.blt]; exact h1.keeps I.bk) ((h2 x hn).trans hv) h) hd
theorem pe_glob {x : Str} {v : V} {u : Value} {pos : Pos} (hg : Gl X x) (hm : X.mg x = some u) (r : RelV v u) (hd : (x == ("__debug__" : Str)) = false := by decide) : PE X (.Name x pos) (tC v) :=
  fun _ _ _ H _ I h => ld_glob I hg hm ⟨v, H, I, r, h⟩ hd
theorem pe_bltn {x : Str} {v : V} {u : Value} {pos : Pos} (hg : Gl X x) (hm : X.mg x = none) (hv : bootBuiltins x = some u) (r : RelV v u) (hn : x ≠ "__name__" := by decide) (hd : (x == ("__debug__" : Str)) = false := by decide) : PE X (.Name x pos) (tC v) :=
  fun _ _ _ H _ I h => ld_blt I hg hm hv ⟨v, H, I, r, h⟩ hn hd

noncomputable def t2I (ta tb : TE) (k : Int → Int → Hp → Prop) : St → Hp → Prop := fun σ H => ta σ H fun x H1 => tb σ H1 fun y H2 => ∃ i j, x = .int i ∧ y = .int j ∧ k i j H2
variable {a b : Expr} {ta tb : TE} {pos : Pos}
noncomputable def PC (X : Cx) (op : CmpOp) (a b : Expr) (t : TE) : Prop :=
  ∀ (pins : List (Addr × Obj)) (s : Shared) (σ : St) (H : Hp) (Q : VK), Inv X pins σ H s → t σ H Q →
    wpAny (model X.prog X.w) X.A (eval a X.env) (fun v s₁ => wpAny (model X.prog X.w) X.A (eval b X.env) (fun u s₂ => wpAny (model X.prog X.w) X.A (compareOp op v u) (EP X pins σ Q) X.xe s₂) X.xe s₁) X.xe s
noncomputable def tCmp (p : Int → Int → Bool) (ta tb : TE) : TE := fun σ H Q => t2I ta tb (fun i j H2 => Q (.bl (p i j)) H2) σ H
noncomputable abbrev tLt : TE → TE → TE := tCmp fun i j => decide (i < j)
noncomputable abbrev tLe : TE → TE → TE := tCmp fun i j => decide (i ≤ j)
noncomputable abbrev tGt : TE → TE → TE := tCmp fun i j => decide (j < i)
noncomputable abbrev tGe : TE → TE → TE := tCmp fun i j => decide (j ≤ i)
noncomputable abbrev tEqI : TE → TE → TE := tCmp fun i j => decide (i = j)
noncomputable abbrev tNeI : TE → TE → TE := tCmp fun i j => !decide (i = j)
noncomputable def tB (t : TE) : TT := fun σ H Q => t σ H fun x H1 => ∃ c, x = .bl c ∧ Q c H1
theorem pt_cmp {op : CmpOp} {t : TE} (h : PC X op a b t) (h1 : behindInMarks op b = false := by first | exact nobehind _ (by decide) (by decide) | rfl) : PT X (.Compare a [op] [b] pos) (tB t) := by
  intro pins s σ H Q I hw
  refine wpAny_isTrue_Compare1 (thn (h pins s σ H _ I hw) fun v s1 h1 => thn h1 fun u s2 h2 => thn h2 fun c s3 ⟨x, H1, I1, r1, q1⟩ => ?_) h1
  obtain ⟨d, rfl, q⟩ := q1
  cases r1
  exact wpAny_truthy_bool ⟨H1, I1, q⟩
theorem pt_val {e : Expr} {t : TE} (h : PE X e t) (he : ∀ whole, isTrue e X.env whole = (do let v ← whole; standAt e.pos; holding [v] (truthy v)) := by intro _; rfl) : PT X e (tB t) := by
  intro pins s σ H Q I hw
  refine isTrue_plain (thn (h pins s σ H _ I hw) fun v s1 ⟨x, H1, I1, r1, q1⟩ => ?_) (he _)
  obtain ⟨d, rfl, q⟩ := q1
  cases r1
  exact wpAny_truthy_bool ⟨H1, I1, q⟩

variable {tA tB' : TT} {rest : List Expr}
noncomputable def tOr (t u : TT) : TT := fun σ H Q => t σ H fun c H1 => if c = true then Q true H1 else u σ H1 Q
noncomputable def tNot (t : TT) : TT := fun σ H Q => t σ H fun c H1 => Q (!c) H1
theorem pw_or1 (ha : PT X a tA) : PW X (.BoolOp .Or [a] pos) tA := by
  intro wh pins s σ H Q I h
  refine isTrue_or (thn (ha pins s σ H Q I h) fun c s1 e => ?_)
  cases c with
  | false => exact isTrue_or_nil e
  | true => exact e
theorem pw_or (ha : PT X a tA) (hb : PW X (.BoolOp .Or (b :: rest) pos) tB') : PW X (.BoolOp .Or (a :: b :: rest) pos) (tOr tA tB') := by
  intro wh pins s σ H Q I h
  refine isTrue_or (thn (ha pins s σ H _ I h) fun c s1 ⟨H1, I1, q1⟩ => ?_)
  cases c with
  | true => exact ⟨H1, I1, q1⟩
  | false => exact hb wh pins s1 σ H1 Q I1 q1
theorem pt_not (ha : PT X a tA) : PT X (.UnaryOp .Not a pos) (tNot tA) := by
  intro pins s σ H Q I h
  exact isTrue_not (ha pins s σ H (fun c H1 => Q (!c) H1) I h)
noncomputable def tAndV (ta tb : TE) : TE := fun σ H Q => ta σ H fun x H1 => ∃ c, x = .bl c ∧ if c = true then tb σ H1 Q else Q (.bl false) H1
noncomputable def tNotV (ta : TE) : TE := fun σ H Q => ta σ H fun x H1 => ∃ c, x = .bl c ∧ Q (.bl (!c)) H1
theorem pe_one {op} {t : TE} (h : PE X a t) : PE X (.BoolOp op [a] pos) t := fun pins s σ H Q I hw => BoolOp_one (h pins s σ H Q I hw)
theorem pe_and (ha : PE X a ta) (hb : PE X (.BoolOp .And (b :: rest) pos) tb) : PE X (.BoolOp .And (a :: b :: rest) pos) (tAndV ta tb) := by
  intro pins s σ H Q I h
  refine BoolOp_and (thn (ha pins s σ H _ I h) fun v s1 ⟨x, H1, I1, r1, q1⟩ => ?_)
  obtain ⟨c, rfl, q1⟩ := q1
  cases r1
  refine wpAny_truthy_bool ?_
  cases c with
  | true => exact hb pins s1 σ H1 Q I1 q1
  | false => exact ⟨.bl false, H1, I1, rfl, q1⟩
theorem pe_not (ha : PE X a ta) : PE X (.UnaryOp .Not a pos) (tNotV ta) := by
  intro pins s σ H Q I h
  refine UnaryOp_ (thn (ha pins s σ H _ I h) fun v s1 ⟨x, H1, I1, r1, q1⟩ => ?_)
  obtain ⟨c, rfl, q1⟩ := q1
  cases r1
  exact not_of (wpAny_truthy_bool ⟨.bl (!c), H1, I1, rfl, q1⟩)
end
end L2

namespace L2
open PySem PySem.Spec PyProof.Rows

noncomputable def SqL (K : PySem.W.Frag) (H : Hp) (a : Addr) (xs : List V) : Prop :=
  Rd H a (.lst xs) ∨
    ∃ (o : Obj) (its : Array Value) (n : Nat), K.lookup a = some o ∧ o.cls = .type "list" ∧ o.dict = none ∧ o.data = .seq its n ∧ its.size ≤ sizeLine ∧ Vals xs its.toList
noncomputable def SqT (K : PySem.W.Frag) (H : Hp) (a : Addr) (xs : List V) : Prop :=
  Rd H a (.tup xs) ∨
    ∃ (o : Obj) (its : Array Value) (n : Nat), K.lookup a = some o ∧ o.cls = .type "tuple" ∧ o.data = .seq its n ∧ its.size ≤ sizeLine ∧ Vals xs its.toList
noncomputable def absV : Value → Option V
  | .none => some .non
  | .bool b => some (.bl b)
  | .int i _ => some (.int i)
  | .str x _ => some (.str x)
  | .bytes b _ => some (.byt b)
  | .float b _ => some (.flt b)
  | .ref a => some (.ref a)
  | .type n => some (.ty n)
  | _ => none
theorem RelV.abs {x : V} {u : Value} (r : RelV x u) : absV u = some x := by
  cases x with
  | non => cases r; rfl
  | bl _ => cases r; rfl
  | int _ => obtain ⟨t, rfl⟩ := r; rfl
  | str _ => obtain ⟨t, rfl⟩ := r; rfl
  | byt _ => obtain ⟨t, rfl⟩ := r; rfl
  | flt _ => obtain ⟨t, rfl⟩ := r; rfl
  | ref _ => cases r; rfl
  | ty _ => cases r; rfl
theorem RelV.inj {x y : V} {u : Value} (r : RelV x u) (q : RelV y u) : x = y := Option.some.inj (r.abs.symm.trans q.abs)
theorem Vals.inj {xs ys : List V} {us : List Value} (a : Vals xs us) (b : Vals ys us) : xs = ys := by
  induction a generalizing ys with
  | nil => cases b; rfl
  | cons r t ih =>
    cases b with
    | cons r' t' => rw [r.inj r', ih t']
section
variable {X : Cx} {pins : List (Addr × Obj)} {σ : St} {H : Hp} {s : Shared} {a : Addr} {xs ys : List V}
theorem SqL.of {K : PySem.W.Frag} (h : H a = some (.lst xs)) : SqL K H a xs := .inl (.inl h)
theorem SqT.of {K : PySem.W.Frag} (h : H a = some (.tup xs)) : SqT K H a xs := .inl (.inl h)
theorem Inv.list (I : Inv X pins σ H s) (h : SqL X.K H a xs) : ∃ its : List Value, Vals xs its ∧ PlainL s.heap a its.toArray ∧ xs.length ≤ sizeLine := by
  rcases h with h | ⟨o, its, n, hk, hc, hd, hs, hz, r⟩
  · obtain ⟨z, its, n, r, e⟩ := h.ok I.hok
    exact ⟨its, r, ⟨_, n, e, rfl, rfl, rfl⟩, z⟩
  · refine ⟨its.toList, r, ⟨o, n, I.kIn a o hk, hc, hd, by simpa using hs⟩, ?_⟩
    have e := r.length
    simp only [Array.length_toList] at e
    omega
theorem Inv.tuple (I : Inv X pins σ H s) (h : SqT X.K H a xs) : ∃ its : List Value, Vals xs its ∧ IsTup s.heap a its.toArray ∧ xs.length ≤ sizeLine := by
  rcases h with h | ⟨o, its, n, hk, hc, hs, hz, r⟩
  · obtain ⟨z, its, r, p⟩ := h.ok I.hok
    exact ⟨its, r, p, z⟩
  · refine ⟨its.toList, r, ⟨o, I.kIn a o hk, hc, n, by simpa using hs⟩, ?_⟩
    have e := r.length
    simp only [Array.length_toList] at e
    omega
theorem Inv.list_inj (I : Inv X pins σ H s) (h : SqL X.K H a xs) (h' : SqL X.K H a ys) : xs = ys := by
  obtain ⟨its, r, ⟨o, n, e, _, _, d⟩, _⟩ := I.list h
  obtain ⟨its', r', ⟨o', n', e', _, _, d'⟩, _⟩ := I.list h'
  rw [e] at e'; cases e'
  rw [d] at d'
  injection d' with d1 _
  have : its = its' := by simpa using congrArg Array.toList d1
  subst this
  exact r.inj r'
end

noncomputable abbrev Cx.wish (X : Cx) (E : Value → Shared → Prop) : Cx := { X with xe := E }
noncomputable abbrev Cx.nox (X : Cx) : Cx := X.wish fun _ _ => False
theorem Cx.Ok.wish {X : Cx} (ok : X.Ok) (E : Value → Shared → Prop) : (X.wish E).Ok :=
  ⟨ok.mod, ok.kind, ok.glob, ok.blt, ok.above, ok.inj, ok.has, ok.cab, ok.hd, ok.frames, ok.stk, ok.exf, ok.bs, ok.bsz, ok.noex, ok.exfs, ok.funs, ok.frf⟩
theorem Cx.Ok.unwish {X : Cx} {E : Value → Shared → Prop} (ok : (X.wish E).Ok) : X.Ok :=
  ⟨ok.mod, ok.kind, ok.glob, ok.blt, ok.above, ok.inj, ok.has, ok.cab, ok.hd, ok.frames, ok.stk, ok.exf, ok.bs, ok.bsz, ok.noex, ok.exfs, ok.funs, ok.frf⟩
section
variable {X : Cx} {pins : List (Addr × Obj)} {σ : St} {H : Hp} {s : Shared} {E : Value → Shared → Prop}
theorem Inv.wish (I : Inv X pins σ H s) (E : Value → Shared → Prop) : Inv (X.wish E) pins σ H s := ⟨I.ok.wish E, I.os, I.bare, I.base, I.loc, I.cell, I.free, I.freeC, I.pin, I.hok, I.len⟩
theorem Inv.unwish (I : Inv (X.wish E) pins σ H s) : Inv X pins σ H s := ⟨I.ok.unwish, I.os, I.bare, I.base, I.loc, I.cell, I.free, I.freeC, I.pin, I.hok, I.len⟩
theorem SP.unwish {D : Ends} {f : Flow} {s' : Shared} (h : SP (X.wish E) pins D f s') : SP X pins D f s' := by
  cases f with
  | next => obtain ⟨σ', H', I, q⟩ := h; exact ⟨σ', H', I.unwish, q⟩
  | brk => obtain ⟨σ', H', I, q⟩ := h; exact ⟨σ', H', I.unwish, q⟩
  | cont => obtain ⟨σ', H', I, q⟩ := h; exact ⟨σ', H', I.unwish, q⟩
  | ret u => obtain ⟨v, σ', H', I, r, q⟩ := h; exact ⟨v, σ', H', I.unwish, r, q⟩
theorem PSs.nox {st : List Stmt} {t : TS} (h : PSs X.nox st t) : PSs X st t := fun pins s σ H D I hw =>
  wpAny_mono (h pins s σ H D (I.wish _) hw) (fun _ _ q => q.unwish) fun _ _ z => False.elim z
end

section
variable {X : Cx} {st : Stmt} {rest : List Stmt} {t u : TS} {e : Expr} {te : TE} {pos : Pos}
noncomputable def tNext : TS := fun D σ H => D.nx σ H
noncomputable def tSeq (t u : TS) : TS := fun D σ H => t { D with nx := u D } σ H
theorem pss_nil : PSs X [] tNext := fun _ _ σ H _ I h => wpAny_execs_nil ⟨σ, H, I, h⟩
theorem pss_cons (h1 : PS X st t) (h2 : PSs X rest u) : PSs X (st :: rest) (tSeq t u) := by
  intro pins s σ H D I h
  refine wpAny_execs_cons (thn (h1 pins s σ H { D with nx := u D } I h) fun f s1 q => ?_)
  cases f with
  | next =>
    obtain ⟨σ', H', I', q⟩ := q
    exact h2 pins s1 σ' H' D I' q
  | ret v => exact q
  | brk => exact q
  | cont => exact q
theorem pss_one (h1 : PS X st t) : PSs X [st] t := by
  intro pins s σ H D I h
  refine wpAny_execs_cons (thn (h1 pins s σ H D I h) fun f s1 q => ?_)
  cases f with
  | next => exact wpAny_execs_nil q
  | ret v => exact q
  | brk => exact q
  | cont => exact q
theorem Inv.quiet {pins : List (Addr × Obj)} {σ : St} {H : Hp} {s : Shared} (I : Inv X pins σ H s) : interactive X.env = false := by simp [interactive, I.ok.kind]
noncomputable def tDrop (te : TE) : TS := fun D σ H => te σ H fun _ H1 => D.nx σ H1
theorem ps_expr (he : PE X e te) (hs : swapsWith e none pos.line X.env = pure false := by rfl) : PS X (.Expr e pos) (tDrop te) := by
  intro pins s σ H D I h
  exact wpAny_Expr_any (thn (he pins s σ H _ I h) fun v s1 ⟨x, H1, I1, r1, q1⟩ => ⟨σ, H1, I1, q1⟩) I.quiet hs
noncomputable def tRet (te : TE) : TS := fun D σ H => te σ H D.rt
theorem ps_ret (he : PE X e te) : PS X (.Return (some e) pos) (tRet te) := by
  intro pins s σ H D I h
  exact wpAny_Return_some (thn (he pins s σ H _ I h) fun v s1 ⟨x, H1, I1, r1, q1⟩ => ⟨x, σ, H1, I1, r1, q1⟩)
noncomputable def tIfS (c : TT) (t u : TS) : TS := fun D σ H => c σ H fun b H1 => if b = true then t D σ H1 else u D σ H1
theorem ps_if {c : Expr} {a b : List Stmt} {tc : TT} (hc : PT X c tc) (ha : PSs X a t) (hb : PSs X b u) : PS X (.If c a b pos) (tIfS tc t u) := by
  intro pins s σ H D I h
  refine wpAny_If (thn (hc pins s σ H _ I h) fun d s1 ⟨H1, I1, q1⟩ => ?_)
  cases d with
  | true => exact ha pins s1 σ H1 D I1 q1
  | false => exact hb pins s1 σ H1 D I1 q1
noncomputable def tNever : TS := fun _ _ _ => False
theorem pss_never {sts : List Stmt} : PSs X sts tNever := fun _ _ _ _ _ _ h => h.elim
end

noncomputable abbrev TG := V → St → Hp → (St → Hp → Prop) → Prop
noncomputable abbrev TGs := List V → St → Hp → (St → Hp → Prop) → Prop
noncomputable def PG (X : Cx) (target : Expr) (t : TG) : Prop :=
  ∀ (pins : List (Addr × Obj)) (s : Shared) (σ : St) (H : Hp) (v : V) (u : Value) (Q : St → Hp → Prop), Inv X pins σ H s → RelV v u → t v σ H Q →
    wpAny (model X.prog X.w) X.A (assign target X.env u) (fun _ s' => ∃ σ' H', Inv X pins σ' H' s' ∧ Q σ' H') X.xe s
noncomputable def PGs (X : Cx) (ts : List Expr) (t : TGs) : Prop :=
  ∀ (pins : List (Addr × Obj)) (s : Shared) (σ : St) (H : Hp) (vs : List V) (us : List Value) (Q : St → Hp → Prop), Inv X pins σ H s → Vals vs us → t vs σ H Q →
    wpAny (model X.prog X.w) X.A (assignInOrder ((assignEach ts X.env).map (·.2)) us) (fun _ s' => ∃ σ' H', Inv X pins σ' H' s' ∧ Q σ' H') X.xe s
noncomputable abbrev TSet := V → V → V → Hp → (Hp → Prop) → Prop
noncomputable def PSet (X : Cx) (t : TSet) : Prop :=
  ∀ (pins : List (Addr × Obj)) (s : Shared) (σ : St) (H : Hp) (o i v : V) (ov iv u : Value) (Q : Hp → Prop), Inv X pins σ H s → RelV o ov → RelV i iv → RelV v u → t o i v H Q →
    wpAny (model X.prog X.w) X.A (setItem ov iv u) (fun _ s' => ∃ H', Inv X pins σ H' s' ∧ Q H') X.xe s
noncomputable abbrev TIp := V → V → Hp → VK → Prop
section
variable {X : Cx} {pos : Pos}
noncomputable def gName (i : Nat) : TG := fun v σ H Q => Q (σ.set i (some v)) H
theorem pg_name {i : Nat} {x : Str} (hN : X.N.Nodup) (hi : X.N[i]? = some x) (hx : Loc X.env.scope x) (hf : X.fn x = true ∨ X.env.scope.names.lookup x = some .local := by first | exact .inl rfl | exact .inr rfl | assumption) : PG X (.Name x pos) (gName i) := by
  intro pins s σ H v u Q I r h
  exact wpAny_assign_Name (store_ok I hN hi hx r (fun s' I' => ⟨_, H, I', h⟩) hf)
noncomputable def gNil : TGs := fun vs σ H Q => vs = [] ∧ Q σ H
noncomputable def gCons (t : TG) (u : TGs) : TGs := fun vs σ H Q => ∃ v r, vs = v :: r ∧ t v σ H fun σ' H' => u r σ' H' Q
theorem pgs_nil : PGs X [] gNil := by
  intro pins s σ H vs us Q I r h
  obtain ⟨e, h⟩ := h
  subst e
  cases r
  exact assignInOrder_nil ⟨σ, H, I, h⟩
theorem pgs_cons {e : Expr} {es : List Expr} {t : TG} {u : TGs} (h1 : PG X e t) (h2 : PGs X es u)
    (hs : (assignEach (e :: es) X.env).map (·.2) = assign e X.env :: (assignEach es X.env).map (·.2) := by rfl) : PGs X (e :: es) (gCons t u) := by
  intro pins s σ H vs us Q I r h
  obtain ⟨v, vr, e1, h⟩ := h
  subst e1
  cases r with
  | cons r rr =>
    rw [hs]
    refine assignInOrder_cons (thn (h1 pins s σ H _ _ _ I r h) fun _ s1 ⟨σ1, H1, I1, q1⟩ => ?_)
    exact h2 pins s1 σ1 H1 _ _ Q I1 rr q1
noncomputable def gTup (K : PySem.W.Frag) (n : Nat) (t : TGs) : TG := fun v σ H Q => ∃ a xs, v = .ref a ∧ SqT K H a xs ∧ xs.length = n ∧ t xs σ H Q
theorem pg_tup {es : List Expr} {k : Nat} {t : TGs} {n : Nat} (hc : X.calm = true) (h : PGs X es t)
    (hn : (assignEach es X.env).length = n := by rfl) (hst : (assignEach es X.env).findIdx? (·.1) = none := by rfl) : PG X (.Tuple es k pos) (gTup X.K n t) := by
  intro pins s σ H v u Q I r hw
  obtain ⟨a, xs, e1, hq, hl, hw⟩ := hw
  subst e1
  cases r
  obtain ⟨its, rv, ht, hz⟩ := I.tuple hq
  refine assign_Tuple_tuple (I.ok.hd hc) ht (by simp [hn, ← hl, rv.length]) hst fun h' hx => ?_
  have I1 : Inv X pins σ H { s with heap := h' } := I.kept (t' := s.toks) fun b o e => hx b o (Nat.ne_of_lt (Heap.lt_size e)) e
  exact h pins _ σ H xs _ Q I1 (by simpa using rv) hw
noncomputable def gSub (to ti : TE) (t : TSet) : TG := fun v σ H Q => to σ H fun o H1 => ti σ H1 fun i H2 => t o i v H2 fun H3 => Q σ H3
theorem pg_sub {o i : Expr} {to ti : TE} {t : TSet} (ho : PE X o to) (hi : PE X i ti) (hs : PSet X t)
    (ha : ∀ v, assign (.Subscript o i pos) X.env v = (do
      let ov ← holding [v] (eval o X.env)
      let iv ← holding [v, ov] (eval i X.env)
      standAt pos
      holding [v, ov, iv] (setItem ov iv v)
      release [v, ov, iv] []) := by intro _; rfl) : PG X (.Subscript o i pos) (gSub to ti t) := by
  intro pins s σ H v u Q I r h
  rw [ha]
  refine wpAny_bind (wpAny_holding (thn (ho pins s σ H _ I h) fun ov s1 ⟨x, H1, I1, r1, q1⟩ => ?_))
  refine wpAny_bind (wpAny_holding (thn (hi pins s1 σ H1 _ I1 q1) fun iv s2 ⟨y, H2, I2, r2, q2⟩ => ?_))
  refine wpAny_bind (wpAny_standAt (wpAny_bind (wpAny_holding (thn (hs pins s2 σ H2 x y v ov iv u _ I2 r1 r2 r q2) fun _ s3 ⟨H3, I3, q3⟩ => ?_))))
  exact wpAny_release ⟨σ, H3, I3, q3⟩
noncomputable def tAsg (te : TE) (g : TG) : TS := fun D σ H => te σ H fun x H1 => g x σ H1 D.nx
theorem ps_asg {tg e : Expr} {te : TE} {g : TG} (he : PE X e te) (hg : PG X tg g) (hs : swapsWithSole [tg] e pos.line X.env = pure false := by rfl) (hw : swappedStores [tg] e X.env = pure none := by rfl)
    (h1 : (assignEach [tg] X.env).map (·.2) = [assign tg X.env] := by rfl) : PS X (.Assign [tg] e pos) (tAsg te g) := by
  intro pins s σ H D I h
  refine wpAny_Assign_stores (thn (he pins s σ H _ I h) fun v s1 ⟨x, H1, I1, r1, q1⟩ => ?_) hs hw
  rw [h1]
  exact thn (hg pins s1 σ H1 x v _ I1 r1 q1) fun _ s2 q => q
theorem ps_set {i : Nat} {x : Str} {e : Expr} {te : TE} {pos' : Pos} (hN : X.N.Nodup) (hi : X.N[i]? = some x) (hx : Loc X.env.scope x) (he : PE X e te) (hs : swapsWith e (some (.Name x pos')) pos.line X.env = pure false := by rfl) (hf : X.fn x = true ∨ X.env.scope.names.lookup x = some .local := by first | exact .inl rfl | exact .inr rfl | assumption) :
    PS X (.Assign [.Name x pos'] e pos) (tAsg te (gName i)) := by
  intro pins s σ H D I h
  refine wpAny_Assign_Name (thn (he pins s σ H _ I h) fun v s1 ⟨y, H1, I1, r1, q1⟩ => ?_) hs
  exact store_ok I1 hN hi hx r1 (fun s2 I2 => ⟨_, H1, I2, q1⟩) hf
end

section
variable {X : Cx} {pos : Pos}
end

structure It where
  go : Nat → Hp → Prop
  yld : Nat → Hp → V → Hp → Prop
  stop : Nat → Hp → Prop
noncomputable def FpOk (X : Cx) (pins : List (Addr × Obj)) (H : Hp) (b : Addr) : Prop :=
  H b = none ∧ b ≠ X.env.locals ∧ b ∉ X.fs ∧ (b ∈ X.ex ∨ X.s₀.heap.objs.size ≤ b) ∧ (∀ x c, X.env.cells.lookup x = some c → c ≠ b) ∧ ∀ p ∈ X.pn ++ pins, p.1 ≠ b
theorem Inv.fpOk {X : Cx} {pins : List (Addr × Obj)} {σ : St} {H H' : Hp} {s : Shared} {b : Addr} (I : Inv X pins σ H s) (hb : s.heap.objs.size ≤ b) (hn : H' b = none) : FpOk X pins H' b := by
  refine ⟨hn, Nat.ne_of_gt (Nat.lt_of_lt_of_le I.lt hb), I.nofs hb, .inr (Nat.le_trans I.sz hb), fun x c e z => ?_, fun p hp z => ?_⟩
  · obtain ⟨v, q⟩ := I.cell x c e
    exact absurd (Nat.lt_of_lt_of_le q.lt (by rw [z]; exact hb)) (Nat.lt_irrefl _)
  · exact absurd (Nat.lt_of_lt_of_le (Heap.lt_size (I.pin p hp).1) (by rw [z]; exact hb)) (Nat.lt_irrefl _)
structure Turn (P : Program) (w : World) (K : PySem.W.Frag) (tg : Expr) (J : It) (fp : List Addr) (it : Addr) (tn : Nat → Heap → Prop) : Prop where
  mem : it ∈ fp
  obj : ∀ i h, tn i h → ∀ b ∈ fp, ∃ o, h.get? b = some o ∧ ∀ v, o.data ≠ .cell v
  keep : ∀ i h h', tn i h → (∀ b ∈ fp, ∀ o, h.get? b = some o → h'.get? b = some o) → tn i h'
  item : ∀ (X : Cx), X.prog = P → X.w = w → X.K = K → X.calm = true → ∀ (i : Nat) (pins : List (Addr × Obj)) (s : Shared) (σ : St) (H : Hp) (E : Value → Shared → Prop), Inv X pins σ H s → (∀ b ∈ fp, FpOk X pins H b) → tn i s.heap → J.go i H →
    wpAny (model P w) X.A (pyNext (.ref it)) (fun r s1 => ∃ u, r = some u ∧
      wpAny (model P w) X.A (letOwnedTupleGo tg (.ref it) u) (fun _ s2 => ∃ x H', Inv X pins σ H' s2 ∧ RelV x u ∧ J.yld i H x H' ∧ tn (i + 1) s2.heap ∧ ∀ b ∈ fp, H' b = none) E s1) E s
  done : ∀ (X : Cx), X.prog = P → X.w = w → X.K = K → X.calm = true → ∀ (i : Nat) (pins : List (Addr × Obj)) (s : Shared) (σ : St) (H : Hp) (E : Value → Shared → Prop), Inv X pins σ H s → (∀ b ∈ fp, FpOk X pins H b) → tn i s.heap → J.stop i H →
    wpAny (model P w) X.A (pyNext (.ref it)) (fun r s1 => r = none ∧ Inv X pins σ H s1) E s
  self : ∀ (A : Around) (i : Nat) (s : Shared) (Q : Value → Shared → Prop) (E : Value → Shared → Prop), tn i s.heap → Q (.ref it) s → wpAny (model P w) A (pyIter (.ref it)) Q E s
noncomputable abbrev TI := St → Hp → (It → Hp → Prop) → Prop
noncomputable def PIE (X : Cx) (pins : List (Addr × Obj)) (σ : St) (tg : Expr) (R : It → Hp → Prop) (itv : Value) (s2 : Shared) : Prop :=
  ∃ (it : Addr) (fp : List Addr) (tn : Nat → Heap → Prop) (J : It) (H' : Hp), itv = .ref it ∧ Inv X pins σ H' s2 ∧ Turn X.prog X.w X.K tg J fp it tn ∧ tn 0 s2.heap ∧ (∀ b ∈ fp, FpOk X pins H' b) ∧ R J H'
noncomputable def PI (X : Cx) (tg iter : Expr) (wi : TI) : Prop :=
  ∀ (pins : List (Addr × Obj)) (s : Shared) (σ : St) (H : Hp) (R : It → Hp → Prop), Inv X pins σ H s → wi σ H R →
    wpAny (model X.prog X.w) X.A (eval iter X.env) (fun v s1 => wpAny (model X.prog X.w) X.A (pyIter v) (PIE X pins σ tg R) X.xe s1) X.xe s

theorem go_of {M : Model} {A : Around} {E : Value → Shared → Prop} {s : Shared} {tg : Expr} {it : Addr} {u : Value} {o : Obj} {n : String} {vs : Array Value} {Q : Unit → Shared → Prop} (ho : s.heap.get? it = some o) (hc : o.cls = .type n) (hd : o.data = .fields vs)
    (hn : ["enumerate", "zip", "dict_itemiterator", "dict_reverseitemiterator", "odict_iterator", "itertools.zip_longest", "itertools.pairwise"].contains n = false) (hQ : Q () s) : wpAny M A (letOwnedTupleGo tg (.ref it) u) Q E s := by
  unfold letOwnedTupleGo
  cases tg <;> first
    | exact wpAny_pure hQ
    | (cases u <;> first
        | exact wpAny_pure hQ
        | (refine wpAny_bind (wpAny_load ho ?_)
           rw [hc, hd]
           show wpAny M A (if (["enumerate", "zip", "dict_itemiterator", "dict_reverseitemiterator", "odict_iterator", "itertools.zip_longest", "itertools.pairwise"].contains n && vs[0]? == some (rawInt _)) = true then _ else _) Q E s
           rw [if_neg (by intro h; rw [hn, Bool.false_and] at h; cases h)]
           exact wpAny_pure hQ))

noncomputable def Itl (K : PySem.W.Frag) (a : Addr) : It :=
  ⟨fun i H => ∃ xs x, SqL K H a xs ∧ xs[i]? = some x, fun i H x H' => H' = H ∧ ∀ xs, SqL K H a xs → xs[i]? = some x, fun i H => ∃ xs, SqL K H a xs ∧ xs.length ≤ i⟩
noncomputable def Itr (lo : Int) (n : Nat) : It := ⟨fun i _ => i < n, fun i H x H' => H' = H ∧ x = .int (lo + i), fun i _ => n ≤ i⟩
theorem turn_list {P : Program} {w : World} {K : PySem.W.Frag} {tg : Expr} (a it : Addr) : Turn P w K tg (Itl K a) [it] it (fun i h => h.IsListIter it a i) where
  mem := by simp
  obj := fun i h st b hb => by
    have e : b = it := by simpa using hb
    subst e
    obtain ⟨o, e, c, d⟩ := st
    exact ⟨o, e, fun v z => by rw [d] at z; cases z⟩
  keep := fun i h h' st k => st.at fun o e => k it (by simp) o e
  item := by
    intro X hP hw hK hc i pins s σ H E I hf st hg
    subst hP hw hK
    obtain ⟨xs, x, hq, hx⟩ := hg
    obtain ⟨its, rv, p, hz⟩ := I.list hq
    obtain ⟨u, hu, ru⟩ := rv.get hx
    obtain ⟨f0, f1, f2, f3, f4, f5⟩ := hf it (by simp)
    refine wpAny_pyNext_list_item st p.isList (x := u) (by simpa using hu) fun h' st' sb => ?_
    have I1 : Inv X pins σ H { s with heap := h' } := I.turned (t' := s.toks) (fun b o hb e => (sb.2 b hb).trans e) f0 f1 f3 f4 f5
    obtain ⟨o, e, c, d⟩ := id st'
    exact ⟨u, rfl, go_of (s := { s with heap := h' }) e c d (by decide) ⟨x, H, I1, ru, ⟨rfl, fun ys hy => by rw [I.list_inj hy hq]; exact hx⟩, st', fun b hb => (hf b hb).1⟩⟩
  done := by
    intro X hP hw hK hc i pins s σ H E I hf st hg
    subst hP hw hK
    obtain ⟨xs, hq, hx⟩ := hg
    obtain ⟨its, rv, p, hz⟩ := I.list hq
    obtain ⟨f0, f1, f2, f3, f4, f5⟩ := hf it (by simp)
    have hl := rv.length
    exact wpAny_pyNext_list_end (I.ok.hd hc) st p.isList (by simp; omega) fun h' eb => ⟨rfl, I.turned (t' := s.toks) (fun b o hb e => eb b o hb e) f0 f1 f3 f4 f5⟩
  self := fun _ _ _ _ _ st h => wpAny_pyIter_listiter st h
theorem turn_range {P : Program} {w : World} {K : PySem.W.Frag} {tg : Expr} (it : Addr) (lo : Int) (n : Nat) : Turn P w K tg (Itr lo n) [it] it (fun i h => IsRangeIter h it (lo + (i : Nat) * 1) ((n : Int) - (i : Nat)) 1) where
  mem := by simp
  obj := fun i h st b hb => by
    have e : b = it := by simpa using hb
    subst e
    exact ⟨_, st, fun v z => by
      have z' : Data.fields _ = Data.cell v := z
      cases z'⟩
  keep := fun i h h' st k => k it (by simp) _ st
  item := by
    intro X hP hw hK hc i pins s σ H E I hf st hg
    subst hP hw hK
    obtain ⟨f0, f1, f2, f3, f4, f5⟩ := hf it (by simp)
    have W := Walks.range (prog := X.prog) (w := X.w) (I.ok.hd hc) it lo 1 n
    refine W.item i s _ _ hg st fun v h' tk hv st' kk => ?_
    obtain ⟨t, rfl⟩ := hv
    have I1 : Inv X pins σ H { s with heap := h', toks := tk } := I.turned (fun b o hb e => kk b o (by simpa using hb) e) f0 f1 f3 f4 f5
    refine ⟨_, rfl, go_of (s := { s with heap := h', toks := tk }) (n := "range_iterator") st' rfl rfl (by decide) ⟨.int (lo + i), H, I1, ⟨t, ?_⟩, ⟨rfl, rfl⟩, st', fun b hb => (hf b hb).1⟩⟩
    rw [Int.mul_one]
  done := by
    intro X hP hw hK hc i pins s σ H E I hf st hg
    subst hP hw hK
    obtain ⟨f0, f1, f2, f3, f4, f5⟩ := hf it (by simp)
    exact wpAny_pyNext_range_end (I.ok.hd hc) st (by have : n ≤ i := hg; omega) fun h' eb => ⟨rfl, I.turned (t' := s.toks) (fun b o hb e => eb b o hb e) f0 f1 f3 f4 f5⟩
  self := fun _ _ _ _ _ st h => wpAny_pyIter_rangeiter st h
end L2

namespace L2
open PySem PySem.Spec PyProof.Rows
section
variable {X : Cx} {tg : Expr}
noncomputable def iList (K : PySem.W.Frag) (tl : TE) : TI := fun σ H R => tl σ H fun x H1 => ∃ a, x = .ref a ∧ (∃ xs, SqL K H1 a xs) ∧ R (Itl K a) H1
theorem pi_list {l : Expr} {tl : TE} (hl : PE X l tl) : PI X tg l (iList X.K tl) := by
  intro pins s σ H R I h
  refine thn (hl pins s σ H _ I h) fun v s1 ⟨x, H1, I1, r1, q1⟩ => ?_
  obtain ⟨a, e, ⟨xs, hq⟩, q⟩ := q1
  subst e
  cases r1
  obtain ⟨its, rv, p, hz⟩ := I1.list hq
  refine wpAny_pyIter_list p.isList ?_
  refine ⟨s1.heap.objs.size, [s1.heap.objs.size], _, _, H1, rfl, I1.kept (t' := s1.toks) fun b o e => Heap.get?_push_of_some _ e, turn_list a _, ⟨_, Heap.get?_push_size _ rfl, rfl, rfl⟩, fun b hb => ?_, q⟩
  have e : b = s1.heap.objs.size := by simpa using hb
  subst e
  exact I1.fpOk (Nat.le_refl _) (I1.hok.fresh (Nat.le_refl _))
theorem range_it {pins : List (Addr × Obj)} {σ : St} {H : Hp} {s : Shared} {R : It → Hp → Prop} {E : Value → Shared → Prop} {lo hi : Int} {t u v : Tok} {tk : Nat} (I : Inv X pins σ H s) (h1 : -(2 ^ 62) ≤ lo) (h2 : lo < 2 ^ 62) (h3 : -(2 ^ 62) ≤ hi) (h4 : hi < 2 ^ 62)
    (q : R (Itr lo (hi - lo).toNat) H) : wpAny (model X.prog X.w) X.A (pyIter (.ref s.heap.objs.size)) (PIE X pins σ tg R) E { s with heap := s.heap.push { cls := .type "range", data := .fields #[.int lo t, .int hi u, .int 1 v] }, toks := tk } := by
  refine wpAny_pyIter_range (IsRange.new ..) (small_one h1 h2 h3 h4) ?_
  have I1 : Inv X pins σ H { s with heap := s.heap.push { cls := .type "range", data := .fields #[.int lo t, .int hi u, .int 1 v] }, toks := tk } := I.kept fun b o e => Heap.get?_push_of_some _ e
  refine ⟨(s.heap.push { cls := .type "range", data := .fields #[.int lo t, .int hi u, .int 1 v] }).objs.size, [(s.heap.push { cls := .type "range", data := .fields #[.int lo t, .int hi u, .int 1 v] }).objs.size], _, _, H, rfl,
    I1.kept (t' := tk) fun b o e => Heap.get?_push_of_some _ e, turn_range _ lo (hi - lo).toNat, ?_, fun b hb => ?_, q⟩
  · have e1 : lo + ((0 : Nat) : Int) * 1 = lo := by simp
    have e2 : (((hi - lo).toNat : Nat) : Int) - ((0 : Nat) : Int) = Builtin.Range.rangeSize lo hi 1 := by rw [rangeSize_one]; split <;> omega
    show IsRangeIter _ _ (lo + ((0 : Nat) : Int) * 1) ((((hi - lo).toNat : Nat) : Int) - ((0 : Nat) : Int)) 1
    rw [e1, e2]
    exact Heap.get?_push_size _ rfl
  · have e : b = (s.heap.push { cls := .type "range", data := .fields #[.int lo t, .int hi u, .int 1 v] }).objs.size := by simpa using hb
    subst e
    exact I1.fpOk (Nat.le_refl _) (I1.hok.fresh (Nat.le_refl _))
noncomputable def iRng1 (ta : TA) : TI := fun σ H R => ta σ H fun vs H1 => ∃ j : Int, vs = [.int j] ∧ -(2 ^ 62) ≤ j ∧ j < 2 ^ 62 ∧ R (Itr 0 j.toNat) H1
theorem pi_range1 {a : Expr} {ta : TA} {p pos : Pos} (hg : Gl X "range") (hm : X.mg "range" = none) (ha : PA X [a] ta) (hs : starEach [a] X.env = [(false, eval a X.env)] := by rfl) : PI X tg (.Call (.Name "range" p) [a] [] pos) (iRng1 ta) := by
  intro pins s σ H R I h
  refine Call_ (ld_blt I hg hm boot_range (PyProof.Rows.callWith_type1 (thn (ha pos pins s σ H _ I h) fun us s1 ⟨vs, H1, I1, r1, q1⟩ => ?_) hs rfl))
  obtain ⟨j, e, q1, q2, q⟩ := q1
  subst e
  cases r1 with
  | cons r rr =>
    cases rr
    obtain ⟨t, rfl⟩ := r
    exact call_range_1 (range_it I1 (by omega) (by omega) q1 q2 (by simpa using q))
noncomputable def tFor (wi : TI) (g : TG) (tb : TS) : TS := fun D σ H => wi σ H fun J H1 => ∃ W : Nat → Nat → St → Hp → Prop, (∃ m, W 0 m σ H1) ∧ ∀ i m σ H, W i m σ H →
  (J.stop i H ∧ D.nx σ H) ∨ (J.go i H ∧ ∃ N : St → Hp → Prop, (∀ σ' H', N σ' H' → ∃ m', m' < m ∧ W (i + 1) m' σ' H') ∧ ∀ x H', J.yld i H x H' → g x σ H' fun σ2 H2 => tb { D with nx := N, ct := N, bk := D.nx } σ2 H2)
noncomputable def pinsAt (fp : List Addr) (h : Heap) : List (Addr × Obj) := fp.filterMap fun b => (h.get? b).map fun o => (b, o)
theorem mem_pinsAt {fp : List Addr} {h : Heap} {b : Addr} {o : Obj} (hb : b ∈ fp) (e : h.get? b = some o) : (b, o) ∈ pinsAt fp h := List.mem_filterMap.mpr ⟨b, hb, by rw [e]; rfl⟩
theorem of_pinsAt {fp : List Addr} {h : Heap} {p : Addr × Obj} (hp : p ∈ pinsAt fp h) : p.1 ∈ fp ∧ h.get? p.1 = some p.2 := by
  obtain ⟨b, hb, e⟩ := List.mem_filterMap.mp hp
  cases q : h.get? b with
  | none => rw [q] at e; cases e
  | some o =>
    rw [q] at e
    have e' : (b, o) = p := Option.some.inj e
    subst e'
    exact ⟨hb, q⟩
theorem Inv.pinned {pins : List (Addr × Obj)} {σ : St} {H : Hp} {s : Shared} {fp : List Addr} (I : Inv X pins σ H s) (hf : ∀ b ∈ fp, FpOk X pins H b) (ho : ∀ b ∈ fp, ∃ o, s.heap.get? b = some o ∧ ∀ v, o.data ≠ .cell v) : Inv X (pins ++ pinsAt fp s.heap) σ H s :=
  I.pins_of fun p hp => (List.mem_append.mp hp).elim (fun z => I.pin p (List.mem_append_right _ z)) fun z => by
    obtain ⟨hb, e⟩ := of_pinsAt z
    obtain ⟨f0, f1, f2, _⟩ := hf p.1 hb
    obtain ⟨o, e', d⟩ := ho p.1 hb
    rw [e] at e'; cases e'
    exact ⟨e, f0, f1, f2, d⟩
theorem Inv.unpinned {pins pl : List (Addr × Obj)} {σ : St} {H : Hp} {s : Shared} (I : Inv X (pins ++ pl) σ H s) : Inv X pins σ H s := I.pins_of fun p hp => I.pin p (List.mem_append_right _ (List.mem_append_left _ hp))
theorem ps_for {iter : Expr} {body : List Stmt} {wi : TI} {g : TG} {tb : TS} {pos : Pos} (hp : PassesOwn (model X.prog X.w) X.A X.env X.xe) (hc : X.calm = true) (hi : PI X tg iter wi) (hg : PG X tg g) (hb : PSs X body tb)
    (hs : ∀ x, foldedSetIterable iter X.env x = pure x := by intro _; rfl) : PS X (.For tg iter body [] pos) (tFor wi g tb) := by
  intro pins s σ H D I h
  refine wpAny_For (thn (hi pins s σ H _ I h) fun v s1 h1 => thn h1 fun itv s2 h2 => ?_) hs
  obtain ⟨it, fp, tn, J, H2, e, I2, T, st2, f2, W, ⟨m0, w0⟩, turn⟩ := h2
  subst e
  -- what stays true of the iterator's objects through the loop
  have stat : ∀ {H' : Hp}, (∀ b ∈ fp, H' b = none) → ∀ b ∈ fp, FpOk X pins H' b := fun hn b hb => ⟨hn b hb, (f2 b hb).2⟩
  refine codeAny_forLoop_any (fun n s' => ∃ i σ' H', Inv X pins σ' H' s' ∧ tn i s'.heap ∧ (∀ b ∈ fp, H' b = none) ∧ W i n σ' H') ?_ m0 ⟨0, σ, H2, I2, st2, fun b hb => (f2 b hb).1, w0⟩
  rintro n s3 ⟨i, σ3, H3, I3, st3, fr3, w3⟩
  rcases turn i n σ3 H3 w3 with ⟨stop, qn⟩ | ⟨go, N, hN, step⟩
  · refine wpAny_passesOwn hp (thn (T.done X rfl rfl rfl hc i pins s3 σ3 H3 X.xe I3 (stat fr3) st3 stop) fun r s4 ⟨hr, I4⟩ => ?_)
    subst hr
    exact wpAny_execs_nil ⟨σ3, H3, I4, qn⟩
  · refine wpAny_passesOwn hp (thn (T.item X rfl rfl rfl hc i pins s3 σ3 H3 X.xe I3 (stat fr3) st3 go) fun r s4 ⟨u, hr, h4⟩ => ?_)
    subst hr
    refine wpAny_passesOwn hp (thn h4 fun _ s5 ⟨x, H5, I5, r5, y5, st5, fr5⟩ => ?_)
    have I5' := I5.pinned (stat fr5) (T.obj _ _ st5)
    refine wpAny_passesOwn hp (thn (hg _ s5 σ3 H5 x u _ I5' r5 (step x H5 y5)) fun _ s6 ⟨σ6, H6, I6, q6⟩ => ?_)
    refine wpAny_passesOwn hp (thn (hb _ s6 σ6 H6 _ I6 q6) fun f s7 q7 => ?_)
    have again : ∀ {σ7 : St} {H7 : Hp}, Inv X (pins ++ pinsAt fp s5.heap) σ7 H7 s7 → N σ7 H7 → ∃ m, m < n ∧ ∃ i σ' H', Inv X pins σ' H' s7 ∧ tn i s7.heap ∧ (∀ b ∈ fp, H' b = none) ∧ W i m σ' H' := fun {σ7 H7} I7 n7 => by
      obtain ⟨m', hm, w7⟩ := hN σ7 H7 n7
      refine ⟨m', hm, i + 1, σ7, H7, I7.unpinned, T.keep _ _ _ st5 fun b hb o e => (I7.pin (b, o) (List.mem_append_right _ (List.mem_append_right _ (mem_pinsAt hb e)))).1, fun b hb => ?_, w7⟩
      obtain ⟨o, e, d⟩ := T.obj _ _ st5 b hb
      exact (I7.pin (b, o) (List.mem_append_right _ (List.mem_append_right _ (mem_pinsAt hb e)))).2.1
    cases f with
    | next => obtain ⟨σ7, H7, I7, n7⟩ := q7; exact again I7 n7
    | cont => obtain ⟨σ7, H7, I7, n7⟩ := q7; exact again I7 n7
    | brk => obtain ⟨σ7, H7, I7, q7⟩ := q7; exact ⟨σ7, H7, I7.unpinned, q7⟩
    | ret v => obtain ⟨x7, σ7, H7, I7, r7, q7⟩ := q7; exact ⟨x7, σ7, H7, I7.unpinned, r7, q7⟩
end

theorem for_list {K : PySem.W.Frag} {a : Addr} {xs : List V} {g : TG} {tb : TS} {D : Ends} {σ : St} {H : Hp} (Pv : Nat → St → Hp → Prop) (h0 : Pv 0 σ H) (hl : ∀ i σ H, i ≤ xs.length → Pv i σ H → SqL K H a xs)
    (hs : ∀ i x σ H, xs[i]? = some x → Pv i σ H → g x σ H fun σ2 H2 => tb { D with nx := Pv (i + 1), ct := Pv (i + 1), bk := D.nx } σ2 H2) (hd : ∀ σ H, Pv xs.length σ H → D.nx σ H) :
    ∃ W : Nat → Nat → St → Hp → Prop, (∃ m, W 0 m σ H) ∧ ∀ i m σ H, W i m σ H →
      ((Itl K a).stop i H ∧ D.nx σ H) ∨ ((Itl K a).go i H ∧ ∃ N : St → Hp → Prop, (∀ σ' H', N σ' H' → ∃ m', m' < m ∧ W (i + 1) m' σ' H') ∧ ∀ x H', (Itl K a).yld i H x H' → g x σ H' fun σ2 H2 => tb { D with nx := N, ct := N, bk := D.nx } σ2 H2) := by
  refine ⟨fun i m σ H => m = xs.length - i ∧ i ≤ xs.length ∧ Pv i σ H, ⟨xs.length, by simp, Nat.zero_le _, h0⟩, ?_⟩
  rintro i m σ H ⟨rfl, hi, p⟩
  have q := hl i σ H hi p
  by_cases hlt : i < xs.length
  · refine .inr ⟨⟨xs, xs[i], q, by simp [hlt]⟩, Pv (i + 1), fun σ' H' p' => ⟨xs.length - (i + 1), by omega, rfl, hlt, p'⟩, fun x H' y => ?_⟩
    obtain ⟨e, y⟩ := y
    subst e
    exact hs i x σ _ (y xs q) p
  · have e : i = xs.length := by omega
    subst e
    exact .inl ⟨⟨xs, q, Nat.le_refl _⟩, hd σ H p⟩
theorem for_range {lo : Int} {n : Nat} {g : TG} {tb : TS} {D : Ends} {σ : St} {H : Hp} (Pv : Nat → St → Hp → Prop) (h0 : Pv 0 σ H)
    (hs : ∀ i σ H, i < n → Pv i σ H → g (.int (lo + i)) σ H fun σ2 H2 => tb { D with nx := Pv (i + 1), ct := Pv (i + 1), bk := D.nx } σ2 H2) (hd : ∀ σ H, Pv n σ H → D.nx σ H) :
    ∃ W : Nat → Nat → St → Hp → Prop, (∃ m, W 0 m σ H) ∧ ∀ i m σ H, W i m σ H →
      ((Itr lo n).stop i H ∧ D.nx σ H) ∨ ((Itr lo n).go i H ∧ ∃ N : St → Hp → Prop, (∀ σ' H', N σ' H' → ∃ m', m' < m ∧ W (i + 1) m' σ' H') ∧ ∀ x H', (Itr lo n).yld i H x H' → g x σ H' fun σ2 H2 => tb { D with nx := N, ct := N, bk := D.nx } σ2 H2) := by
  refine ⟨fun i m σ H => m = n - i ∧ i ≤ n ∧ Pv i σ H, ⟨n, by simp, Nat.zero_le _, h0⟩, ?_⟩
  rintro i m σ H ⟨rfl, hi, p⟩
  by_cases hlt : i < n
  · refine .inr ⟨hlt, Pv (i + 1), fun σ' H' p' => ⟨n - (i + 1), by omega, rfl, hlt, p'⟩, fun x H' y => ?_⟩
    obtain ⟨e, y⟩ := y
    subst e y
    exact hs i σ _ hlt p
  · have e : i = n := by omega
    subst e
    exact .inl ⟨Nat.le_refl _, hd σ H p⟩
end L2

namespace L2
open PySem PySem.Spec PyProof.Rows

noncomputable abbrev R2 := V → V → Hp → VK → Prop
noncomputable def OpR (X : Cx) (f : Value → Value → Sem Value) (r : R2) : Prop :=
  ∀ (pins : List (Addr × Obj)) (s : Shared) (σ : St) (H : Hp) (x y : V) (v u : Value) (Q : VK), Inv X pins σ H s → RelV x v → RelV y u → r x y H Q →
    wpAny (model X.prog X.w) X.A (f v u) (EP X pins σ Q) X.xe s
noncomputable def UnR (X : Cx) (f : Value → Sem Value) (r : V → Hp → VK → Prop) : Prop :=
  ∀ (pins : List (Addr × Obj)) (s : Shared) (σ : St) (H : Hp) (x : V) (v : Value) (Q : VK), Inv X pins σ H s → RelV x v → r x H Q →
    wpAny (model X.prog X.w) X.A (f v) (EP X pins σ Q) X.xe s
noncomputable def CallR (X : Cx) (f : Value) (r : List V → Hp → VK → Prop) : Prop :=
  ∀ (pins : List (Addr × Obj)) (s : Shared) (σ : St) (H : Hp) (xs : List V) (us : List Value) (Q : VK), Inv X pins σ H s → Vals xs us → r xs H Q →
    wpAny (model X.prog X.w) X.A (call f us) (EP X pins σ Q) X.xe s
noncomputable def tOp (r : R2) (ta tb : TE) : TE := fun σ H Q => ta σ H fun x H1 => tb σ H1 fun y H2 => r x y H2 Q
noncomputable def tUn (r : V → Hp → VK → Prop) (ta : TE) : TE := fun σ H Q => ta σ H fun x H1 => r x H1 Q
noncomputable def rI (C : Int → Int → Prop) (g : Int → Int → V) : R2 := fun x y H Q => ∃ i j, x = .int i ∧ y = .int j ∧ C i j ∧ Q (g i j) H
noncomputable def rI0 (g : Int → Int → V) : R2 := fun x y H Q => ∃ i j, x = .int i ∧ y = .int j ∧ Q (g i j) H
noncomputable def rU (g : Int → V) : V → Hp → VK → Prop := fun x H Q => ∃ i, x = .int i ∧ Q (g i) H

section
variable {X : Cx} {a b c : Expr} {ta tb tc : TE} {pos : Pos}

theorem binT (ha : PE X a ta) (hb : PE X b tb) {pins : List (Addr × Obj)} {s : Shared} {σ : St} {H : Hp} {R : V → V → Hp → Prop} (I : Inv X pins σ H s)
    (h : ta σ H fun x H1 => tb σ H1 fun y H2 => R x y H2) {Q : Value → Shared → Prop} {f : Value → Value → Sem Value}
    (hf : ∀ v u s2 x y H2, Inv X pins σ H2 s2 → RelV x v → RelV y u → R x y H2 → wpAny (model X.prog X.w) X.A (f v u) Q X.xe s2) :
    wpAny (model X.prog X.w) X.A (eval a X.env) (fun v s₁ => wpAny (model X.prog X.w) X.A (eval b X.env) (fun u s₂ => wpAny (model X.prog X.w) X.A (f v u) Q X.xe s₂) X.xe s₁) X.xe s := by
  refine thn (ha pins s σ H _ I h) fun v s1 ⟨x, H1, I1, r1, q1⟩ => ?_
  refine thn (hb pins s1 σ H1 _ I1 q1) fun u s2 ⟨y, H2, I2, r2, q2⟩ => ?_
  exact hf v u s2 x y H2 I2 r1 r2 q2

theorem pe_op {op : Operator} {r : R2} (ho : OpR X (binaryOp op) r) (ha : PE X a ta) (hb : PE X b tb) : PE X (.BinOp a op b pos) (tOp r ta tb) := by
  intro pins s σ H Q I h
  exact wpAny_BinOp (binT ha hb I h fun v u s2 x y H2 I2 rx ry q => ho pins s2 σ H2 x y v u Q I2 rx ry q)
theorem pe_un {op : UnaryOp} {r : V → Hp → VK → Prop} (ho : UnR X (unaryOp op) r) (ha : PE X a ta) : PE X (.UnaryOp op a pos) (tUn r ta) := by
  intro pins s σ H Q I h
  exact UnaryOp_ (thn (ha pins s σ H _ I h) fun v s1 ⟨x, H1, I1, r1, q1⟩ => ho pins s1 σ H1 x v Q I1 r1 q1)
theorem opI {f : Value → Value → Sem Value} {C : Int → Int → Prop} {g : Int → Int → Int}
    (rule : ∀ (i j : Int) (t u : Tok) (s : Shared) (Q : Value → Shared → Prop) (E : Value → Shared → Prop), C i j → Q (.int (g i j) s.toks) { s with toks := s.toks + 1 } → wpAny (model X.prog X.w) X.A (f (.int i t) (.int j u)) Q E s) :
    OpR X f (rI C fun i j => .int (g i j)) := by
  intro pins s σ H x y v u Q I rx ry h
  obtain ⟨i, j, rfl, rfl, hc, q⟩ := h
  obtain ⟨t, rfl⟩ := rx
  obtain ⟨t', rfl⟩ := ry
  exact rule i j t t' s _ _ hc ⟨.int (g i j), H, I.tok _, ⟨_, rfl⟩, q⟩
theorem opI0 {f : Value → Value → Sem Value} {g : Int → Int → Int}
    (rule : ∀ (i j : Int) (t u : Tok) (s : Shared) (Q : Value → Shared → Prop) (E : Value → Shared → Prop), Q (.int (g i j) s.toks) { s with toks := s.toks + 1 } → wpAny (model X.prog X.w) X.A (f (.int i t) (.int j u)) Q E s) :
    OpR X f (rI0 fun i j => .int (g i j)) := by
  intro pins s σ H x y v u Q I rx ry h
  obtain ⟨i, j, rfl, rfl, q⟩ := h
  obtain ⟨t, rfl⟩ := rx
  obtain ⟨t', rfl⟩ := ry
  exact rule i j t t' s _ _ ⟨.int (g i j), H, I.tok _, ⟨_, rfl⟩, q⟩
theorem opB0 {f : Value → Value → Sem Value} {g : Int → Int → Bool}
    (rule : ∀ (i j : Int) (t u : Tok) (s : Shared) (Q : Value → Shared → Prop) (E : Value → Shared → Prop), Q (.bool (g i j)) s → wpAny (model X.prog X.w) X.A (f (.int i t) (.int j u)) Q E s) :
    OpR X f (rI0 fun i j => .bl (g i j)) := by
  intro pins s σ H x y v u Q I rx ry h
  obtain ⟨i, j, rfl, rfl, q⟩ := h
  obtain ⟨t, rfl⟩ := rx
  obtain ⟨t', rfl⟩ := ry
  exact rule i j t t' s _ _ ⟨.bl (g i j), H, I, rfl, q⟩

noncomputable def CDiv (i j : Int) : Prop := 0 < j ∧ j < 1073741824
noncomputable def CPow (i j : Int) : Prop := 0 ≤ j ∧ j ≤ 1000000 ∧ i.natAbs < 2 ^ 64
noncomputable def CMul (i j : Int) : Prop := (-(2 ^ 64) < i ∧ i < 2 ^ 64) ∨ (-(2 ^ 64) < j ∧ j < 2 ^ 64)
theorem CMul.ok {i j : Int} (h : CMul i j) : IntMulOk i j := by
  rcases h with ⟨h1, h2⟩ | ⟨h1, h2⟩
  · exact .of_left (intBits_le_64 h1 h2)
  · exact .of_right (intBits_le_64 h1 h2)
theorem op_add : OpR X (binaryOp .Add) (rI0 fun i j => .int (i + j)) := opI0 fun _ _ _ _ _ _ _ q => add_int q
theorem op_sub : OpR X (binaryOp .Sub) (rI0 fun i j => .int (i - j)) := opI0 fun _ _ _ _ _ _ _ q => sub_int q
theorem op_mul : OpR X (binaryOp .Mult) (rI CMul fun i j => .int (i * j)) := opI fun _ _ _ _ _ _ _ hc q => mul_int q hc.ok
theorem op_fdiv : OpR X (binaryOp .FloorDiv) (rI CDiv fun i j => .int (i / j)) := opI fun i j _ _ _ _ _ hc q => by
  have h1 : (0 : Int) < j := hc.1
  have h2 : j < 1073741824 := hc.2
  exact floordiv_int (by omega) (by rw [Int.fdiv_eq_ediv_of_nonneg i (by omega)]; exact q) (.inl (PyProof.noPylong_small (by omega)))
theorem op_mod : OpR X (binaryOp .Mod) (rI (fun _ j => 0 < j) fun i j => .int (i % j)) := opI fun i j _ _ _ _ _ hc q => by
  have h1 : (0 : Int) < j := hc
  exact mod_int' (by omega) (by rw [Int.fmod_eq_emod_of_nonneg i (by omega)]; exact q)
theorem op_pow : OpR X (binaryOp .Pow) (rI CPow fun i j => .int (i ^ j.toNat)) := opI fun _ _ _ _ _ _ _ hc q => pow_int_small hc.1 hc.2.1 hc.2.2 q
theorem unI {f : Value → Sem Value} {g : Int → Int}
    (rule : ∀ (i : Int) (t : Tok) (s : Shared) (Q : Value → Shared → Prop) (E : Value → Shared → Prop), Q (.int (g i) s.toks) { s with toks := s.toks + 1 } → wpAny (model X.prog X.w) X.A (f (.int i t)) Q E s) :
    UnR X f (rU fun i => .int (g i)) := by
  intro pins s σ H x v Q I rx h
  obtain ⟨i, rfl, q⟩ := h
  obtain ⟨t, rfl⟩ := rx
  exact rule i t s _ _ ⟨.int (g i), H, I.tok _, ⟨_, rfl⟩, q⟩
theorem un_neg : UnR X (unaryOp .USub) (rU fun i => .int (-i)) := unI fun _ _ _ _ _ q => neg_int q
end

noncomputable def scal : V → V → Bool
  | .non, .non => true | .non, .int _ => true | .int _, .non => true | .non, .bl _ => true | .bl _, .non => true | .non, .str _ => true | .str _, .non => true
  | .int _, .int _ => true | .bl _, .bl _ => true | .str _, .str _ => true | .byt _, .byt _ => true
  | .int _, .str _ => true | .str _, .int _ => true | .bl _, .str _ => true | .str _, .bl _ => true
  | _, _ => false
noncomputable def rEq : R2 := fun x y H Q => scal x y = true ∧ Q (.bl (decide (x = y))) H
noncomputable def rNe : R2 := fun x y H Q => scal x y = true ∧ Q (.bl (!decide (x = y))) H

theorem dec_int {i j : Int} : decide (V.int i = V.int j) = (i == j) := by
  rw [Bool.eq_iff_iff]
  simp
theorem dec_bl {i j : Bool} : decide (V.bl i = V.bl j) = (i == j) := by
  rw [Bool.eq_iff_iff]
  simp
theorem dec_str {i j : Str} : decide (V.str i = V.str j) = (i == j) := by
  rw [Bool.eq_iff_iff]
  simp
theorem dec_byt {i j : Array UInt8} : decide (V.byt i = V.byt j) = (i.toList == j.toList) := by
  rw [Bool.eq_iff_iff]
  cases i
  cases j
  simp

section
variable {X : Cx} {a b c : Expr} {ta tb tc : TE} {pos : Pos}
theorem fin_bl {pins : List (Addr × Obj)} {σ : St} {H : Hp} {s : Shared} {Q : VK} {k k' : Bool} (I : Inv X pins σ H s) (q : Q (.bl k) H) (e : k = k') : EP X pins σ Q (.bool k') s := by
  subst e
  exact ⟨.bl k, H, I, rfl, q⟩
theorem op_eq : OpR X (compareOp .Eq) rEq := by
  intro pins s σ H x y v u Q I rx ry h
  obtain ⟨hs, q⟩ := h
  cases x with
  | non =>
    cases rx
    cases y with
    | non => cases ry; exact PySem.EqNone.eq_none_none (fin_bl I q (by simp))
    | bl j => cases ry; exact PySem.EqNone.eq_none_bool (fin_bl I q (by simp))
    | int j => obtain ⟨t', rfl⟩ := ry; exact PySem.EqNone.eq_none_int (fin_bl I q (by simp))
    | str j => obtain ⟨t', rfl⟩ := ry; exact PySem.EqNone.eq_none_str (fin_bl I q (by simp))
    | _ => exact absurd (show false = true from hs) Bool.false_ne_true
  | bl i =>
    cases rx
    cases y with
    | non => cases ry; exact PySem.EqNone.eq_bool_none (fin_bl I q (by simp))
    | bl j => cases ry; exact eq_bool (fin_bl I q dec_bl)
    | str j => obtain ⟨t', rfl⟩ := ry; exact PySem.EqMixed.eq_bool_str (fin_bl I q (by simp))
    | _ => exact absurd (show false = true from hs) Bool.false_ne_true
  | int i =>
    obtain ⟨t, rfl⟩ := rx
    cases y with
    | non => cases ry; exact PySem.EqNone.eq_int_none (fin_bl I q (by simp))
    | int j => obtain ⟨t', rfl⟩ := ry; exact eq_int (fin_bl I q dec_int)
    | str j => obtain ⟨t', rfl⟩ := ry; exact PySem.EqMixed.eq_int_str (fin_bl I q (by simp))
    | _ => exact absurd (show false = true from hs) Bool.false_ne_true
  | str i =>
    obtain ⟨t, rfl⟩ := rx
    cases y with
    | non => cases ry; exact PySem.EqNone.eq_str_none (fin_bl I q (by simp))
    | bl j => cases ry; exact PySem.EqMixed.eq_str_bool (fin_bl I q (by simp))
    | int j => obtain ⟨t', rfl⟩ := ry; exact PySem.EqMixed.eq_str_int (fin_bl I q (by simp))
    | str j => obtain ⟨t', rfl⟩ := ry; exact eq_str (fin_bl I q dec_str)
    | _ => exact absurd (show false = true from hs) Bool.false_ne_true
  | byt i =>
    obtain ⟨t, rfl⟩ := rx
    cases y with
    | byt j => obtain ⟨t', rfl⟩ := ry; exact PySem.W.eq_bytes (fin_bl I q dec_byt)
    | _ => exact absurd (show false = true from hs) Bool.false_ne_true
  | _ => cases y <;> exact absurd (show false = true from hs) Bool.false_ne_true
theorem op_ne : OpR X (compareOp .NotEq) rNe := by
  intro pins s σ H x y v u Q I rx ry h
  obtain ⟨hs, q⟩ := h
  cases x with
  | non =>
    cases rx
    cases y with
    | non => cases ry; exact PySem.EqNone.ne_none_none (fin_bl I q (by simp))
    | bl j => cases ry; exact PySem.EqNone.ne_none_bool (fin_bl I q (by simp))
    | int j => obtain ⟨t', rfl⟩ := ry; exact PySem.EqNone.ne_none_int (fin_bl I q (by simp))
    | str j => obtain ⟨t', rfl⟩ := ry; exact PySem.EqNone.ne_none_str (fin_bl I q (by simp))
    | _ => exact absurd (show false = true from hs) Bool.false_ne_true
  | bl i =>
    cases rx
    cases y with
    | non => cases ry; exact PySem.EqNone.ne_bool_none (fin_bl I q (by simp))
    | bl j => cases ry; exact ne_bool (fin_bl I q (congrArg not dec_bl))
    | str j => obtain ⟨t', rfl⟩ := ry; exact PySem.EqMixed.ne_bool_str (fin_bl I q (by simp))
    | _ => exact absurd (show false = true from hs) Bool.false_ne_true
  | int i =>
    obtain ⟨t, rfl⟩ := rx
    cases y with
    | non => cases ry; exact PySem.EqNone.ne_int_none (fin_bl I q (by simp))
    | int j => obtain ⟨t', rfl⟩ := ry; exact ne_int (fin_bl I q (congrArg not dec_int))
    | str j => obtain ⟨t', rfl⟩ := ry; exact PySem.EqMixed.ne_int_str (fin_bl I q (by simp))
    | _ => exact absurd (show false = true from hs) Bool.false_ne_true
  | str i =>
    obtain ⟨t, rfl⟩ := rx
    cases y with
    | non => cases ry; exact PySem.EqNone.ne_str_none (fin_bl I q (by simp))
    | bl j => cases ry; exact PySem.EqMixed.ne_str_bool (fin_bl I q (by simp))
    | int j => obtain ⟨t', rfl⟩ := ry; exact PySem.EqMixed.ne_str_int (fin_bl I q (by simp))
    | str j => obtain ⟨t', rfl⟩ := ry; exact ne_str (fin_bl I q (congrArg not dec_str))
    | _ => exact absurd (show false = true from hs) Bool.false_ne_true
  | byt i =>
    obtain ⟨t, rfl⟩ := rx
    cases y with
    | byt j => obtain ⟨t', rfl⟩ := ry; exact PySem.W.ne_bytes (fin_bl I q (congrArg not dec_byt))
    | _ => exact absurd (show false = true from hs) Bool.false_ne_true
  | _ => cases y <;> exact absurd (show false = true from hs) Bool.false_ne_true

theorem op_lt : OpR X (compareOp .Lt) (rI0 fun i j => .bl (decide (i < j))) := opB0 fun _ _ _ _ _ _ _ q => lt_int q
theorem op_le : OpR X (compareOp .LtE) (rI0 fun i j => .bl (decide (i ≤ j))) := opB0 fun _ _ _ _ _ _ _ q => le_int q
theorem op_gt : OpR X (compareOp .Gt) (rI0 fun i j => .bl (decide (j < i))) := opB0 fun _ _ _ _ _ _ _ q => gt_int q
theorem op_ge : OpR X (compareOp .GtE) (rI0 fun i j => .bl (decide (j ≤ i))) := opB0 fun _ _ _ _ _ _ _ q => ge_int q
theorem op_isN : OpR X (compareOp .Is) (fun x y H Q => y = .non ∧ Q (.bl (decide (x = .non))) H) := by
  intro pins s σ H x y v u Q I rx ry h
  obtain ⟨rfl, q⟩ := h
  cases ry
  refine is_none_gen (fin_bl I q ?_)
  cases x <;> first
    | (cases rx; rfl)
    | (obtain ⟨t, rfl⟩ := rx; rfl)
theorem nomark (b : Expr) {op : CmpOp} (h : op ≠ .In := by decide) (h2 : op ≠ .NotIn := by decide) : behindInMarks op b = false := by
  have e1 : (op == CmpOp.In) = false := by cases op <;> first | rfl | exact absurd rfl h
  have e2 : (op == CmpOp.NotIn) = false := by cases op <;> first | rfl | exact absurd rfl h2
  cases b <;> simp [behindInMarks, e1, e2]
theorem pe_cmpR {op : CmpOp} {r : R2} (ho : OpR X (compareOp op) r) (ha : PE X a ta) (hb : PE X b tb) (hm : behindInMarks op b = false) : PE X (.Compare a [op] [b] pos) (tOp r ta tb) := by
  intro pins s σ H Q I h
  exact wpAny_Compare1 (binT ha hb I h fun v u s2 x y H2 I2 rx ry q => ho pins s2 σ H2 x y v u Q I2 rx ry q) hm
noncomputable def tTest (t : TE) : TT := fun σ H Q => t σ H fun x H' => ∃ k, x = .bl k ∧ Q k H'
theorem pt_cmpR {op : CmpOp} {r : R2} (ho : OpR X (compareOp op) r) (ha : PE X a ta) (hb : PE X b tb) (hm : behindInMarks op b = false) : PT X (.Compare a [op] [b] pos) (tTest (tOp r ta tb)) := by
  intro pins s σ H Q I h
  refine wpAny_isTrue_Compare1 (thn (ha pins s σ H _ I h) fun v s1 ⟨x, H1, I1, r1, q1⟩ => thn (hb pins s1 σ H1 _ I1 q1) fun u s2 ⟨y, H2, I2, r2, q2⟩ =>
    thn (ho pins s2 σ H2 x y v u _ I2 r1 r2 q2) fun c s3 ⟨z, H3, I3, r3, k, e, q3⟩ => ?_) hm
  subst e
  cases r3
  exact wpAny_truthy_bool ⟨H3, I3, q3⟩
noncomputable def tChain (r r' : R2) (ta tb tc : TE) : TE := fun σ H Q => ta σ H fun x H1 => tb σ H1 fun y H2 => r x y H2 fun z H3 => ∃ k, z = .bl k ∧
  (if k = true then tc σ H3 fun w' H4 => r' y w' H4 Q else Q (.bl false) H3)
theorem pe_chain {op op' : CmpOp} {r r' : R2} (ho : OpR X (compareOp op) r) (ho' : OpR X (compareOp op') r') (ha : PE X a ta) (hb : PE X b tb) (hc : PE X c tc)
    (hm : lastMarks [op, op'] [b, c] = false := by with_unfolding_all rfl) : PE X (.Compare a [op, op'] [b, c] pos) (tChain r r' ta tb tc) := by
  intro pins s σ H Q I h
  refine Compare_chain (thn (ha pins s σ H _ I h) fun v s1 ⟨x, H1, I1, r1, q1⟩ => chain_link (thn (hb pins s1 σ H1 _ I1 q1) fun u s2 ⟨y, H2, I2, r2, q2⟩ =>
    thn (ho pins s2 σ H2 x y v u _ I2 r1 r2 q2) fun d s3 ⟨z, H3, I3, r3, k, e, q3⟩ => ?_)) hm
  subst e
  cases r3
  refine wpAny_truthy_bool ?_
  cases k with
  | false => exact ite_ff ⟨.bl false, H3, I3, rfl, q3⟩
  | true => exact ite_tt (chain_last (thn (hc pins s3 σ H3 _ I3 q3) fun w' s4 ⟨z', H4, I4, r4, q4⟩ => ho' pins s4 σ H4 y z' u w' Q I4 r2 r4 q4))
theorem pt_chain {op op' : CmpOp} {r r' : R2} (ho : OpR X (compareOp op) r) (ho' : OpR X (compareOp op') r') (ha : PE X a ta) (hb : PE X b tb) (hc : PE X c tc)
    (hm : lastMarks [op, op'] [b, c] = false := by with_unfolding_all rfl) : PT X (.Compare a [op, op'] [b, c] pos) (tTest (tChain r r' ta tb tc)) := by
  intro pins s σ H Q I h
  refine isTrue_chain (thn (ha pins s σ H _ I h) fun v s1 ⟨x, H1, I1, r1, q1⟩ => test_link (thn (hb pins s1 σ H1 _ I1 q1) fun u s2 ⟨y, H2, I2, r2, q2⟩ =>
    thn (ho pins s2 σ H2 x y v u _ I2 r1 r2 q2) fun d s3 ⟨z, H3, I3, r3, k, e, q3⟩ => ?_)) hm
  subst e
  cases r3
  refine wpAny_truthy_bool ?_
  cases k with
  | false =>
    obtain ⟨k', e', q'⟩ := q3
    cases e'
    exact ite_ff ⟨H3, I3, q'⟩
  | true =>
    refine ite_tt (test_last (thn (hc pins s3 σ H3 _ I3 q3) fun w' s4 ⟨z', H4, I4, r4, q4⟩ => thn (ho' pins s4 σ H4 y z' u w' _ I4 r2 r4 q4) fun d' s5 ⟨z2, H5, I5, r5, k2, e2, q5⟩ => ?_))
    subst e2
    cases r5
    exact wpAny_truthy_bool ⟨H5, I5, q5⟩

theorem line63 : (sizeLine : Nat) < 2 ^ 63 := by rw [sizeLine_eq]; decide
theorem vals1 {x : V} {us : List Value} (r : Vals [x] us) : ∃ u, us = [u] ∧ RelV x u := by
  cases r with
  | cons r1 r2 => cases r2; exact ⟨_, rfl, r1⟩
theorem vals2 {x y : V} {us : List Value} (r : Vals [x, y] us) : ∃ u w', us = [u, w'] ∧ RelV x u ∧ RelV y w' := by
  cases r with
  | cons r1 r2 =>
    cases r2 with
    | cons r3 r4 => cases r4; exact ⟨_, _, rfl, r1, r3⟩
theorem call_max2 (hc : X.calm = true) : CallR X (.builtin "max") (fun xs H Q => ∃ i j, xs = [.int i, .int j] ∧ Q (.int (if j > i then j else i)) H) := by
  intro pins s σ H xs us Q I r h
  obtain ⟨i, j, rfl, q⟩ := h
  obtain ⟨u, w', rfl, ⟨t, rfl⟩, ⟨t', rfl⟩⟩ := vals2 r
  refine max_two_ints (I.ok.hd hc) fun h' tk k => ⟨_, H, I.kept k, ?_, q⟩
  by_cases hj : j > i
  · rw [if_pos hj, if_pos hj]; exact ⟨_, rfl⟩
  · rw [if_neg hj, if_neg hj]; exact ⟨_, rfl⟩
theorem call_min2 (hc : X.calm = true) : CallR X (.builtin "min") (fun xs H Q => ∃ i j, xs = [.int i, .int j] ∧ Q (.int (if j < i then j else i)) H) := by
  intro pins s σ H xs us Q I r h
  obtain ⟨i, j, rfl, q⟩ := h
  obtain ⟨u, w', rfl, ⟨t, rfl⟩, ⟨t', rfl⟩⟩ := vals2 r
  refine min_two_ints (I.ok.hd hc) fun h' tk k => ⟨_, H, I.kept k, ?_, q⟩
  by_cases hj : j < i
  · rw [if_pos hj, if_pos hj]; exact ⟨_, rfl⟩
  · rw [if_neg hj, if_neg hj]; exact ⟨_, rfl⟩
theorem call_int1 : CallR X (.type "int") (fun xs H Q => (∃ i, xs = [.int i] ∧ Q (.int i) H) ∨ ∃ k, xs = [.bl k] ∧ Q (.int (if k then 1 else 0)) H) := by
  intro pins s σ H xs us Q I r h
  rcases h with ⟨i, rfl, q⟩ | ⟨k, rfl, q⟩
  · obtain ⟨u, rfl, t, rfl⟩ := vals1 r
    exact call_int_int ⟨.int i, H, I, ⟨_, rfl⟩, q⟩
  · obtain ⟨u, rfl, r1⟩ := vals1 r
    cases r1
    exact call_int_bool ⟨.int (if k then 1 else 0), H, I.tok _, ⟨_, rfl⟩, q⟩
end
end L2

namespace L2
open PySem PySem.Spec PyProof.Rows

structure ObjM (h : Heap) (x dx C : Addr) (mA : Str → Option Value) : Prop where
  obj : h.get? x = some (PySem.W.instObj C dx)
  ns : h.Ns1 dx mA
  ne : dx ≠ x

theorem lookIn_ns {h : Heap} {dx : Addr} {mA : Str → Option Value} (n : h.Ns1 dx mA) : ∃ od, h.get? dx = some od ∧ ∀ name, PySem.W.lookIn name od = some (mA name) := by
  obtain ⟨o, es, ep, ho, hd, hk, _, hm⟩ := n
  refine ⟨o, ho, fun name => ?_⟩
  have e := hm name
  unfold nsFind findBy at e
  rw [← Array.find?_toList] at e
  unfold PySem.W.lookIn
  rw [hd]
  dsimp only
  split
  · rename_i y q
    rw [q] at e
    exact congrArg some e
  · rename_i q
    rw [q] at e
    have a : es.toList.any (·.refKey) = false := by
      rw [List.any_eq_false]
      intro y hy
      obtain ⟨z, t, hkey⟩ := hk y (Array.mem_toList_iff.mp hy)
      simp [DictEntry.refKey, hkey]
    have a' : ¬ es.toList.any (·.refKey) = true := by rw [a]; exact Bool.false_ne_true
    rw [if_neg a']
    exact congrArg some e

theorem ObjM.look {h : Heap} {x dx C : Addr} {mA : Str → Option Value} (I : ObjM h x dx C mA) : ∃ od, PySem.W.InstAt h x (PySem.W.instObj C dx) C (some od) ∧ ∀ name, PySem.W.lookIn name od = some (mA name) :=
  let ⟨od, ho, hl⟩ := lookIn_ns I.ns
  ⟨od, ⟨I.obj, rfl, rfl, ho⟩, hl⟩

section
variable {prog : Program} {w : World} {A : Around} {E : Value → Shared → Prop} {s : Shared} {K : PySem.W.Frag} {x dx C f : Addr} {mA : Str → Option Value} {name : Str} {v : Value}

end

section
variable {P : Program} {w : World} {H H' : Hp} {h h' : Heap} {a C dx : Addr} {fs fs' : List (Str × V)}
theorem ins_get (hok : HOk P w H h) (e : H a = some (.ins C dx fs)) : ∃ mA, ObjM h a dx C mA ∧ (∀ f, RelO (fs.lookup f) (mA f)) ∧ PySem.Within mA (fs.map (·.1)) ∧ fs.length ≤ 1000 ∧ H dx = some (.own a) := by
  obtain ⟨d, z, ne, ob, mA, n, r, q⟩ := (show ObjOk P w H h a (.ins C dx fs) from hok a _ e)
  exact ⟨mA, ⟨ob, n, ne⟩, r, q, z, d⟩
end

structure Cls (K : PySem.W.Frag) (C : Addr) : Prop where
  pg : PySem.W.plainGet K C Str.empty = true
  hd : PySem.W.hasDictIn K C = true
  po : PySem.W.plainOver K C = true
  sa : PySem.W.findIn K (.ref C) "__setattr__" = some (some (.builtin "object.__setattr__"))
theorem Cls.get {K : PySem.W.Frag} {C : Addr} (c : Cls K C) (f : Str) : PySem.W.plainGet K C f = true := c.pg
section
variable {X : Cx} {pins : List (Addr × Obj)} {σ : St} {H : Hp} {s : Shared} {a C dx : Addr} {fs : List (Str × V)} {f : Str} {v : V} {A : Around} {E : Value → Shared → Prop}

end

section
variable {X : Cx} {o e value : Expr} {f : Str} {pos pos' tpos : Pos} {ta tv : TE}
end

section
variable {X : Cx} {pins : List (Addr × Obj)} {σ : St} {H : Hp} {s : Shared} {A : Around} {E : Value → Shared → Prop} {Q : Value → Shared → Prop} {c : Value} {b : Bool}
inductive TyOf (K : PySem.W.Frag) (H : Hp) : V → Value → Prop where
  | non : TyOf K H .non (.type "NoneType")
  | bl (x : Bool) : TyOf K H (.bl x) (.type "bool")
  | int (i : Int) : TyOf K H (.int i) (.type "int")
  | str (x : Str) : TyOf K H (.str x) (.type "str")
  | flt (x : UInt64) : TyOf K H (.flt x) (.type "float")
  | lst {a : Addr} {xs : List V} (e : H a = some (.lst xs)) : TyOf K H (.ref a) (.type "list")
  | frz {a : Addr} {o : Obj} {xs : List V} (e : H a = some (.frz o (.lst xs))) : TyOf K H (.ref a) (.type "list")
  | tup {a : Addr} {xs : List V} (e : H a = some (.tup xs)) : TyOf K H (.ref a) (.type "tuple")
  | dK {a : Addr} {kvs : List (Key × V)} (e : H a = some (.dK kvs)) : TyOf K H (.ref a) (.type "dict")
  | dT {a : Addr} {kvs : List (List Key × V)} (e : H a = some (.dT kvs)) : TyOf K H (.ref a) (.type "dict")
  | ins {a C dx : Addr} {fs : List (Str × V)} (e : H a = some (.ins C dx fs)) (cl : Cls K C) (ha : PySem.W.findIn K (.ref C) "__class__" = some (some (.builtin "object.__class__")))
      (hn : PySem.W.specialIn K (.builtin "object.__class__") "__get__" = some (some (.builtin "getset_descriptor.__get__"))) (htk : PySem.W.takesIn K (.builtin "object.__class__") = some true)
      (hm : PySem.W.mroIn K C (.type "object") = some true) : TyOf K H (.ref a) (.ref C)
theorem isinst_ok {x : V} {u t : Value} (I : Inv X pins σ H s) (rx : RelV x u) (ty : TyOf X.K H x t) (e : PySem.W.kitOne X.K t c = some b) (h : ∀ tk, Q (.bool b) { s with toks := tk }) :
    wpAny (model X.prog X.w) A (call (.builtin "isinstance") [u, c]) Q E s := by
  cases ty with
  | non => cases (show u = Value.none from rx); exact PySem.W.kia_one PySem.W.kitx_none I.kIn True.intro e (fun z => nomatch z) h
  | bl y => cases (show u = Value.bool y from rx); exact PySem.W.kia_one PySem.W.kitx_bool I.kIn True.intro e (fun z => nomatch z) h
  | int i => obtain ⟨t, q⟩ := (show ∃ t, u = Value.int i t from rx); cases q; exact PySem.W.kia_one PySem.W.kitx_int I.kIn True.intro e (fun z => nomatch z) h
  | str y => obtain ⟨t, q⟩ := (show ∃ t, u = Value.str y t from rx); cases q; exact PySem.W.kia_one PySem.W.kitx_str I.kIn True.intro e (fun z => nomatch z) h
  | flt y => obtain ⟨t, q⟩ := (show ∃ t, u = Value.float y t from rx); cases q; exact PySem.W.kia_one PySem.W.kitx_float I.kIn True.intro e (fun z => nomatch z) h
  | @lst a xs ea =>
    cases (show u = Value.ref a from rx)
    obtain ⟨_, _, n, _, h1⟩ := (show ObjOk X.prog X.w H s.heap a (.lst xs) from I.hok a _ ea)
    exact PySem.W.kia_one PySem.W.kitx_list I.kIn ⟨_, h1, rfl⟩ e (fun z => nomatch z) h
  | @frz a ob xs ea =>
    cases (show u = Value.ref a from rx)
    obtain ⟨_, _, _, n, _, h1⟩ := (show ObjOk X.prog X.w H s.heap a (.frz ob (.lst xs)) from I.hok a _ ea)
    exact PySem.W.kia_one PySem.W.kitx_list I.kIn ⟨_, h1, rfl⟩ e (fun z => nomatch z) h
  | @tup a xs ea =>
    cases (show u = Value.ref a from rx)
    obtain ⟨_, _, _, p⟩ := (show ObjOk X.prog X.w H s.heap a (.tup xs) from I.hok a _ ea)
    obtain ⟨o, h1, h2, _⟩ := p
    exact PySem.W.kia_one PySem.W.kitx_tuple I.kIn ⟨o, h1, h2⟩ e (fun z => nomatch z) h
  | @dK a kvs ea =>
    cases (show u = Value.ref a from rx)
    obtain ⟨_, _, vs, _, p⟩ := (show ObjOk X.prog X.w H s.heap a (.dK kvs) from I.hok a _ ea)
    obtain ⟨o, es, ep, h1, h2, _⟩ := p
    exact PySem.W.kia_one PySem.W.kitx_dict I.kIn ⟨o, h1, h2.1⟩ e (fun z => nomatch z) h
  | @dT a kvs ea =>
    cases (show u = Value.ref a from rx)
    obtain ⟨_, _, xs, _, o, es, ep, h1, h2, _⟩ := (show ObjOk X.prog X.w H s.heap a (.dT kvs) from I.hok a _ ea)
    exact PySem.W.kia_one PySem.W.kitx_dict I.kIn ⟨o, h1, h2.1⟩ e (fun z => nomatch z) h
  | @ins a C dx fs ea cl ha hn htk hm =>
    cases (show u = Value.ref a from rx)
    obtain ⟨mA, O, _⟩ := ins_get I.hok ea
    obtain ⟨od, J, _⟩ := O.look
    exact PySem.W.kia_one (PySem.W.kitx_own (cl.get _) cl.hd ha hn htk hm) I.kIn J e (fun z => nomatch z) h
end
end L2

namespace L2
open PySem PySem.Spec PyProof.Rows

structure Room (k : Nat) (A : Around) : Prop where
  hd : A.handled = none
  dp : A.depth + 3 * k + 5 < recursionLimit
  un : A.units + 16 * k + 200 < cLine
  gd : A.guards = some []
theorem Room.mono {j k : Nat} {A : Around} (r : Room k A) (h : j ≤ k) : Room j A := ⟨r.hd, by have := r.dp; omega, by have := r.un; omega, r.gd⟩
theorem Room.deeper {k : Nat} {A : Around} (r : Room (k + 1) A) (env : Env) : Room k (A.deeper env) :=
  ⟨r.hd, by have := r.dp; show A.depth + 1 + 3 * k + 5 < _; omega, by have := r.un; show A.units + 3 + 16 * k + 200 < _; omega, r.gd⟩
theorem Room.depth {k : Nat} {A : Around} (r : Room k A) : A.depth < recursionLimit := by have := r.dp; omega
theorem Room.units {k : Nat} {A : Around} (r : Room k A) : A.units + 64 < cLine := by have := r.un; omega
noncomputable def tNil : TA := fun _ H Q => Q [] H
noncomputable def tCons (ta : TE) (tr : TA) : TA := fun σ H Q => ta σ H fun x H1 => tr σ H1 fun xs H2 => Q (x :: xs) H2
section
variable {X : Cx} {e : Expr} {es : List Expr} {te : TE} {t : TA} {pos : Pos}
theorem pa_nil : PA X [] tNil := fun _ _ _ _ H Q I h => Calls.spliced_nil ⟨[], H, I, .nil, h⟩
theorem pa_cons (ha : PE X e te) (hr : PA X es t) (hs : starEach (e :: es) X.env = (false, eval e X.env) :: starEach es X.env := by rfl) : PA X (e :: es) (tCons te t) := by
  intro pos pins s σ H Q I h
  rw [hs]
  show wpAny _ _ (spliced ((false, eval e X.env) :: backTo pos (starEach es X.env))) _ _ s
  refine Calls.spliced_cons (thn (ha pins s σ H _ I h) fun u s1 ⟨x, H1, I1, r1, q1⟩ => ?_)
  exact thn (hr pos pins s1 σ H1 _ I1 q1) fun us s2 ⟨xs, H2, I2, r2, q2⟩ => ⟨x :: xs, H2, I2, .cons r1 r2, q2⟩

noncomputable def tTup (t : TA) : TE := fun σ H Q => t σ H fun xs H1 => xs.length ≤ sizeLine ∧ ∀ p, H1 p = none → Q (.ref p) (upd H1 p (.tup xs))
noncomputable def tLst (t : TA) : TE := fun σ H Q => t σ H fun xs H1 => xs.length ≤ sizeLine ∧ ∀ p, H1 p = none → Q (.ref p) (upd H1 p (.lst xs))
theorem pe_tup {x1} (h : PA X es t) : PE X (.Tuple es x1 pos) (tTup t) := by
  intro pins s σ H Q I hq
  refine wpAny_Tuple_spliced (thn (h pos pins s σ H _ I hq) fun us s1 ⟨xs, H1, I1, r, z, q⟩ => ⟨by rw [← r.length]; exact z, ?_⟩)
  have hf : H1 s1.heap.objs.size = none := I1.hok.fresh (Nat.le_refl _)
  refine ⟨.ref s1.heap.objs.size, upd H1 s1.heap.objs.size (.tup xs), I1.laid (t' := s1.toks) (fun b u e => Heap.get?_push_of_some _ e) (Nat.le_refl _) ?_, rfl, q _ hf⟩
  exact ⟨z, us, r, ⟨_, Heap.get?_push_size _ rfl, rfl, _, rfl⟩⟩
theorem pe_lst (h : PA X es t) : PE X (.List es pos) (tLst t) := by
  intro pins s σ H Q I hq
  refine wpAny_List_spliced (thn (h pos pins s σ H _ I hq) fun us s1 ⟨xs, H1, I1, r, z, q⟩ => ⟨by rw [← r.length]; exact z, ?_⟩)
  have hf : H1 s1.heap.objs.size = none := I1.hok.fresh (Nat.le_refl _)
  refine ⟨.ref s1.heap.objs.size, upd H1 s1.heap.objs.size (.lst xs), I1.laid (t' := s1.toks) (fun b u e => Heap.get?_push_of_some _ e) (Nat.le_refl _) ?_, rfl, q _ hf⟩
  exact ⟨z, us, 0, r, Heap.get?_push_size _ rfl⟩
end

noncomputable abbrev Sp := List V → Hp → VK → XK → Prop
noncomputable abbrev CXT := List Env → Hp → Shared → XK → Value → Shared → Prop

structure Env0 (P : Program) (w : World) (K : PySem.W.Frag) (mg : Str → Option Value) (base : Heap) (A : Around) (outer : List Env) (s : Shared) (H : Hp) : Prop where
  frames : A.frames = some outer
  mod : Mod K mg base
  bs : ∀ b o, base.get? b = some o → s.heap.get? b = some o ∧ H b = none
  bsz : base.objs.size ≤ s.heap.objs.size
  funs : s.heap.FunFrames base outer
  frf : ∀ b ∈ frs outer, H b = none
  hok : HOk P w H s.heap
  bare : AllBare s.gens
noncomputable def CE (outer : List Env) (P : Program) (w : World) (H : Hp) (s : Shared) (Q : VK) (u : Value) (s' : Shared) : Prop :=
  ∃ v H', s'.os = s.os ∧ AllBare s'.gens ∧ Un (frs outer) [] H H' s.heap s'.heap ∧ HOk P w H' s'.heap ∧ RelV v u ∧ Q v H'
noncomputable def CR (CX : CXT) (outer : List Env) (P : Program) (w : World) (H : Hp) (s : Shared) (Q : VK) (E : XK) (r : Result) (s' : Shared) : Prop :=
  match r with
  | .ok (.ret u) => CE outer P w H s Q u s'
  | .ok _ => False
  | .error e => CX outer H s E e s'
structure FnOk (P : Program) (w : World) (K : PySem.W.Frag) (mg : Str → Option Value) (base : Heap) (CX : CXT) (k : Nat) (f : Addr) (fd : FuncData) (ps : List Str) (sp : Sp) : Prop where
  len : ∀ vs H Q E, sp vs H Q E → vs.length = ps.length
  run : ∀ (A : Around) (outer : List Env) (s : Shared) (H : Hp) (args : Args) (us : List Value) (vs : List V) (Q : VK) (E : XK), Room k A → Env0 P w K mg base A outer s H → BindsTo s fd args (ps.zip us) → Vals vs us → sp vs H Q E →
    codeAny (model P w) A (.call (.ref f) args) (CR CX outer P w H s Q E) s
section
variable {X : Cx} {pins : List (Addr × Obj)} {σ : St} {H : Hp} {s s' : Shared}
theorem Inv.env0 (I : Inv X pins σ H s) : Env0 X.prog X.w X.K X.mg X.base X.A X.stack s H :=
  ⟨I.ok.frames, I.ok.mod, I.bs, Nat.le_trans I.ok.bsz I.sz, I.stack, I.stkFree, I.hok, I.bare⟩
theorem Inv.after {Q : VK} {u : Value} (I : Inv X pins σ H s) (h : CE X.stack X.prog X.w H s Q u s') : EP X pins σ Q u s' := by
  obtain ⟨v, H', os, bare, un, hok, r, q⟩ := h
  obtain ⟨hh, g, d, t, os'⟩ := s'
  obtain rfl : os' = s.os := os
  exact ⟨v, H', I.call (h' := hh) (g' := g) (d' := d) (t' := t) (ch := []) un hok bare (fun b z => absurd z (by simp)), r, q⟩
end

noncomputable def tCall (sp : Sp) (dvs : List V) (E : XK) (t : TA) : TE := fun σ H Q => t σ H fun vs H1 => sp (vs ++ dvs) H1 Q E
noncomputable def Binds (K : PySem.W.Frag) (fd : FuncData) (ps : List Str) (ds : List Value) : Prop :=
  ∀ (s : Shared) (us : List Value), K.In s.heap → (us ++ ds).length = ps.length → BindsTo s fd ⟨us, []⟩ (ps.zip (us ++ ds))
theorem Binds.all {K : PySem.W.Frag} {fd : FuncData} {ps : List Str} (h : ∀ us : List Value, us.length = ps.length → bindArgs fd ⟨us, []⟩ = pure (ps.zip us)) : Binds K fd ps [] := fun s us _ hl => by
  rw [List.append_nil] at hl ⊢
  exact .of_eq (h us hl)

noncomputable def Passes (CX : CXT) (X : Cx) (E : XK) : Prop := ∀ (pins : List (Addr × Obj)) (σ : St) (H : Hp) (s : Shared) (e : Value) (s' : Shared), Inv X pins σ H s → CX X.stack H s E e s' → X.xe e s'

section
variable {X : Cx} {CX : CXT} {k : Nat} {f C : Addr} {fd : FuncData} {ps : List Str} {sp : Sp} {dvs : List V} {ds : List Value} {E : XK} {x m : Str} {p pos apos : Pos} {e o : Expr} {es : List Expr} {ta : TE} {t : TA}

theorem run_fn {pins : List (Addr × Obj)} {σ : St} {H : Hp} {s : Shared} {Q : VK} {us : List Value} {vs : List V} (F : FnOk X.prog X.w X.K X.mg X.base CX k f fd ps sp) (hr : Room k X.A) (hb : Binds X.K fd ps ds) (hd : Vals dvs ds) (hx : Passes CX X E)
    (I : Inv X pins σ H s) (r : Vals vs us) (h : sp (vs ++ dvs) H Q E) : wpAny (model X.prog X.w) X.A (call (.ref f) us) (EP X pins σ Q) X.xe s := by
  have r2 : Vals (vs ++ dvs) (us ++ ds) := r.append hd
  have hl : (us ++ ds).length = ps.length := by rw [← r2.length]; exact F.len _ _ _ _ h
  refine wpAny_call (codeAny_mono (F.run X.A X.stack s H ⟨us, []⟩ (us ++ ds) (vs ++ dvs) Q E hr I.env0 (hb s us I.kIn hl) r2 h) fun r s' hq => ?_)
  cases r with
  | error e => exact hx pins σ H s e s' I hq
  | ok fl =>
    cases fl with
    | ret u => exact I.after hq
    | next => exact False.elim hq
    | brk => exact False.elim hq
    | cont => exact False.elim hq

theorem pe_call (F : FnOk X.prog X.w X.K X.mg X.base CX k f fd ps sp) (hr : Room k X.A) (hg : Gl X x) (hm : X.mg x = some (.ref f)) (hk : PySem.W.keepIn X.K (.ref f) = true) (hb : Binds X.K fd ps ds) (hd : Vals dvs ds) (hx : Passes CX X E)
    (ha : PA X (e :: es) t) (hdb : (x == ("__debug__" : Str)) = false := by decide) (he : starEach (e :: es) X.env = (false, eval e X.env) :: starEach es X.env := by rfl) (hpl : (backTo pos (starEach es X.env)).any (·.1) = false := by rfl) :
    PE X (.Call (.Name x p) (e :: es) [] pos) (tCall sp dvs E t) := by
  intro pins s σ H Q I h
  refine wpAny_Call_Name_kw (ld_glob I hg hm ?_ hdb)
  refine PySem.W.callWith_K (h₀ := X.base) I.ok.mod.kin hk (thn (ha pos pins s σ H _ I h) fun us s1 ⟨vs, H1, I1, r, q⟩ => ⟨I1.kIn, ?_⟩) he hpl
  exact run_fn F hr hb hd hx I1 r q
end

section
variable {X : Cx} {CX : CXT} {k : Nat} {f C : Addr} {fd : FuncData} {ps ks : List Str} {sp : Sp} {E : XK} {x m : Str} {p pos apos kpos : Pos} {e o : Expr} {es : List Expr} {kws : List Keyword} {te ta : TE} {t tk : TA} {nm : Option Str}
variable {g : List Value → List Value → List Value} {gV : List V → List V → List V}
end

structure FnScope (N P : List Str) (sc : Scope) : Prop where
  kind : sc.kind = .function
  co : sc.isCoroutine = false
  gen : sc.isGenerator = false
  nd : N.Nodup
  pre : N.take P.length = P
  par : ∀ x ∈ P, sc.names.lookup x = some .local ∨ sc.names.lookup x = some .cell
  nofree : ∀ y ∈ sc.names, y.2 ≠ .free

theorem bindL_out {kindOf : Str → Option NameKind} {x : Str} : ∀ {binds : List (Str × Value)} {m : Str → Option Value}, (∀ v, (x, v) ∉ binds) → bindL kindOf binds m x = m x
  | [], _, _ => rfl
  | (n, v) :: r, m, h => by
    unfold bindL
    rw [bindL_out fun w hw => h w (List.mem_cons_of_mem _ hw)]
    split
    · have : x ≠ n := by rintro rfl; exact h v List.mem_cons_self
      simp [this]
    · rfl
theorem bindC_out {kindOf : Str → Option NameKind} {x : Str} : ∀ {binds : List (Str × Value)} {m : Str → Option Value}, (∀ v, (x, v) ∉ binds) → bindC kindOf binds m x = m x
  | [], _, _ => rfl
  | (n, v) :: r, m, h => by
    unfold bindC
    rw [bindC_out fun w hw => h w (List.mem_cons_of_mem _ hw)]
    split
    · rfl
    · have : x ≠ n := by rintro rfl; exact h v List.mem_cons_self
      simp [this]
theorem bindL_get {kindOf : Str → Option NameKind} {x : Str} {v : Value} : ∀ {P : List Str} {vs : List Value} {i : Nat} {m : Str → Option Value}, P.Nodup → P[i]? = some x → vs[i]? = some v → kindOf x = some .local →
    bindL kindOf (P.zip vs) m x = some v
  | [], _, _, _, _, h, _, _ => by simp at h
  | _ :: _, [], _, _, _, _, h, _ => by simp at h
  | p :: P, w :: vs, 0, m, nd, h1, h2, hk => by
    simp at h1 h2; subst h1; subst h2
    show bindL kindOf ((p, w) :: P.zip vs) m p = _
    unfold bindL
    rw [bindL_out fun v hv => (List.nodup_cons.mp nd).1 (List.of_mem_zip hv).1, if_pos hk]
    simp
  | p :: P, w :: vs, i + 1, m, nd, h1, h2, hk => by
    show bindL kindOf ((p, w) :: P.zip vs) m x = _
    unfold bindL
    exact bindL_get (i := i) (List.nodup_cons.mp nd).2 (by simpa using h1) (by simpa using h2) hk
theorem bindC_get {kindOf : Str → Option NameKind} {x : Str} {v : Value} : ∀ {P : List Str} {vs : List Value} {i : Nat} {m : Str → Option Value}, P.Nodup → P[i]? = some x → vs[i]? = some v → kindOf x ≠ some .local →
    bindC kindOf (P.zip vs) m x = some v
  | [], _, _, _, _, h, _, _ => by simp at h
  | _ :: _, [], _, _, _, _, h, _ => by simp at h
  | p :: P, w :: vs, 0, m, nd, h1, h2, hk => by
    simp at h1 h2; subst h1; subst h2
    show bindC kindOf ((p, w) :: P.zip vs) m p = _
    unfold bindC
    rw [bindC_out fun v hv => (List.nodup_cons.mp nd).1 (List.of_mem_zip hv).1, if_neg hk]
    simp
  | p :: P, w :: vs, i + 1, m, nd, h1, h2, hk => by
    show bindC kindOf ((p, w) :: P.zip vs) m x = _
    unfold bindC
    exact bindC_get (i := i) (List.nodup_cons.mp nd).2 (by simpa using h1) (by simpa using h2) hk

noncomputable def start (N : List Str) (vs : List V) : St := vs.map some ++ List.replicate (N.length - vs.length) none

noncomputable def cxOf (CX : CXT) (P : Program) (w : World) (K : PySem.W.Frag) (mg : Str → Option Value) (base : Heap) (N : List Str) (qual : Str) (scope : Scope) (f : Addr) (cd : Value) (A : Around) (outer : List Env) (s : Shared) (H : Hp) (E : XK) : Cx where
  prog := P
  w := w
  K := K
  mg := mg
  base := base
  A := A.deeper (envOfC qual scope s.heap.objs.size f cd)
  N := N
  s₀ := s
  H₀ := H
  env := envOfC qual scope s.heap.objs.size f cd
  outer := outer
  stack := envOfC qual scope s.heap.objs.size f cd :: outer
  ex := []
  calm := true
  fn := fun _ => true
  pn := []
  xe := fun e s' => wpAny (model P w) (A.deeper (envOfC qual scope s.heap.objs.size f cd)) (leaving (envOfC qual scope s.heap.objs.size f cd) e) (fun _ s'' => CX outer H s E e s'') (fun e' s'' => CX outer H s E e' s'') s'

theorem cell_has {sc : Scope} {n : Nat} {x : Str} (h : sc.names.lookup x = some .cell) : ∃ c, (cellsFrom n sc.names []).lookup x = some c := by
  have q := PySem.W.cellsFrom_some sc.names n [] (.inl h)
  exact Option.isSome_iff_exists.mp q

theorem inv_start {CX : CXT} {P : Program} {w : World} {K : PySem.W.Frag} {mg : Str → Option Value} {base : Heap} {N ps : List Str} {qual : Str} {scope : Scope} {f : Addr} {cd : Value} {A : Around} {outer : List Env} {s s1 : Shared} {H : Hp} {E : XK} {us : List Value} {vs : List V}
    (S : FnScope N ps scope) (hd : A.handled = none) (e0 : Env0 P w K mg base A outer s H) (hl : vs.length = ps.length) (r : Vals vs us)
    (x : InCallC s s.heap.objs.size (bindL (envOfC qual scope s.heap.objs.size f cd).kindOf (ps.zip us) fun _ => none) (cellsFrom (s.heap.objs.size + 1) scope.names []) (bindC (envOfC qual scope s.heap.objs.size f cd).kindOf (ps.zip us) fun _ => none) s1) :
    Inv (cxOf CX P w K mg base N qual scope f cd A outer s H E) [] (start N vs) H s1 := by
  have hpl : ps.length ≤ N.length := by have := congrArg List.length S.pre; rw [List.length_take] at this; omega
  obtain ⟨h1, tk, rfl, hk⟩ := x.done
  have noA : ∀ b : Addr, b ∉ (cxOf CX P w K mg base N qual scope f cd A outer s H E).ex := fun b z => absurd (show b ∈ ([] : List Addr) from z) (by simp)
  refine ⟨⟨e0.mod, S.kind, rfl, rfl, Nat.le_refl _, fun y z c h1 h2 => ?_, fun y hy => ?_, fun y c _ h => ?_, fun _ => hd, Around.frames_deeper e0.frames, .inr ⟨rfl, rfl⟩, fun b z => absurd z (noA b), e0.bs, e0.bsz, fun b _ _ => noA b, fun b z => absurd z (noA b), e0.funs, e0.frf⟩,
    rfl, e0.bare, Un.kept hk, ⟨_, x.toInCall.ns, fun i y v h1 h2 h3 => ?_⟩, fun y c h => ⟨_, x.cell y c h⟩, e0.hok.fresh (Nat.le_refl _), fun y c h => ?_, fun p hp => absurd (show p ∈ ([] : List (Addr × Obj)) from hp) (by simp), e0.hok.kept hk, ?_⟩
  · exact name_of_addr x.apart (PySem.mem_of_lookup h1) (PySem.mem_of_lookup h2)
  · have hy : scope.names.lookup y = some .cell ∨ scope.names.lookup y = some .free := hy
    rcases hy with hy | hy
    · exact cell_has hy
    · exact absurd rfl (S.nofree _ (PySem.mem_of_lookup hy))
  · exact Nat.le_of_lt (x.above y c (PySem.mem_of_lookup h))
  · have hi : i < vs.length := by
      unfold start at h2
      by_cases hi : i < vs.length
      · exact hi
      · rw [List.getElem?_append_right (by simpa using hi)] at h2
        rw [List.getElem?_replicate] at h2
        split at h2 <;> cases h2
    have ha : vs[i]? = some v := by
      unfold start at h2
      rw [List.getElem?_append_left (by simpa using hi), List.getElem?_map] at h2
      cases e : vs[i]? with
      | none => rw [e] at h2; cases h2
      | some a => rw [e] at h2; cases h2; rfl
    obtain ⟨u, hu, rv⟩ := r.get ha
    have hp : ps[i]? = some y := by
      rw [← S.pre, List.getElem?_take_of_lt (by omega)]; exact h1
    have ndP : ps.Nodup := by rw [← S.pre]; exact S.nd.sublist (List.take_sublist _ _)
    refine ⟨u, rv, ?_⟩
    rcases S.par y (List.mem_of_getElem? hp) with k | k
    · exact .inl ⟨k, bindL_get ndP hp hu k⟩
    · obtain ⟨c, e⟩ := cell_has (n := s.heap.objs.size + 1) k
      refine .inr ⟨.inl k, c, e, ?_⟩
      have q := x.cell y c e
      rw [bindC_get ndP hp hu (by show scope.names.lookup y ≠ _; rw [k]; decide)] at q
      exact q
  · exact e0.hok.fresh (Nat.le_of_lt (x.above y c (PySem.mem_of_lookup h)))
  · unfold start
    show _ = N.length
    rw [List.length_append, List.length_map, List.length_replicate]
    omega

theorem fn_of {CX : CXT} {P : Program} {w : World} {K : PySem.W.Frag} {mg : Str → Option Value} {base : Heap} {k : Nat} {f : Addr} {name qual : Str} {params : Arguments} {body : List Stmt} {scope : Scope} {dV kV doc pm cdv ct oc : Value} {an od : Option Addr}
    {osl : Array (Option Value)} {N ps : List Str} {sp : Sp} (lk : K.lookup f = some ⟨oc, od, .func (PySem.W.fnOf name qual params body scope dV kV doc pm an cdv ct), osl⟩) (hcd : PySem.W.codeIn K cdv qual = true) (S : FnScope N ps scope)
    (len : ∀ vs H Q E, sp vs H Q E → vs.length = ps.length)
    (hbody : ∀ (A : Around) (outer : List Env) (s : Shared) (H : Hp) (vs : List V) (Q : VK) (E : XK), Room k (A.deeper (envOfC qual scope s.heap.objs.size f cdv)) → sp vs H Q E →
      ∃ t, PSs (cxOf CX P w K mg base N qual scope f cdv A outer s H E) body t ∧ t { nx := fun _ H' => Q .non H', rt := Q } (start N vs) H) :
    FnOk P w K mg base CX (k + 1) f (PySem.W.fnOf name qual params body scope dV kV doc pm an cdv ct) ps sp := by
  refine ⟨len, fun A outer s H args us vs Q E hr e0 hb r hsp => ?_⟩
  have hl := len _ _ _ _ hsp
  have KX : K.In s.heap := e0.mod.kin.keeps fun b o e => (e0.bs b o e).1
  have lim : s.heap.NoLimit := e0.mod.nolimit.keeps fun b o e => (e0.bs b o e).1
  have hkind : ∀ y ∈ ps.zip us, scope.names.lookup y.1 = some .local ∨ (scope.names.lookup y.1 = some .cell ∧ ((cellsFrom (s.heap.objs.size + 1) scope.names []).lookup y.1).isSome = true) := fun ⟨n, v⟩ hy => by
    rcases S.par n (List.of_mem_zip hy).1 with q | q
    · exact .inl q
    · exact .inr ⟨q, PySem.W.cellsFrom_some _ _ _ (.inl q)⟩
  refine codeAny_call_function hr.depth (KX _ _ lk) rfl S.co S.gen rfl (PySem.W.codeRec_of KX hcd) (hb _ _ _ _ ?_)
  refine wpAny_newFunctionEnv_cells S.kind hkind fun env he s1 x => ?_
  subst he
  refine ⟨lim.keeps x.toInCall.keep, codeAny_func ?_⟩
  obtain ⟨t, ht, hq⟩ := hbody A outer s H vs Q E (hr.deeper _) hsp
  have I : Inv (cxOf CX P w K mg base N qual scope f cdv A outer s H E) [] (start N vs) H s1 := inv_start S hr.hd e0 hl r x
  refine wpAny_mono (ht [] s1 (start N vs) H _ I hq) (fun fl s' hs => ?_) fun e s' hs => hs
  have fin : ∀ {σ' : St} {H' : Hp} {v : V} {u : Value}, Inv (cxOf CX P w K mg base N qual scope f cdv A outer s H E) [] σ' H' s' → RelV v u → Q v H' → CE outer P w H s Q u s' :=
    fun {σ' H' v u} J rv q => ⟨v, H', J.os, J.bare, J.base, J.hok, rv, q⟩
  cases fl with
  | ret u =>
    obtain ⟨v, σ', H', J, rv, q⟩ := hs
    exact fin J rv q
  | next =>
    obtain ⟨σ', H', J, q⟩ := hs
    exact fin (v := V.non) (u := Value.none) J rfl q
  | brk =>
    obtain ⟨_, _, _, q⟩ := hs
    exact False.elim q
  | cont =>
    obtain ⟨_, _, _, q⟩ := hs
    exact False.elim q
end L2

namespace L2
open PySem PySem.Spec PyProof.Rows
section
variable {X : Cx} {x : Str} {p pos : Pos} {e : Expr} {es : List Expr} {t : TA} {id T : String} {r : List V → Hp → VK → Prop}

noncomputable def tCB (r : List V → Hp → VK → Prop) (t : TA) : TE := fun σ H Q => t σ H fun vs H1 => r vs H1 Q
theorem pe_callB (hc : CallR X (.builtin id) r) (hg : Gl X x) (hm : X.mg x = none) (hv : bootBuiltins x = some (.builtin id)) (ha : PA X (e :: es) t) (hn : x ≠ "__name__" := by decide) (hdb : (x == ("__debug__" : Str)) = false := by decide)
    (he : starEach (e :: es) X.env = (false, eval e X.env) :: starEach es X.env := by rfl) (hpl : (backTo pos (starEach es X.env)).any (·.1) = false := by rfl) : PE X (.Call (.Name x p) (e :: es) [] pos) (tCB r t) := by
  intro pins s σ H Q I h
  refine wpAny_Call_Name_kw (ld_blt I hg hm hv ?_ hn hdb)
  exact PyProof.Rows.callWith_builtin1 (thn (ha pos pins s σ H _ I h) fun us s1 ⟨vs, H1, I1, r1, q1⟩ => hc pins s1 σ H1 vs us Q I1 r1 q1) he hpl
theorem pe_callTy (hc : CallR X (.type T) r) (hg : Gl X x) (hm : X.mg x = none) (hv : bootBuiltins x = some (.type T)) (ha : PA X (e :: es) t) (hn : x ≠ "__name__" := by decide) (hdb : (x == ("__debug__" : Str)) = false := by decide)
    (he : starEach (e :: es) X.env = (false, eval e X.env) :: starEach es X.env := by rfl) (hpl : (backTo pos (starEach es X.env)).any (·.1) = false := by rfl) : PE X (.Call (.Name x p) (e :: es) [] pos) (tCB r t) := by
  intro pins s σ H Q I h
  refine wpAny_Call_Name_kw (ld_blt I hg hm hv ?_ hn hdb)
  exact PyProof.Rows.callWith_type1 (thn (ha pos pins s σ H _ I h) fun us s1 ⟨vs, H1, I1, r1, q1⟩ => hc pins s1 σ H1 vs us Q I1 r1 q1) he hpl
end
end L2

namespace HT
open PySem PyProof.Rows

section
open PySem.SeqAt
open PySem.AutoSeq1 (wpAny_loadPart')
open PySem.MeetsSeq PySem.MeetsSeq2 PySem.MeetsSeq3

end

section
variable {prog : Program} {w : World} {A : Around} {E : Value → Shared → Prop} {s : Shared}

noncomputable def sIx (n d : Nat) : Option Int → Nat
  | none => d
  | some v => if v < 0 then (v + (n : Int)).toNat else min v.toNat n
theorem sIx_none (n d : Nat) : sIx n d none = d := rfl
theorem sIx_nat (n d k : Nat) : sIx n d (some (k : Int)) = min k n := by
  show (if (k : Int) < 0 then ((k : Int) + (n : Int)).toNat else min (k : Int).toNat n) = min k n
  rw [if_neg (by omega), Int.toNat_natCast]
end
end HT

namespace L2
open PySem PySem.Spec PyProof.Rows

noncomputable abbrev TO := St → Hp → (Option Int → Hp → Prop) → Prop
noncomputable def PO (X : Cx) (e : Option Expr) (t : TO) : Prop :=
  ∀ (pins : List (Addr × Obj)) (s : Shared) (σ : St) (H : Hp) (Q : Option Int → Hp → Prop), Inv X pins σ H s → t σ H Q →
    wpAny (model X.prog X.w) X.A (evalPart e X.env) (fun u s' => ∃ o H', Inv X pins σ H' s' ∧ IsPart u o ∧ Q o H') X.xe s
noncomputable def tNoPart : TO := fun _ H Q => Q none H
noncomputable def tPart (t : TE) : TO := fun σ H Q => t σ H fun x H1 => ∃ i, x = .int i ∧ Q (some i) H1

section
variable {X : Cx} {e : Expr} {te : TE} {lo hi : Option Expr} {tl th : TO} {pos p2 : Pos}

theorem po_none : PO X none tNoPart := by
  intro pins s σ H Q I h
  rw [evalPart_none]
  exact wpAny_pure ⟨none, H, I, .none, h⟩
theorem po_some (h : PE X e te) : PO X (some e) (tPart te) := by
  intro pins s σ H Q I hw
  rw [evalPart_some]
  refine thn (h pins s σ H _ I hw) fun u s1 ⟨x, H1, I1, r1, q1⟩ => ?_
  obtain ⟨i, rfl, q⟩ := q1
  obtain ⟨t, rfl⟩ := r1
  exact ⟨some i, H1, I1, .int i t, q⟩

noncomputable def SlR (X : Cx) (r : V → Option Int → Option Int → Hp → VK → Prop) : Prop :=
  ∀ (pins : List (Addr × Obj)) (s : Shared) (σ : St) (H : Hp) (x : V) (v vl vu : Value) (lo hi : Option Int) (sl : Addr) (Q : VK), Inv X pins σ H s → RelV x v → s.heap.IsSliceOf sl vl vu .none → IsPart vl lo → IsPart vu hi → r x lo hi H Q →
    ∃ T id, typeLookup (.type T) "__getitem__" = pure (some (.builtin id)) ∧ s.TypeIs v T ∧ wpAny (model X.prog X.w) X.A (getItem v (.ref sl)) (EP X pins σ Q) X.xe s
noncomputable def tSl (r : V → Option Int → Option Int → Hp → VK → Prop) (te : TE) (tl th : TO) : TE := fun σ H Q => te σ H fun x H1 => tl σ H1 fun l H2 => th σ H2 fun u H3 => r x l u H3 Q
theorem pe_slice {r : V → Option Int → Option Int → Hp → VK → Prop} (hr : SlR X r) (he : PE X e te) (hl : PO X lo tl) (hu : PO X hi th) : PE X (.Subscript e (.Slice lo hi none p2) pos) (tSl r te tl th) := by
  intro pins s σ H Q I h
  refine Subscript_ (thn (he pins s σ H _ I h) fun v s1 ⟨x, H1, I1, r1, q1⟩ => ?_)
  refine wpAny_Slice (thn (hl pins s1 σ H1 _ I1 q1) fun vl s2 ⟨l, H2, I2, pl, q2⟩ => thn (hu pins s2 σ H2 _ I2 q2) fun vu s3 ⟨u, H3, I3, pu, q3⟩ => ?_)
  rw [evalPart_none]
  refine wpAny_pure ?_
  have I4 : Inv X pins σ H3 { s3 with heap := s3.heap.push { cls := .type "slice", data := .fields #[vl, vu, .none] } } := I3.kept (t' := s3.toks) fun b ob q => Heap.get?_push_of_some _ q
  obtain ⟨T, id, hT, ht, hg⟩ := hr pins { s3 with heap := s3.heap.push { cls := .type "slice", data := .fields #[vl, vu, .none] } } σ H3 x v vl vu l u s3.heap.objs.size Q I4 r1 (Heap.IsSliceOf.new ..) pl pu q3
  show wpAny (model X.prog X.w) X.A (subscriptTail e (.Slice lo hi none p2) v (.ref s3.heap.objs.size)) (EP X pins σ Q) X.xe { s3 with heap := s3.heap.push { cls := .type "slice", data := .fields #[vl, vu, .none] } }
  exact tail_any (ops := [.ref s3.heap.objs.size, v]) ht hT hg (by with_unfolding_all rfl)

noncomputable def cutV (xs : List V) (lo hi : Option Int) : List V := (xs.drop (HT.sIx xs.length 0 lo)).take (HT.sIx xs.length xs.length hi - HT.sIx xs.length 0 lo)
theorem cutV_length (xs : List V) (lo hi : Option Int) : (cutV xs lo hi).length ≤ xs.length := by
  unfold cutV
  rw [List.length_take, List.length_drop]
  omega
end
end L2

namespace L2
open PySem PySem.Spec PyProof.Rows

noncomputable def ixN (n : Nat) (i : Int) : Option Nat := if 0 ≤ i then (if i < n then some i.toNat else none) else if -(n : Int) ≤ i then some (i + n).toNat else none
noncomputable def atI {α : Type} (xs : List α) (i : Int) : Option α := (ixN xs.length i).bind fun j => xs[j]?
theorem ixN_seq {n : Nat} {i : Int} {j : Nat} (h : ixN n i = some j) : seqIndex? i n = some j ∧ j < n ∧ -(n : Int) ≤ i ∧ i < n := by
  unfold ixN at h
  by_cases h0 : 0 ≤ i
  · rw [if_pos h0] at h
    by_cases h1 : i < n
    · rw [if_pos h1] at h
      have e : i.toNat = j := Option.some.inj h
      exact ⟨by rw [seqIndex_of h0 h1, e], by omega, by omega, h1⟩
    · rw [if_neg h1] at h; cases h
  · rw [if_neg h0] at h
    by_cases h1 : -(n : Int) ≤ i
    · rw [if_pos h1] at h
      have e : (i + n).toNat = j := Option.some.inj h
      exact ⟨by rw [seqIndex_neg (by omega) h1, e], by omega, h1, by omega⟩
    · rw [if_neg h1] at h; cases h
theorem atI_get {α : Type} {xs : List α} {i : Int} {v : α} (h : atI xs i = some v) : ∃ j, seqIndex? i xs.length = some j ∧ xs[j]? = some v ∧ j < xs.length ∧ -(xs.length : Int) ≤ i ∧ i < xs.length := by
  unfold atI at h
  cases e : ixN xs.length i with
  | none => rw [e] at h; cases h
  | some j =>
    rw [e] at h
    obtain ⟨h1, h2, h3, h4⟩ := ixN_seq e
    exact ⟨j, h1, h, h2, h3, h4⟩
theorem atI_nat {α : Type} {xs : List α} {j : Nat} {v : α} (h : xs[j]? = some v) : atI xs (j : Int) = some v := by
  have hj : j < xs.length := (List.getElem?_eq_some_iff.mp h).1
  have e : ixN xs.length (j : Int) = some j := by
    unfold ixN
    rw [if_pos (by omega), if_pos (by omega)]; simp
  unfold atI; rw [e]; exact h
noncomputable def PlainIx (b : Expr) : Prop := ∀ o i, subscripted b false o i = operate [o, i] (getItem o i)
noncomputable def IxR (X : Cx) (r : R2) : Prop :=
  ∀ (value slice : Expr) (pins : List (Addr × Obj)) (s : Shared) (σ : St) (H : Hp) (x y : V) (v u : Value) (Q : VK), Inv X pins σ H s → RelV x v → RelV y u → r x y H Q →
    subscripted slice false v u = operate [v, u] (getItem v u) → wpAny (model X.prog X.w) X.A (subscriptTail value slice v u) (EP X pins σ Q) X.xe s
noncomputable def MtR (X : Cx) (id : String) (r : V → List V → Hp → VK → Prop) : Prop :=
  ∀ (pins : List (Addr × Obj)) (s : Shared) (σ : St) (H : Hp) (x : V) (xs : List V) (v : Value) (us : List Value) (Q : VK), Inv X pins σ H s → RelV x v → Vals xs us → r x xs H Q →
    wpAny (model X.prog X.w) X.A (call (.builtin id) (v :: us)) (EP X pins σ Q) X.xe s
section
variable {X : Cx} {a b : Expr} {ta tb : TE} {pos : Pos}
theorem pe_ix {r : R2} (hr : IxR X r) (ha : PE X a ta) (hb : PE X b tb) (hs : PlainIx b) : PE X (.Subscript a b pos) (tOp r ta tb) := by
  intro pins s σ H Q I h
  exact Subscript_ (binT ha hb I h fun v u s2 x y H2 I2 rx ry q => hr a b pins s2 σ H2 x y v u Q I2 rx ry q (hs _ _))

noncomputable def rIxL (K : PySem.W.Frag) : R2 := fun x y H Q => ∃ p xs i v, x = .ref p ∧ y = .int i ∧ SqL K H p xs ∧ atI xs i = some v ∧ Q v H
noncomputable def rIxT (K : PySem.W.Frag) : R2 := fun x y H Q => ∃ p xs i v, x = .ref p ∧ y = .int i ∧ SqT K H p xs ∧ atI xs i = some v ∧ Q v H
theorem ix_list : IxR X (rIxL X.K) := by
  intro value slice pins s σ H x y v u Q I rx ry h hs
  obtain ⟨p, xs, i, z, rfl, rfl, hq, he, q⟩ := h
  cases rx
  obtain ⟨t, rfl⟩ := ry
  obtain ⟨its, r, pl, hz⟩ := I.list hq
  obtain ⟨j, h1, h2, h3, h4, h5⟩ := atI_get he
  obtain ⟨w, ew, rw'⟩ := r.get h2
  have hl := r.length
  have hn := line63
  have fin : EP X pins σ Q w s := ⟨z, H, I, rw', q⟩
  by_cases h0 : 0 ≤ i
  · have hj : i.toNat = j := by
      rw [seqIndex_of h0 h5] at h1
      exact Option.some.inj h1
    exact item_listR pl.isList h0 (by omega) (by rw [hj]; simpa using ew) fin hs
  · have hj : (i + (its.toArray.size : Int)).toNat = j := by
      rw [seqIndex_neg (by omega) h4] at h1
      rw [List.size_toArray, ← hl]
      exact Option.some.inj h1
    exact subscriptTail_builtinR (x := w) pl.isList.typeIs slot_list_getitem.lookup
      (wpAny_getItem_list_neg (Q := fun r s' => r = w ∧ EP X pins σ Q r s') pl.isList (by omega) (by rw [List.size_toArray] <;> omega) (by omega) (by rw [hj]; simpa using ew) ⟨rfl, fin⟩) hs
theorem ix_tup : IxR X (rIxT X.K) := by
  intro value slice pins s σ H x y v u Q I rx ry h hs
  obtain ⟨p, xs, i, z, rfl, rfl, hq, he, q⟩ := h
  cases rx
  obtain ⟨t, rfl⟩ := ry
  obtain ⟨its, r, pl, hz⟩ := I.tuple hq
  obtain ⟨j, h1, h2, h3, h4, h5⟩ := atI_get he
  obtain ⟨w, ew, rw'⟩ := r.get h2
  have hl := r.length
  have hn := line63
  have fin : EP X pins σ Q w s := ⟨z, H, I, rw', q⟩
  exact subscriptTail_builtinR (x := w) pl.typeIs slot_tuple_getitem.lookup
    (getItem_tuple (j := j) (Q := fun r s' => r = w ∧ EP X pins σ Q r s') pl (by omega) (by omega) (by rw [List.size_toArray, ← hl]; exact h1) (by simpa using ew) ⟨rfl, fin⟩) hs
theorem mapSeq_set (its : List Value) (n j : Nat) (u : Value) : Obj.mapSeq (·.setIfInBounds j u) { cls := .type "list", data := .seq its.toArray n } = { cls := .type "list", data := .seq (its.set j u).toArray n } := by
  simp [Obj.mapSeq]
theorem Inv.lst {pins : List (Addr × Obj)} {σ : St} {H : Hp} {s : Shared} {p : Addr} {xs : List V} (I : Inv X pins σ H s) (h : H p = some (.lst xs)) :
    ∃ (its : List Value) (n : Nat), Vals xs its ∧ s.heap.get? p = some { cls := .type "list", data := .seq its.toArray n } ∧ xs.length ≤ sizeLine := by
  obtain ⟨z, its, n, r, e⟩ := I.hok p _ h
  exact ⟨its, n, r, e, z⟩
theorem Inv.lstUpd {pins : List (Addr × Obj)} {σ : St} {H : Hp} {s : Shared} {p : Addr} {xs ys : List V} {its its' : List Value} {n n' : Nat} {f : Obj → Obj} (I : Inv X pins σ H s) (h : H p = some (.lst xs))
    (ho : s.heap.get? p = some { cls := .type "list", data := .seq its.toArray n }) (hf : f { cls := .type "list", data := .seq its.toArray n } = { cls := .type "list", data := .seq its'.toArray n' }) (r : Vals ys its') (hz : ys.length ≤ sizeLine) (t : Nat) :
    Inv X pins σ (upd H p (.lst ys)) { s with heap := s.heap.update p f, toks := t } := by
  have e : (s.heap.update p f).get? p = some { cls := .type "list", data := .seq its'.toArray n' } := by
    rw [Heap.get?_update_self f ho (by rw [hf] <;> rfl), hf]
  refine I.write (x := p) (e := p) (by rw [h]; trivial) (.inl rfl) (fun b u hb q => (Heap.get?_update_other _ _ (Ne.symm hb)).trans q) ⟨_, e⟩ ?_
  exact ⟨hz, its', n', r, e⟩
noncomputable def rSetL : V → V → V → Hp → (Hp → Prop) → Prop := fun o i v H Q => ∃ p xs k j, o = .ref p ∧ i = .int k ∧ H p = some (.lst xs) ∧ ixN xs.length k = some j ∧ Q (upd H p (.lst (xs.set j v)))
theorem set_list : PSet X rSetL := by
  intro pins s σ H o i v ov iv u Q I ro ri rv h
  obtain ⟨p, xs, k, j, rfl, rfl, hp, hj, q⟩ := h
  cases ro
  obtain ⟨t, rfl⟩ := ri
  obtain ⟨its, n, r, ho, hz⟩ := I.lst hp
  obtain ⟨h1, h2, h3, h4⟩ := ixN_seq hj
  have hl := r.length
  have hn := line63
  have I' : Inv X pins σ (upd H p (.lst (xs.set j v))) { s with heap := s.heap.update p (Obj.mapSeq (·.setIfInBounds j u)) } :=
    I.lstUpd hp ho (mapSeq_set its n j u) (r.set rv j) (by rw [List.length_set]; exact hz) s.toks
  by_cases h0 : 0 ≤ k
  · have hk : k.toNat = j := by
      rw [seqIndex_of h0 h4] at h1
      exact Option.some.inj h1
    exact PySem.W.ki_setAt ho h0 (by omega) (by rw [List.size_toArray, ← hl]; exact h4) (by rw [hk]; exact ⟨_, I', q⟩)
  · have hk : (k + (its.toArray.size : Int)).toNat = j := by
      rw [seqIndex_neg (by omega) h3] at h1
      rw [List.size_toArray, ← hl]
      exact Option.some.inj h1
    exact PySem.W.ki_setBack ho (by omega) (by rw [List.size_toArray, ← hl]; exact h3) (by omega) (by rw [hk]; exact ⟨_, I', q⟩)

theorem slice_bounds (lo hi : Option Int) (n : Nat) : (sliceBounds lo hi none n).1 = ((HT.sIx n 0 lo : Nat) : Int) ∧ (sliceBounds lo hi none n).2.1 = ((HT.sIx n n hi : Nat) : Int) ∧ (sliceBounds lo hi none n).2.2 = 1 := by
  refine ⟨?_, ?_, rfl⟩
  · cases lo with
    | none => simp [sliceBounds, HT.sIx]
    | some i =>
      simp only [sliceBounds, HT.sIx, Option.getD_none, show (1 : Int) > 0 by decide, if_true]
      by_cases h : i < 0
      · simp only [h, if_true] <;> omega
      · simp only [h, if_false] <;> omega
  · cases hi with
    | none => simp [sliceBounds, HT.sIx]
    | some i =>
      simp only [sliceBounds, HT.sIx, Option.getD_none, show (1 : Int) > 0 by decide, if_true]
      by_cases h : i < 0
      · simp only [h, if_true] <;> omega
      · simp only [h, if_false] <;> omega
theorem slicePick_cut (its : List Value) (lo hi : Option Int) : slicePick its.toArray lo hi none = ((its.drop (HT.sIx its.length 0 lo)).take (HT.sIx its.length its.length hi - HT.sIx its.length 0 lo)).toArray := by
  obtain ⟨h1, h2, h3⟩ := slice_bounds lo hi its.toArray.size
  unfold slicePick
  rw [h1, h2, h3]
  simp only [sliceRange_one, pick_run, List.size_toArray] <;> rfl
noncomputable def rSlL (K : PySem.W.Frag) : V → Option Int → Option Int → Hp → VK → Prop := fun x lo hi H Q => ∃ a xs, x = .ref a ∧ SqL K H a xs ∧ ∀ p, H p = none → Q (.ref p) (upd H p (.lst (cutV xs lo hi)))
theorem sl_list : SlR X (rSlL X.K) := by
  intro pins s σ H x v vl vu lo hi sl Q I rx hs pl pu h
  obtain ⟨a, xs, rfl, hx, q⟩ := h
  cases rx
  obtain ⟨its, r, ht, hz⟩ := I.list hx
  have hlen := r.length
  refine ⟨"list", _, slot_list_getitem.lookup, ht.isList.typeIs, ?_⟩
  refine wpAny_getItem_list_slice ht.isList hs pl pu .none (by simp) ?_ (by rw [List.size_toArray] <;> omega)
  rw [slicePick_cut, ← hlen]
  refine ⟨.ref s.heap.objs.size, _, I.laid (t' := s.toks) (o := .lst (cutV xs lo hi)) (fun b ob q => Heap.get?_push_of_some _ q) (Nat.le_refl _) ?_, rfl, q _ (I.hok.fresh (Nat.le_refl _))⟩
  exact ⟨Nat.le_trans (cutV_length xs lo hi) hz, _, 0, (r.drop (HT.sIx xs.length 0 lo)).take (HT.sIx xs.length xs.length hi - HT.sIx xs.length 0 lo), Heap.get?_push_size _ rfl⟩

theorem call_len_seq : CallR X (.builtin "len") (fun xs H Q => ∃ p ys, xs = [.ref p] ∧ (SqL X.K H p ys ∨ SqT X.K H p ys) ∧ Q (.int ys.length) H) := by
  intro pins s σ H xs us Q I r h
  obtain ⟨p, ys, rfl, hq, q⟩ := h
  obtain ⟨u, rfl, rx⟩ := vals1 r
  cases rx
  have hn := line63
  rcases hq with hq | hq
  · obtain ⟨its, r', pl, hz⟩ := I.list hq
    have hlen := r'.length
    exact Calls.call_len_list pl.isList (by simp only [List.size_toArray] <;> omega) ⟨.int ys.length, H, I.tok _, ⟨s.toks + 1, by rw [List.size_toArray, hlen]⟩, q⟩
  · obtain ⟨its, r', pl, hz⟩ := I.tuple hq
    have hlen := r'.length
    exact len_tuple pl (by simp only [List.size_toArray] <;> omega) ⟨.int ys.length, H, I.tok _, ⟨s.toks + 1, by rw [List.size_toArray, hlen]⟩, q⟩
theorem call_list_of : CallR X (.type "list") (fun xs H Q => ∃ p ys, xs = [.ref p] ∧ (SqL X.K H p ys ∨ SqT X.K H p ys) ∧ ∀ l, H l = none → Q (.ref l) (upd H l (.lst ys))) := by
  intro pins s σ H xs us Q I r h
  obtain ⟨p, ys, rfl, hq, q⟩ := h
  obtain ⟨u, rfl, rx⟩ := vals1 r
  cases rx
  have fin : ∀ (its : List Value), Vals ys its → ys.length ≤ sizeLine → ∀ (h' : Heap) (c' : Nat), (∀ b o', s.heap.get? b = some o' → h'.get? b = some o') →
      h'.get? s.heap.objs.size = some { cls := .type "list", dict := none, data := .seq its.toArray c', slots := #[] } → EP X pins σ Q (.ref s.heap.objs.size) { s with heap := h' } := fun its r' hz h' c' kp e =>
    ⟨.ref s.heap.objs.size, _, I.laid (t' := s.toks) kp (Nat.le_refl _) (show ObjOk X.prog X.w _ h' _ (.lst ys) from ⟨hz, its, c', r', e⟩), rfl, q _ (I.hok.fresh (Nat.le_refl _))⟩
  rcases hq with hq | hq
  · obtain ⟨its, r', pl, hz⟩ := I.list hq
    have hlen := r'.length
    obtain ⟨o, ho, hc, n, hd⟩ := pl.isList
    exact call_list_seq p (.inl rfl) ho hc hd (fun h' c' kp e => fin its r' hz h' c' kp e) (by simp only [List.size_toArray] <;> omega)
  · obtain ⟨its, r', pl, hz⟩ := I.tuple hq
    have hlen := r'.length
    obtain ⟨o, ho, hc, n, hd⟩ := pl
    exact call_list_seq p (.inr rfl) ho hc hd (fun h' c' kp e => fin its r' hz h' c' kp e) (by simp only [List.size_toArray] <;> omega)
theorem call_tuple_of : CallR X (.type "tuple") (fun xs H Q => ∃ p ys, xs = [.ref p] ∧ ((SqL X.K H p ys ∧ ∀ l, H l = none → Q (.ref l) (upd H l (.tup ys))) ∨ (SqT X.K H p ys ∧ Q (.ref p) H))) := by
  intro pins s σ H xs us Q I r h
  obtain ⟨p, ys, rfl, h⟩ := h
  obtain ⟨u, rfl, rx⟩ := vals1 r
  cases rx
  rcases h with ⟨hq, q⟩ | ⟨hq, q⟩
  · obtain ⟨its, r', pl, hz⟩ := I.list hq
    have hlen := r'.length
    refine call_tuple_list pl.isList (fun h' kp => ?_) (by simp only [List.size_toArray] <;> omega)
    have I1 : Inv X pins σ H { s with heap := h' } := I.kept (t' := s.toks) kp
    have I2 : Inv X pins σ (upd H h'.objs.size (.tup ys)) { s with heap := h'.push { cls := .type "tuple", data := .seq its.toArray } } :=
      I1.laid (t' := s.toks) (fun b o e => Heap.get?_push_of_some _ e) (Nat.le_refl _) (show ObjOk X.prog X.w _ _ _ (.tup ys) from ⟨hz, its, r', IsTup.new _ _⟩)
    exact ⟨.ref h'.objs.size, _, I2, rfl, q _ (I1.hok.fresh (Nat.le_refl _))⟩
  · obtain ⟨its, r', pl, hz⟩ := I.tuple hq
    exact call_tuple_same pl ⟨.ref p, H, I, rfl, q⟩

noncomputable def tyV (K : PySem.W.Frag) (T : String) (x : V) (H : Hp) : Prop := match x with
  | .str _ => T = "str"
  | .int _ => T = "int"
  | .ref p => (T = "list" ∧ ∃ xs, SqL K H p xs) ∨ (T = "tuple" ∧ ∃ o, K.lookup p = some o ∧ o.cls = .type "tuple" ∧ o.dict = none) ∨
      (T = "dict" ∧ ((∃ kvs, H p = some (.dK kvs)) ∨ ∃ kvs, H p = some (.dT kvs))) ∨ (T = "set" ∧ ∃ S n, H p = some (.set S n))
  | _ => False
theorem tyV_is {pins : List (Addr × Obj)} {σ : St} {H : Hp} {s : Shared} {T : String} {x : V} {v : Value} (I : Inv X pins σ H s) (r : RelV x v) (ty : tyV X.K T x H) :
    s.TypeIs v T ∧ ∀ a, v = .ref a → ∃ ob, s.heap.get? a = some ob ∧ ob.dict = none := by
  cases x with
  | str z =>
    obtain ⟨t, rfl⟩ := r
    cases (show T = "str" from ty)
    exact ⟨typeIs_str s z t, fun _ e => nomatch e⟩
  | int i =>
    obtain ⟨t, rfl⟩ := r
    cases (show T = "int" from ty)
    exact ⟨typeIs_int s i t, fun _ e => nomatch e⟩
  | ref p =>
    cases r
    rcases ty with ⟨rfl, xs, hq⟩ | ⟨rfl, o, hk, hc, hd⟩ | ⟨rfl, hk⟩ | ⟨rfl, S, n, hk⟩
    · obtain ⟨its, _, pl, _⟩ := I.list hq
      refine ⟨pl.isList.typeIs, fun a e => ?_⟩
      cases e
      obtain ⟨o, n, e, c, hd, _⟩ := pl
      exact ⟨o, e, hd⟩
    · refine ⟨⟨o, I.kIn p o hk, hc⟩, fun a e => ?_⟩
      cases e
      exact ⟨o, I.kIn _ o hk, hd⟩
    · have z : ∃ o, s.heap.get? p = some o ∧ o.ExactDict := by
        rcases hk with ⟨kvs, hk⟩ | ⟨kvs, hk⟩
        · obtain ⟨_, _, _, _, o, _, _, e, ex, _⟩ := I.hok p _ hk
          exact ⟨o, e, ex⟩
        · obtain ⟨_, _, _, _, o, _, _, e, ex, _⟩ := I.hok p _ hk
          exact ⟨o, e, ex⟩
      obtain ⟨o, e, ex⟩ := z
      refine ⟨⟨o, e, ex.1⟩, fun a e2 => ?_⟩
      cases e2
      exact ⟨o, e, ex.2.1⟩
    · obtain ⟨o, _, _, _, e, ex, _⟩ := I.hok p _ hk
      refine ⟨⟨o, e, ex.1⟩, fun a e2 => ?_⟩
      cases e2
      exact ⟨o, e, ex.2.1⟩
  | _ => exact False.elim ty
noncomputable def tBM (K : PySem.W.Frag) (T : String) (r : V → List V → Hp → VK → Prop) (to : TE) (t : TA) : TE := fun σ H Q => to σ H fun x H1 => tyV K T x H1 ∧ t σ H1 fun xs H2 => r x xs H2 Q
variable {o e : Expr} {es : List Expr} {to : TE} {t : TA} {name : Str} {apos cpos : Pos} {T id : String} {r : V → List V → Hp → VK → Prop}
theorem pe_bm (pa : PlainAttrs T) (slot : Slot T name id) (hty : typeOf (.builtin id) = pure (.type "method_descriptor")) (hm : MtR X id r) (ho : PE X o to) (ha : PA X (e :: es) t)
    (hbase : attributeBase o name X.env (eval o X.env) = eval o X.env := by rfl)
    (hfew : ((backTo cpos (starEach (e :: es) X.env)).all (fun x => !x.1) && (backToKw cpos (keywordEach [] X.env)).all (fun x => x.1.isSome)
      && decide ((e :: es).length + ([] : List Keyword).length + (if ([] : List Keyword).isEmpty then 0 else 1) < 30)) = true := by rfl)
    (hline : (apos.endLine == cpos.line) = true := by rfl) (hs : starEach (e :: es) X.env = (false, eval e X.env) :: starEach es X.env := by rfl) (hplain : (backTo cpos (starEach es X.env)).any (·.1) = false := by rfl) :
    PE X (.Call (.Attribute o name apos) (e :: es) [] cpos) (tBM X.K T r to t) := by
  intro pins s σ H Q I h
  refine wpAny_Call_method_late hbase hfew hline rfl (thn (ho pins s σ H _ I h) fun v s1 ⟨x, H1, I1, r1, ty, q1⟩ => ?_)
  obtain ⟨h1, h2⟩ := tyV_is I1 r1 ty
  refine ⟨T, id, pa, slot, hty, h1, h2, ?_⟩
  have hA := ha cpos pins s1 σ H1 _ I1 q1
  rw [hs] at hA ⊢
  refine Calls.callWith_builtin (by show (false || (backTo cpos (starEach es X.env)).any (·.1)) = false; rw [hplain] <;> rfl) (Calls.evalArgs_plain ?_)
  exact thn hA fun us s2 ⟨vs, H2, I2, r2, q2⟩ => hm pins s2 σ H2 x vs v us Q I2 r1 r2 q2
/- xs.append(e), list.index on a module's tuple .. are MtR facts of 06m -/
end
end L2

namespace L2
open PySem PySem.Spec PyProof.Rows

noncomputable def MtM (X : Cx) (id : String) (r : V → List V → Hp → VK → Prop) : Prop :=
  ∀ (pins : List (Addr × Obj)) (s : Shared) (σ : St) (H : Hp) (x : V) (xs : List V) (v : Value) (us : List Value) (Q : VK), Inv X pins σ H s → RelV x v → Vals xs us → r x xs H Q →
    wpAny (model X.prog X.w) X.A (call (.builtin id) (v :: us)) (EP X pins σ Q) X.xe s

theorem Vals.one : ∀ {x : V} {us : List Value}, Vals [x] us → ∃ u, us = [u] ∧ RelV x u
  | _, _, .cons r .nil => ⟨_, rfl, r⟩
theorem Vals.reverse {xs : List V} {us : List Value} (h : Vals xs us) : Vals xs.reverse us.reverse := by
  induction h with
  | nil => exact .nil
  | cons r t ih => rw [List.reverse_cons, List.reverse_cons]; exact Vals.append ih (.cons r .nil)
theorem Vals.rep {xs : List V} {us : List Value} (h : Vals xs us) : ∀ k : Nat, Vals (List.replicate k xs).flatten (List.replicate k us).flatten
  | 0 => .nil
  | k + 1 => by
    rw [List.replicate_succ, List.replicate_succ, List.flatten_cons, List.flatten_cons]
    exact Vals.append h (Vals.rep h k)
theorem foldl_rep (its : List Value) : ∀ (k : Nat) (acc : List Value),
    List.foldl (fun x1 x2 => x1 ++ x2) acc.toArray (List.replicate k its.toArray) = (acc ++ (List.replicate k its).flatten).toArray
  | 0, acc => by simp
  | k + 1, acc => by
    have e : acc.toArray ++ its.toArray = (acc ++ its).toArray := by simp
    have e2 : (acc ++ its) ++ (List.replicate k its).flatten = acc ++ (List.replicate (k + 1) its).flatten := by
      rw [List.replicate_succ, List.flatten_cons, List.append_assoc]
    rw [← e2, ← foldl_rep its k (acc ++ its), ← e, List.replicate_succ, List.foldl_cons]

section
variable {X : Cx} {pins : List (Addr × Obj)} {σ : St} {H : Hp} {s : Shared} {l b : Addr} {xs ys zs : List V}

theorem Inv.lset {its its' : List Value} {n : Nat} {f : Array Value → Array Value} {t' : Nat} (I : Inv X pins σ H s) (hH : H l = some (.lst xs))
    (e : s.heap.get? l = some { cls := .type "list", data := .seq its.toArray n }) (hf : f its.toArray = its'.toArray) (hv : Vals ys its') (hz : ys.length ≤ sizeLine) :
    Inv X pins σ (upd H l (.lst ys)) { s with heap := s.heap.update l (Obj.mapSeq f), toks := t' } := by
  have q := PySem.IsL.update e f
  rw [hf] at q
  refine I.write (x := l) (e := l) (by rw [hH]; exact trivial) (.inl rfl) (fun b' u hb hu => (Heap.get?_update_other s.heap (Obj.mapSeq f) (Ne.symm hb)).trans hu) ⟨_, q⟩ ?_
  exact ⟨hz, its', _, hv, q⟩
theorem Inv.lnew {its : List Value} {t' : Nat} (I : Inv X pins σ H s) (hv : Vals ys its) (hz : ys.length ≤ sizeLine) :
    Inv X pins σ (upd H s.heap.objs.size (.lst ys)) { s with heap := s.heap.push { cls := .type "list", data := .seq its.toArray }, toks := t' } :=
  I.laid (fun _ _ q => Heap.get?_push_of_some _ q) (Nat.le_refl _) ⟨hz, its, 0, hv, Heap.get?_push_size _ rfl⟩
theorem Inv.fresh (I : Inv X pins σ H s) : H s.heap.objs.size = none := I.hok.fresh (Nat.le_refl _)
theorem Inv.lstM (I : Inv X pins σ H s) (hH : H l = some (.lst xs)) : xs.length ≤ sizeLine ∧ ∃ (its : List Value) (n : Nat), Vals xs its ∧ xs.length = its.length ∧ s.heap.get? l = some { cls := .type "list", data := .seq its.toArray n } := by
  obtain ⟨z, its, n, r, e⟩ := I.hok l _ hH
  exact ⟨z, its, n, r, r.length, e⟩

theorem notLongL {n : Nat} (h : n ≤ sizeLine) : Builtin.List.listTooLong n = false := by
  unfold Builtin.List.listTooLong
  exact decide_eq_false (by omega)
end

section
variable {X : Cx}

noncomputable def rAppend : V → List V → Hp → VK → Prop := fun x vs H Q => ∃ l xs y, x = .ref l ∧ vs = [y] ∧ H l = some (.lst xs) ∧ xs.length < sizeLine ∧ Q .non (upd H l (.lst (xs ++ [y])))
theorem mt_append : MtM X "list.append" rAppend := by
  intro pins s σ H x vs v us Q I rx rv h
  obtain ⟨l, xs, y, rfl, rfl, hH, hz, q⟩ := h
  cases rx
  obtain ⟨u, rfl, ru⟩ := rv.one
  obtain ⟨z, its, n, r, hl, e⟩ := I.lstM hH
  refine call_meets F.slot_list_append ⟨_, e, rfl⟩ F.entry_list_append (F.args_list_append_2 _ _) (PySem.list_append l its.toArray n u (by rw [List.size_toArray]; omega)) ⟨e, ?_⟩
  refine ⟨.non, _, I.lset (its' := its ++ [u]) hH e (by simp) (r.append (.cons ru .nil)) ?_, rfl, q⟩
  rw [List.length_append, List.length_singleton]
  omega

noncomputable def rExtend : V → List V → Hp → VK → Prop := fun x vs H Q => ∃ l b xs zs, x = .ref l ∧ vs = [.ref b] ∧ H l = some (.lst xs) ∧ H b = some (.lst zs) ∧ xs.length + zs.length ≤ sizeLine ∧ Q .non (upd H l (.lst (xs ++ zs)))
theorem mt_extend : MtM X "list.extend" rExtend := by
  intro pins s σ H x vs v us Q I rx rv h
  obtain ⟨l, b, xs, zs, rfl, rfl, hH, hB, hz, q⟩ := h
  cases rx
  obtain ⟨u, rfl, ru⟩ := rv.one
  cases ru
  obtain ⟨z, its, n, r, hl, e⟩ := I.lstM hH
  obtain ⟨z2, its2, n2, r2, hl2, e2⟩ := I.lstM hB
  have hsz : its.toArray.size + its2.toArray.size ≤ sizeLine := by rw [List.size_toArray, List.size_toArray]; omega
  have hlong : ¬ (!its.toArray.isEmpty && Builtin.List.listTooLong (its.toArray.size + its2.toArray.size)) = true := by
    rw [notLongL hsz, Bool.and_false]
    exact Bool.false_ne_true
  refine call_meets F.slot_list_extend ⟨_, e, rfl⟩ F.entry_list_extend (F.args_list_extend_2 _ _)
    (AutoSeq1.list_extend_list_list_0 l its.toArray n b its2.toArray n2 hlong (by rw [List.size_toArray]; omega) (by omega)) ⟨e, e2, ?_⟩
  refine ⟨.non, _, I.lset (its' := its ++ its2) hH e (by simp) (r.append r2) ?_, rfl, q⟩
  rw [List.length_append]
  omega

noncomputable def rCat : R2 := fun x y H Q => ∃ l b xs zs, x = .ref l ∧ y = .ref b ∧ H l = some (.lst xs) ∧ H b = some (.lst zs) ∧ xs.length + zs.length ≤ sizeLine ∧ ∀ p, H p = none → Q (.ref p) (upd H p (.lst (xs ++ zs)))
theorem op_cat : OpR X (binaryOp .Add) rCat := by
  intro pins s σ H x y v u Q I rx ry h
  obtain ⟨l, b, xs, zs, rfl, rfl, hH, hB, hz, q⟩ := h
  cases rx
  cases ry
  obtain ⟨z, its, n, r, hl, e⟩ := I.lstM hH
  obtain ⟨z2, its2, n2, r2, hl2, e2⟩ := I.lstM hB
  refine PySem.P.add_list e e2 ?_ (by rw [List.size_toArray, List.size_toArray]; omega)
  have ea : its.toArray ++ its2.toArray = (its ++ its2).toArray := by simp
  rw [ea]
  exact ⟨.ref _, _, I.lnew (t' := s.toks) (r.append r2) (by rw [List.length_append]; omega), rfl, q _ I.fresh⟩
noncomputable def rRep : R2 := fun x y H Q => ∃ l k xs, x = .ref l ∧ y = .int k ∧ H l = some (.lst xs) ∧ -(2 ^ 63) ≤ k ∧ k < 2 ^ 63 ∧ xs.length * k.toNat ≤ sizeLine ∧
  ∀ p, H p = none → Q (.ref p) (upd H p (.lst (List.replicate k.toNat xs).flatten))
theorem len_rep {α : Type} (xs : List α) (k : Nat) : (List.replicate k xs).flatten.length = k * xs.length := by
  induction k with
  | zero => simp
  | succ k ih => rw [List.replicate_succ, List.flatten_cons, List.length_append, ih, Nat.succ_mul, Nat.add_comm]
theorem op_rep : OpR X (binaryOp .Mult) rRep := by
  intro pins s σ H x y v u Q I rx ry h
  obtain ⟨l, k, xs, rfl, rfl, hH, h1, h2, hz, q⟩ := h
  cases rx
  obtain ⟨t, rfl⟩ := ry
  obtain ⟨z, its, n, r, hl, e⟩ := I.lstM hH
  have hlen : its.toArray.size * k.toNat ≤ sizeLine := by rw [List.size_toArray, ← hl]; exact hz
  have hcap : ¬ its.toArray.size * k.toNat > (2 ^ 63 - 1) / 8 := by
    have : (sizeLine : Nat) ≤ (2 ^ 63 - 1) / 8 := by decide
    omega
  have hfit : ¬ (!Builtin.List.listFitsIndex k) = true := by
    rw [fitsIndex_both h1 h2]
    exact Bool.false_ne_true
  have hlong : ¬ Builtin.List.listTooLong (its.toArray.size * k.toNat) = true := by
    rw [notLongL hlen]
    exact Bool.false_ne_true
  have hnew : List.foldl (fun x1 x2 => x1 ++ x2) #[] (List.replicate (if its.toArray.isEmpty = true then 0 else k.toNat) its.toArray) = (List.replicate k.toNat its).flatten.toArray := by
    have f0 : ∀ m : Nat, List.foldl (fun x1 x2 => x1 ++ x2) #[] (List.replicate m its.toArray) = (List.replicate m its).flatten.toArray := fun m => by
      have := foldl_rep its m []
      rw [List.nil_append] at this
      exact this
    rw [f0]
    cases its with
    | nil => simp
    | cons a r' => rw [if_neg (by simp)]
  refine wpAny_binaryOp_repeat_ref (T := "list") (U := "int") (by decide) ⟨_, e, rfl⟩ (fun s' => typeIs_int s' k t) noFill_list_mul F.fills_int_mul F.slot_int_rmul repeat_list F.slot_int_index.lookup
    (call_meets F.slot_int_rmul (typeIs_int s k t) F.entry_int_rmul (F.args_int_rmul_2 _ _) (int___rmul___int_list k t l its.toArray n)
      ⟨e, rfl, ⟨_, e, rfl⟩, call_meets F.slot_list_mul ⟨_, e, rfl⟩ F.entry_list_mul (F.args_list_mul_2 _ _) (AutoListH.list___mul___list_int_3 l its.toArray n k t hfit hcap hlong) ⟨e, ?_⟩⟩)
  rw [hnew]
  exact ⟨.ref _, _, I.lnew (t' := s.toks) (r.rep k.toNat) (by rw [len_rep, Nat.mul_comm]; exact hz), rfl, q _ I.fresh⟩

end

section
variable {prog : Program} {w : World} {A : Around} {E : Value → Shared → Prop} {s : Shared}
end

section
variable {X : Cx}
end
end L2

namespace Att
open PySem PySem.W PySem.Calls PyProof.Rows

theorem ints_of_wellAll {P : Params} {h : Heap} : ∀ (ns : List Int) (vs : List Value), WellAll P h vs (ns.map WData.int) → IntsAre vs ns := by
  intro ns
  induction ns with
  | nil =>
    intro vs w
    rw [List.map_nil] at w
    cases w
    exact .nil
  | cons n ns ih =>
    intro vs w
    rw [List.map_cons] at w
    cases w with
    | cons a b =>
      cases a
      exact .cons _ _ (ih _ b)

theorem script_of {l : OpenLaw} {n : Nat} (hn : l.most = some n) {P : Params} {h : Heap} {args : List WData} {vals : List Value}
    (hpre : l.row.toRowW.claim.pre args = true) (hwl : WellAll P h vals args) :
    ∃ a vs ns, vals = [Value.ref a] ∧ args = [WData.list (ns.map WData.int)] ∧ h.get? a = some { cls := .type "list", data := .seq vs.toArray } ∧ IntsAre vs ns ∧ ns.length ≤ n := by
  have hsh : WShape.hasAll [] args [.list .int] = true := (pre_splitW hpre).1
  have hc : l.pre.holds [] { args := args } = true := (pre_splitW hpre).2
  obtain ⟨d, r, rfl, h1, h2⟩ := hasAllW_cons hsh
  obtain rfl := hasAllW_nil h2
  obtain ⟨xs, rfl, h3⟩ := hasW_list h1
  obtain ⟨ns, rfl⟩ := items_int h3
  have hlen : ns.length ≤ n := by
    unfold OpenLaw.pre at hc
    have h4 : (WTm.not (.lt (.lit (.int (n : Int))) (.len (.arg 0)))).holds [] { args := [.list (ns.map .int)] } = true := by
      have h4 := (holds_andW hc).1
      rw [hn] at h4
      exact h4
    have h5 := condW_of h4 (w_not (w_lt w_lit (w_len_list (w_arg rfl))))
    rw [List.length_map] at h5
    refine Nat.le_of_not_lt fun q => ?_
    have q' : (n : Int) < ((ns.length : Nat) : Int) := by omega
    first
      | (rw [decide_eq_true q'] at h5; exact absurd h5 (by decide))
      | (simp at h5; omega)
  cases hwl with
  | cons w1 w2 =>
    cases w2
    cases w1 with
    | list ho hall => exact ⟨_, _, ns, rfl, rfl, ho, ints_of_wellAll ns _ hall, hlen⟩

theorem post_true (l : OpenLaw) (args : List WData) : l.row.toRowW.claim.post args (.bool true) args = true :=
  postW_of (r := l.row.toRowW) (X := (true == true))
    (show WShape.has [] (.bool true) .bool = true by first | rfl | decide | simp [WShape.has, WShape.arms, WShape.armsAll])
    (show (WTm.eq .res (.lit (.bool true))).value [] { args := args, res := some (.bool true), after := args } = some (.bool (true == true)) from w_eq_bool (w_res rfl) w_lit) rfl

theorem attach_call {l : OpenLaw} {n : Nat} {q : Program} {loose : List Str} {XP : (Str → Option Value) → Heap → Prop} {YP : World → Heap → Prop} {d : DefRec}
    (hn : l.most = some n) (hdf : d.params.defaults = [])
    (call : ∀ (w : World) (s₀ s₁ : Shared) (mg mb : Str → Option Value) (fa : Addr) (o : Obj) (pm cd doc : Value) (a : Addr) (vs : List Value) (ns : List Int),
      Ground q loose [] XP w s₀ mg mb s₁.heap → YP w s₁.heap →
      s₁.heap.get? fa = some o → o.data = .func (docDef d.name d.params d.body d.scope pm cd doc) → s₁.heap.CodeRec cd d.name → mg d.name = some (.ref fa) →
      s₁.heap.get? a = some { cls := .type "list", data := .seq vs.toArray } → IntsAre vs ns → ns.length ≤ n → s₁.gens = #[] →
      codeAny (model l.prog w) callerA (.call (.ref fa) ⟨[.ref a], []⟩) (fun r s' => r = .ok (.ret (.bool true)) ∧ OldK s₁.heap s'.heap ∧ s'.os = s₁.os ∧ AllBare s'.gens) s₁) :
    WalkO q loose XP YP l.row.toRowW d [] (fun f vs => PySem.call f vs) := by
  intro w s₀ s₁ mg mb G Y fa o pm cd doc dV kV ho hd hcd hD hmg hg args vals as hpre hlay hrd hwl hlo
  obtain rfl : dV = .none := Dflts.none hD hdf
  obtain rfl : kV = .none := Dflts.noKw hD
  obtain ⟨a, vs, ns, rfl, rfl, hobj, hints, hlen⟩ := script_of hn hpre hwl
  refine enter_call (codeAny_mono (call w s₀ s₁ mg mb fa o pm cd doc a vs ns G Y ho (fd_plain hd) hcd hmg hobj hints hlen hg) fun r s' hq => ?_)
  obtain ⟨rfl, h2, h3, h4⟩ := hq
  exact ⟨.inl ⟨.bool true, .bool true, [], rfl, fun _ => rfl, .bool true, post_true l _, fun _ => ⟨List.Pairwise.nil, fun _ hm => (nomatch hm)⟩⟩, h2, h3, h4⟩

section
variable {prog : Program} {w : World} {A : Around} {E : Value → Shared → Prop} {s : Shared} {K : Frag}

noncomputable def ledger (h : Heap) (L d : Addr) : List (Addr × Obj) := (List.range h.objs.size).filterMap fun a => if a = L ∨ a = d then none else (h.get? a).map fun o => (a, o)
end
end Att

namespace L2
open PySem PySem.Spec PyProof.Rows

theorem vals_ints {vs : List Value} {ns : List Int} (h : IntsAre vs ns) : Vals (ns.map V.int) vs := by
  induction h with
  | nil => exact .nil
  | cons n t _ ih => exact .cons ⟨t, rfl⟩ ih
noncomputable def Only (H : Hp) : Prop := ∀ b, H b = none ∨ ∃ o xs, H b = some (.frz o (.lst xs))

theorem law_call {P : Program} {w : World} {K : PySem.W.Frag} {mg mb : Str → Option Value} {CX : CXT} {k : Nat} {fa a : Addr} {fd : FuncData} {x : Str} {sp : Sp} {s₁ : Shared} {vs : List Value} {ns : List Int}
    (KX : K.In s₁.heap) (hns : s₁.heap.Ns mainGlobals mg) (hb : s₁.heap.Ns builtinsNs mb) (hbb : ∀ x : Str, x ≠ "__name__" → mb x = bootBuiltins x) (hlim : s₁.heap.NoLimit) (hg : s₁.gens = #[])
    (ha : s₁.heap.get? a = some { cls := .type "list", data := .seq vs.toArray }) (hi : IntsAre vs ns) (hl : ns.length ≤ sizeLine) (hr : Room k callerA)
    (F : ∀ base : Heap, K.In base → base.Ns mainGlobals mg → FnOk P w K mg base CX k fa fd [x] sp) (hbind : ∀ (s : Shared) (u : Value), BindsTo s fd ⟨[u], []⟩ [(x, u)])
    (hsp : ∀ H : Hp, Only H → SqL K H a (ns.map V.int) → sp [.ref a] H (fun v _ => v = .bl true) fun _ _ _ => False)
    (hCX : ∀ H e s', CX [] H s₁ (fun _ _ _ => False) e s' → False) :
    codeAny (model P w) callerA (.call (.ref fa) ⟨[.ref a], []⟩) (fun r s' => r = .ok (.ret (.bool true)) ∧ OldK s₁.heap s'.heap ∧ s'.os = s₁.os ∧ AllBare s'.gens) s₁ := by
  have rv := vals_ints hi
  have lenV := hi.length
  -- from an abstract heap in which nothing but the script may be tracked
  have core : ∀ H : Hp, Only H → SqL K H a (ns.map V.int) → HOk P w H s₁.heap → (∀ b, H b ≠ none → b = a) → (H a ≠ none → K.lookup a = none) →
      codeAny (model P w) callerA (.call (.ref fa) ⟨[.ref a], []⟩) (fun r s' => r = .ok (.ret (.bool true)) ∧ OldK s₁.heap s'.heap ∧ s'.os = s₁.os ∧ AllBare s'.gens) s₁ := by
    intro H hO hS hok hA hK
    have base_of : ∀ {b : Addr} {o : Obj}, s₁.heap.get? b = some o → H b = none → (hidT s₁.heap H).get? b = some o := fun e n => hidT_get e n
    have noA : ∀ {b : Addr} {o : Obj} {es : Array DictEntry} {ep : Nat}, s₁.heap.get? b = some o → o.data = .dict es ep → H b = none := fun {b o es ep} e d => by
      cases q : H b with
      | none => rfl
      | some u =>
        have e' : b = a := hA b (by rw [q]; simp)
        subst e'
        rw [ha] at e; cases e
        have d' : Data.seq vs.toArray _ = Data.dict es ep := d
        cases d'
    have nsK : ∀ {b : Addr} {m : Str → Option Value}, s₁.heap.Ns b m → (hidT s₁.heap H).Ns b m := fun {b m} ⟨o, es, ep, e, d, r⟩ => ⟨o, es, ep, base_of e (noA e d), d, r⟩
    have hKb : K.In (hidT s₁.heap H) := fun b o e => base_of (KX b o e) (by
      cases q : H b with
      | none => rfl
      | some u =>
        have e' : b = a := hA b (by rw [q]; simp)
        subst e'
        rw [hK (by rw [q]; simp)] at e; cases e)
    have hM : Mod K mg (hidT s₁.heap H) := ⟨hKb, nsK hns, ⟨mb, nsK hb, hbb⟩, let ⟨mc, h1, h2⟩ := hlim; ⟨mc, nsK h1, h2⟩⟩
    have e0 : Env0 P w K mg (hidT s₁.heap H) callerA [] s₁ H := ⟨rfl, hM, fun b o e => of_hidT e, Nat.le_of_eq (hidT_size _ _), trivial, fun b hb => absurd (show b ∈ ([] : List Addr) from hb) (by simp), hok, .of_eq hg⟩
    refine codeAny_mono ((F _ hKb (nsK hns)).run callerA [] s₁ H ⟨[.ref a], []⟩ [.ref a] [.ref a] _ _ hr e0 (hbind s₁ (.ref a)) (.cons rfl .nil) (hsp H hO hS)) fun r s' h => ?_
    cases r with
    | error e => exact (hCX H e s' h).elim
    | ok fl =>
      cases fl with
      | next => exact False.elim h
      | brk => exact False.elim h
      | cont => exact False.elim h
      | ret u =>
        obtain ⟨v, H', os, bare, un, hok', r', q⟩ := h
        have q' : v = .bl true := q
        subst q'
        obtain rfl : u = Value.bool true := r'
        refine ⟨rfl, OldK.of_keep fun b o e => ?_, os, bare⟩
        cases q : H b with
        | none => exact un.keep b o e q (by intro z; exact absurd (show b ∈ ([] : List Addr) from z) (by simp)) (by simp)
        | some u =>
          rcases hO b with z | ⟨ob, xs, z⟩
          · rw [q] at z; cases z
          · have z2 := un.frzs b ob _ z
            obtain ⟨e1, _⟩ := hok b _ z
            obtain ⟨e2, _⟩ := hok' b _ z2
            rw [e] at e1; cases e1
            exact e2
  cases hk : K.lookup a with
  | some o =>
    -- the script is one of the module's own objects
    have e := KX a o hk
    rw [ha] at e
    cases e
    refine core (fun _ => none) (fun _ => .inl rfl) (.inr ⟨_, vs.toArray, _, hk, rfl, rfl, rfl, by rw [List.size_toArray, lenV]; exact hl, by simpa using rv⟩) (fun b u z => by have z' : (none : Option HO) = some u := z; cases z') (fun b z => absurd rfl z) fun z => absurd rfl z
  | none =>
    refine core (fun b => if b = a then some (.frz { cls := .type "list", data := .seq vs.toArray } (.lst (ns.map V.int))) else none) (fun b => ?_) (.inl (.inr ⟨{ cls := .type "list", data := .seq vs.toArray }, if_pos rfl⟩)) (fun b u z => ?_) (fun b z => ?_) fun _ => hk
    · by_cases hb : b = a
      · exact .inr ⟨_, _, if_pos hb⟩
      · exact .inl (if_neg hb)
    · by_cases hb : b = a
      · have z' := (if_pos hb).symm.trans z
        cases z'
        subst hb
        exact ⟨ha, by rw [List.length_map]; exact hl, vs, _, rv, ha⟩
      · have z' := (if_neg hb).symm.trans z
        cases z'
    · by_cases hb : b = a
      · exact hb
      · exact absurd (if_neg hb) z
end L2

namespace L2
open PySem PySem.Spec PyProof.Rows

noncomputable abbrev KOf {K : PySem.W.Frag} {h : Heap} (_ : K.In h) : PySem.W.Frag := K

theorem walk_of {l : PySem.W.OpenLaw} {n k : Nat} {q : Program} {loose : List Str} {XP : (Str → Option Value) → Heap → Prop} {YP : World → Heap → Prop} {d : DefRec} {K : Params → PySem.W.Frag} {CX : World → CXT} {sp : World → Sp} {x : Str}
    (hn : l.most = some n) (hn2 : n ≤ sizeLine) (hdf : d.params.defaults = []) (hr : Room k callerA)
    (hY : ∀ (w : World) (h : Heap), YP w h → (K w.params).In h)
    (F : ∀ (w : World) (mg : Str → Option Value) (fa : Addr) (h : Heap), (K w.params).In h → h.Ns mainGlobals mg → mg d.name = some (.ref fa) →
      ∃ fd : FuncData, (∀ (s : Shared) (u : Value), BindsTo s fd ⟨[u], []⟩ [(x, u)]) ∧
        ∀ base : Heap, (K w.params).In base → base.Ns mainGlobals mg → FnOk l.prog w (K w.params) mg base (CX w) k fa fd [x] (sp w))
    (hsp : ∀ (w : World) (H : Hp) (a : Addr) (ns : List Int), ns.length ≤ n → Only H → SqL (K w.params) H a (ns.map V.int) → sp w [.ref a] H (fun v _ => v = .bl true) fun _ _ _ => False)
    (hCX : ∀ (w : World) (H : Hp) (s : Shared) (e : Value) (s' : Shared), CX w [] H s (fun _ _ _ => False) e s' → False) :
    PySem.W.WalkO q loose XP YP l.row.toRowW d [] (fun f vs => PySem.call f vs) := by
  refine Att.attach_call hn hdf fun w s₀ s₁ mg mb fa o pm cd doc a vs ns G Y ho hd hcd hmg hobj hints hlen hg => ?_
  have KX := hY w _ Y
  obtain ⟨fd, hb, hF⟩ := F w mg fa _ KX G.T.g hmg
  exact law_call KX G.T.g G.T.b G.T.builtins G.T.nolimit hg hobj hints (Nat.le_trans hlen hn2) hr hF hb (fun H hO hS => hsp w H a ns hlen hO hS) fun H e s' => hCX w H s₁ e s'
end L2

/- THE LAST THEOREM (shape; LID, My.* are yours):
   My.Adr: a structure of the addresses that your layer names (classes, functions); My.Txt K t: a structure (Prop) of the equations over K;
   My.txt_mk : {K} {implicit addresses ..} (e1 : nsIn K mainGlobals "law" = some (some (.ref f))) (e2 : K.lookup f = some ⟨oc, od, .func (fnOf "law" "law" params body scope dV kV doc pm an cdv ct), sl⟩) (e3 : codeIn K cdv "law" = true) .. : ∃ t, My.Txt K t

set_option maxRecDepth 100000 in
set_option maxHeartbeats 0 in
theorem PySem.Challenge.cw_LID_holds : PySem.Challenge.rw_LID.Holds := by
  w_on; o_law; k_head; (case hw => w_witness2)
  k_fill
  refine L2.walk_of (l := PySem.Challenge.rw_LID) (n := 63) (k := 40) (x := "script") (CX := fun w => ..) (sp := fun _ => My.sp_law) rfl (by decide) rfl ⟨rfl, by decide, by decide⟩ (fun w h Y => PySem.W.kIn_of Y) ?F ?S ?C
  case F =>
    intro w mg fa h KX G hmg
    have T : ∃ t, My.Txt (L2.KOf KX) t := by
      dsimp only [L2.KOf]                          -- K must stand as «<heap const> w.params» for k_is
      refine' My.txt_mk ?e1 ?e2 ?e3 ..
      (case e1 => PySem.W.k_is)                    -- in the order: a name -> its address -> its object -> its parts
      (case e2 => PySem.W.k_is)
      ..
    obtain ⟨t, T⟩ := T
    have e0 := hmg.symm.trans (PySem.W.mg_of KX G T.law)
    cases e0                                       -- fa is the law's own address
    exact ⟨_, fun s u => .of_eq rfl, fun base kb nb => My.law_fn T kb nb⟩     -- if «.of_eq rfl» comes too early: refine' ⟨_, ?b, fun base kb nb => My.law_fn T kb nb⟩; exact fun s u => .of_eq rfl
  case S => exact fun w H a ns hl hO hS => ..
  case C => exact ..
(the tactic k_is has no namespace: write k_is) -/

namespace L2
open PySem PySem.Spec PyProof.Rows

noncomputable def defArgs (s : Stmt) : Arguments := match s with
  | .FunctionDef _ a _ _ _ _ _ _ _ _ => a
  | _ => { posonlyargs := [], args := [], vararg := none, kwonlyargs := [], kw_defaults := [], kwarg := none, defaults := [] }
noncomputable def defBody (s : Stmt) : List Stmt := match s with
  | .FunctionDef _ _ b _ _ _ _ _ _ _ => b
  | _ => []
noncomputable def defScope (s : Stmt) : Scope := match s with
  | .FunctionDef _ _ _ _ _ _ sc _ _ _ => sc
  | _ => { kind := .function, names := [], isGenerator := false, isCoroutine := false }

noncomputable abbrev CX0 : CXT := fun _ _ _ _ _ _ => False
noncomputable abbrev E0 : XK := fun _ _ _ => False
theorem pass0 {X : Cx} : Passes CX0 X E0 := fun _ _ _ _ _ _ _ h => h.elim

structure Fun (K : PySem.W.Frag) (x qual : Str) (st : Stmt) (f : Addr) (fd : FuncData) : Prop where
  ex : ∃ (oc : Value) (od : Option Addr) (kV doc pm : Value) (an : Option Addr) (cdv ct : Value) (osl : Array (Option Value)),
    fd = PySem.W.fnOf x qual (defArgs st) (defBody st) (defScope st) .none kV doc pm an cdv ct ∧ K.lookup f = some ⟨oc, od, .func fd, osl⟩ ∧ PySem.W.codeIn K cdv qual = true
  kp : PySem.W.keepIn K (.ref f) = true
section
variable {P : Program} {w : World} {K : PySem.W.Frag} {mg : Str → Option Value} {base : Heap}
theorem Fun.ok {x qual : Str} {st : Stmt} {f : Addr} {fd : FuncData} {N ps : List Str} {k : Nat} {sp : Sp} (F : Fun K x qual st f fd) (S : FnScope N ps (defScope st)) (len : ∀ vs H Q E, sp vs H Q E → vs.length = ps.length)
    (hbody : ∀ (cdv : Value) (A : Around) (outer : List Env) (s : Shared) (H : Hp) (vs : List V) (Q : VK) (E : XK), Room k (A.deeper (envOfC qual (defScope st) s.heap.objs.size f cdv)) → sp vs H Q E →
      ∃ t, PSs (cxOf CX0 P w K mg base N qual (defScope st) f cdv A outer s H E).nox (defBody st) t ∧ t { nx := fun _ H' => Q .non H', rt := Q } (start N vs) H) : FnOk P w K mg base CX0 (k + 1) f fd ps sp := by
  obtain ⟨oc, od, kV, doc, pm, an, cdv, ct, osl, rfl, lk, hcd⟩ := F.ex
  refine fn_of lk hcd S len fun A outer s H vs Q E hr hsp => ?_
  obtain ⟨t, h, q⟩ := hbody cdv A outer s H vs Q E hr hsp
  exact ⟨t, h.nox, q⟩
theorem Fun.binds {x qual : Str} {st : Stmt} {f : Addr} {fd : FuncData} {ps : List Str} (F : Fun K x qual st f fd)
    (h : ∀ (kV doc pm : Value) (an : Option Addr) (cdv ct : Value) (us : List Value), us.length = ps.length → bindArgs (PySem.W.fnOf x qual (defArgs st) (defBody st) (defScope st) .none kV doc pm an cdv ct) ⟨us, []⟩ = pure (ps.zip us)) : Binds K fd ps [] := by
  obtain ⟨oc, od, kV, doc, pm, an, cdv, ct, osl, rfl, lk, hcd⟩ := F.ex
  exact .all (h kV doc pm an cdv ct)
theorem fun_mk {x qual : Str} {st : Stmt} {f : Addr} {oc : Value} {od an : Option Addr} {osl : Array (Option Value)} {kV doc pm cdv ct : Value} (l : K.lookup f = some ⟨oc, od, .func (PySem.W.fnOf x qual (defArgs st) (defBody st) (defScope st) .none kV doc pm an cdv ct), osl⟩)
    (c : PySem.W.codeIn K cdv qual = true) (k : PySem.W.keepIn K (.ref f) = true) : Fun K x qual st f (PySem.W.fnOf x qual (defArgs st) (defBody st) (defScope st) .none kV doc pm an cdv ct) := ⟨⟨oc, od, kV, doc, pm, an, cdv, ct, osl, rfl, l, c⟩, k⟩
end
section
variable {X : Cx}
theorem pv (i : Nat) {x : Str} {pos : Pos} (hN : X.N[i]? = some x := by rfl) (hv : Vis X.env.scope x := by first | exact Or.inl rfl | exact Or.inr (Or.inl rfl) | exact Or.inr (Or.inr rfl)) (hd : (x == ("__debug__" : Str)) = false := by decide)
    (hcd : (x == ("__classdict__" : Str)) = false := by decide) : PE X (.Name x pos) (tVar i) := pe_var hN hv hd hcd
end

theorem iteF {A B : Prop} (h : B) : if false = true then A else B := by
  rw [if_neg Bool.false_ne_true]
  exact h
theorem iteT {A B : Prop} (h : A) : if true = true then A else B := by
  rw [if_pos rfl]
  exact h
theorem ite2 {c A B : Prop} [Decidable c] (h1 : c → A) (h2 : ¬ c → B) : if c then A else B := by
  by_cases h : c
  · rw [if_pos h]
    exact h1 h
  · rw [if_neg h]
    exact h2 h
theorem iteNS {c A B : Prop} [Decidable c] (hc : c) (h : B) : if (!decide c) = true then A else B := by
  rw [decide_eq_true hc]
  exact iteF h

noncomputable def Same (H H' : Hp) : Prop := ∀ b o, H b = some o → H' b = some o
theorem Same.refl (H : Hp) : Same H H := fun _ _ h => h
theorem Same.trans {H H1 H2 : Hp} (a : Same H H1) (b : Same H1 H2) : Same H H2 := fun c o h => b c o (a c o h)
theorem Same.free {H H' : Hp} (e : Same H H') {l : Addr} (h : H' l = Option.none) : H l = Option.none := by
  cases q : H l with
  | none => rfl
  | some o =>
    rw [e l o q] at h
    cases h
theorem Same.seq {K : PySem.W.Frag} {H H' : Hp} {a : Addr} {xs : List V} (e : Same H H') (h : SqL K H a xs) : SqL K H' a xs := by
  rcases h with (h | ⟨o, h⟩) | h
  · exact .inl (.inl (e _ _ h))
  · exact .inl (.inr ⟨o, e _ _ h⟩)
  · exact .inr h

end L2

set_option maxHeartbeats 4000000
namespace L2
open PySem PySem.Spec PyProof.Rows

theorem forIn_by {al be : Type} {l : List al} {f : al → be → Sem (ForInStep be)} (R : List al → be → Prop) : ∀ (pre rest : List al) (c : be), l = pre ++ rest → R pre c →
    (∀ pre x post c, l = pre ++ x :: post → R pre c → ∃ d, f x c = pure (.yield d) ∧ R (pre ++ [x]) d) → ∃ d, forIn rest c f = pure d ∧ R l d
  | pre, [], c, e, h0, _ => ⟨c, rfl, by rw [e, List.append_nil]; exact h0⟩
  | pre, x :: rest, c, e, h0, h => by
    obtain ⟨d, e1, r1⟩ := h pre x rest c e h0
    obtain ⟨d', e2, r2⟩ := forIn_by R (pre ++ [x]) rest d (by rw [e]; simp) r1 h
    exact ⟨d', by rw [List.forIn_cons, e1, pure_bind]; exact e2, r2⟩

theorem clos_get {scope : Scope} {env : Env} (h : ∀ y, (y, NameKind.free) ∈ scope.names → ∃ c, env.cells.lookup y = some c) :
    ∃ cl, closureFor scope env = pure cl ∧ (∀ y c, cl.lookup y = some c → env.cells.lookup y = some c) ∧ ∀ y, (y, NameKind.free) ∈ scope.names → ∃ c, cl.lookup y = some c := by
  have key := forIn_by (l := scope.names) (be := List (Str × Addr)) (f := fun x r => if (x.2 == NameKind.free) = true then do let a ← cellOf env x.1; pure (ForInStep.yield ((x.1, a) :: r)) else pure (ForInStep.yield r))
    (fun pre cs => (∀ y c, cs.lookup y = some c → env.cells.lookup y = some c) ∧ ∀ y, (y, NameKind.free) ∈ pre → ∃ c, cs.lookup y = some c) [] scope.names [] (by simp)
    ⟨fun y c e => by simp at e, fun y hy => by simp at hy⟩ (by
      rintro pre ⟨n, k⟩ post cs e ⟨r1, r2⟩
      by_cases hk : k = NameKind.free
      · subst hk
        obtain ⟨c, hc⟩ := h n (by rw [e]; simp)
        refine ⟨(n, c) :: cs, ?_, fun y d q => ?_, fun y hy => ?_⟩
        · have hco : cellOf env n = pure c := by unfold cellOf; rw [hc]
          simp only [beq_self_eq_true, if_true, hco, pure_bind]
        · by_cases hy : y = n
          · subst hy
            rw [List.lookup_cons, beq_self_eq_true] at q
            cases q; exact hc
          · have hb : (y == n) = false := by simpa using hy
            rw [List.lookup_cons, hb] at q
            exact r1 y d q
        · by_cases hn : y = n
          · exact ⟨c, by rw [hn, List.lookup_cons, beq_self_eq_true]⟩
          · have hb : (y == n) = false := by simpa using hn
            rw [List.lookup_cons, hb]
            refine r2 y ?_
            rcases List.mem_append.mp hy with z | z
            · exact z
            · simp at z; exact absurd z hn
      · refine ⟨cs, ?_, r1, fun y hy => r2 y ?_⟩
        · have hb : (k == NameKind.free) = false := by simpa using hk
          simp only [hb, Bool.false_eq_true, if_false]
        · rcases List.mem_append.mp hy with z | z
          · exact z
          · simp at z; exact absurd z.2.symm hk)
  obtain ⟨cl, e, r⟩ := key
  refine ⟨cl, ?_, r⟩
  have e' : closureFor scope env = forIn scope.names ([] : List (Str × Addr)) (fun x r => if (x.2 == NameKind.free) = true then do let a ← cellOf env x.1; pure (ForInStep.yield ((x.1, a) :: r)) else pure (ForInStep.yield r)) := by
    simp only [closureFor, bind_pure]
  rw [e', e]

noncomputable def Cx.cmp (X : Cx) (N : List Str) (scope : Scope) (cl : List (Str × Addr)) (C : Addr) (s : Shared) (H : Hp) (fp : List Addr) : Cx where
  prog := X.prog
  w := X.w
  K := X.K
  mg := X.mg
  base := X.base
  A := X.A
  N := N
  s₀ := s
  H₀ := H
  env := compEnvC scope cl C X.env
  outer := X.stack
  stack := X.stack
  ex := fp
  fn := fun _ => false
  calm := X.calm
  pn := []
  xe := fun _ _ => False

theorem look_map {names : List (Str × NameKind)} {q : Str → NameKind → Bool} {y : Str} : (names.map fun (n, k) => if q n k = true then (n, NameKind.cell) else (n, k)).lookup y = (names.lookup y).map fun k => if q y k = true then NameKind.cell else k := by
  induction names with
  | nil => rfl
  | cons p r ih =>
    obtain ⟨n, k⟩ := p
    rw [List.map_cons]
    by_cases hy : y = n
    · subst hy
      by_cases hq : q y k = true
      · simp [List.lookup_cons, hq]
      · simp [List.lookup_cons, hq]
    · have hb : (y == n) = false := by simpa using hy
      by_cases hq : q n k = true
      · simp only [hq, if_true, List.lookup_cons, hb]; exact ih
      · simp only [hq, Bool.false_eq_true, if_false, List.lookup_cons, hb]; exact ih

section
variable {X : Cx} {pins : List (Addr × Obj)} {σ : St} {H : Hp} {s : Shared} {fp : List Addr} {scope : Scope} {cl : List (Str × Addr)} {N : List Str} {C : Addr}

structure CmpScope (X : Cx) (N : List Str) (scope : Scope) : Prop where
  kind : scope.kind = .function
  nocell : ∀ y ∈ scope.names, y.2 ≠ .cell
  loc : ∀ y ∈ scope.names, y.2 = .local → scope.names.lookup y.1 = some .local
  fre : ∀ y, scope.names.lookup y = some .free → X.env.kindOf y = some .cell
  fre2 : ∀ y, (y, NameKind.free) ∈ scope.names → X.env.kindOf y = some .cell
  nd : N.Nodup
  at0 : ∀ y, scope.names.lookup y = some .free → (y, NameKind.free) ∈ scope.names

theorem cmp_ok (S : CmpScope X N scope) (I : Inv X pins σ H s) (hf : ∀ b ∈ fp, FpOk X pins H b) (ho : ∀ b ∈ fp, ∃ o, s.heap.get? b = some o) (hcl : ∀ y c, cl.lookup y = some c → X.env.cells.lookup y = some c)
    (hcf : ∀ y, (y, NameKind.free) ∈ scope.names → ∃ c, cl.lookup y = some c) (hC : s.heap.objs.size ≤ C) : (X.cmp N scope cl C s H fp).Ok where
  mod := I.ok.mod
  kind := S.kind
  glob := I.ok.glob
  blt := I.ok.blt
  above := hC
  inj := fun x y c h1 h2 => I.ok.inj x y c (hcl x c h1) (hcl y c h2)
  has := fun y hy => by
    have hy' : (relabel scope X.env).names.lookup y = some .cell ∨ (relabel scope X.env).names.lookup y = some .free := hy
    have e : (relabel scope X.env).names.lookup y = (scope.names.lookup y).map fun k => if (k == .free && X.env.scope.kind == .function && X.env.kindOf y == some .cell) = true then NameKind.cell else k :=
      look_map (q := fun n k => k == .free && X.env.scope.kind == .function && X.env.kindOf n == some .cell)
    rw [e] at hy'
    cases q : scope.names.lookup y with
    | none => rw [q] at hy'; simp at hy'
    | some k =>
      by_cases hk : k = NameKind.free
      · subst hk
        exact hcf y (S.at0 y q)
      · exfalso
        have hb : (k == NameKind.free) = false := by simpa using hk
        rw [q] at hy'
        simp only [Option.map_some, hb, Bool.false_and, Bool.false_eq_true, if_false, Option.some.injEq] at hy'
        rcases hy' with z | z
        · exact S.nocell _ (PySem.mem_of_lookup q) z
        · exact hk z
  cab := fun y c h _ => nomatch h
  hd := I.ok.hd
  frames := I.ok.frames
  stk := .inl rfl
  exf := fun b hb => by
    obtain ⟨o, e⟩ := ho b hb
    obtain ⟨_, _, _, _, f4, _⟩ := hf b hb
    exact ⟨Nat.ne_of_lt (Nat.lt_of_lt_of_le (Heap.lt_size e) hC), fun x c q => f4 x c (hcl x c q)⟩
  bs := I.bs
  bsz := Nat.le_trans I.ok.bsz I.sz
  noex := fun b o e hb => by
    obtain ⟨_, _, _, f3, _, _⟩ := hf b hb
    rcases f3 with z | z
    · exact I.ok.noex b o e z
    · exact absurd (Nat.lt_of_lt_of_le (Heap.lt_size e) (Nat.le_trans I.ok.bsz z)) (Nat.lt_irrefl _)
  exfs := fun b hb z => by
    obtain ⟨_, f1, f2, _⟩ := hf b hb
    rcases List.mem_cons.mp (I.stkSub b z) with e | e
    · exact f1 e
    · exact f2 e
  funs := I.stack
  frf := I.stkFree

noncomputable def freeSt (k : Nat) (fr : List Nat) (σ : St) : St := List.replicate k none ++ fr.map fun i => (σ[i]?).join

structure CmpFree (X : Cx) (N : List Str) (scope : Scope) (k : Nat) (fr : List Nat) : Prop where
  len : N.length = k + fr.length
  at1 : ∀ (j i : Nat) (y : Str), fr[j]? = some i → N[k + j]? = some y → X.N[i]? = some y ∧ scope.names.lookup y = some .free

theorem cmp_start (S : CmpScope X N scope) {k : Nat} {fr : List Nat} (F : CmpFree X N scope k fr) (I : Inv X pins σ H s) (hf : ∀ b ∈ fp, FpOk X pins H b) (ho : ∀ b ∈ fp, ∃ o, s.heap.get? b = some o)
    (hcl : ∀ y c, cl.lookup y = some c → X.env.cells.lookup y = some c) (hcf : ∀ y, (y, NameKind.free) ∈ scope.names → ∃ c, cl.lookup y = some c) (hC : s.heap.objs.size ≤ C)
    {s1 : Shared} {m : Str → Option Value} {D : Addr} {oD : Obj} (hos : s1.os = s.os) (hg : s1.gens = s.gens) (kp : ∀ b o, s.heap.get? b = some o → s1.heap.get? b = some o) (hn : s1.heap.Ns C m)
    (hD : s1.heap.get? D = some oD) (hD0 : s.heap.objs.size ≤ D) (hDC : D ≠ C) (hdc : ∀ v, oD.data ≠ .cell v) :
    Inv (X.cmp N scope cl C s H fp) [(D, oD)] (freeSt k fr σ) H s1 := by
  have hfs : D ∉ frs X.stack := fun z => by
    obtain ⟨_, o, q, _⟩ := I.stack.mem z
    exact absurd (Nat.lt_of_lt_of_le (Heap.lt_size q) hD0) (Nat.lt_irrefl _)
  refine ⟨cmp_ok S I hf ho hcl hcf hC, hos, by rw [hg]; exact I.bare, Un.kept kp, ⟨m, hn, fun i x v e1 e2 e3 => ?_⟩, fun y c e => ?_, I.hok.fresh hC, fun y c e => I.freeC y c (hcl y c e), fun p hp => ?_, I.hok.kept kp, ?_⟩
  · -- a name that has a value is a free one
    unfold freeSt at e2
    by_cases hi : i < k
    · rw [List.getElem?_append_left (by simpa using hi), List.getElem?_replicate] at e2
      split at e2 <;> cases e2
    · obtain ⟨j, rfl⟩ : ∃ j, i = k + j := ⟨i - k, by omega⟩
      rw [List.getElem?_append_right (by simp), List.length_replicate, Nat.add_sub_cancel_left, List.getElem?_map] at e2
      cases q : fr[j]? with
      | none => rw [q] at e2; cases e2
      | some i' =>
        rw [q] at e2
        have e2' : (σ[i']?).join = some v := Option.some.inj e2
        obtain ⟨a1, a2⟩ := F.at1 j i' x q e1
        have hk := S.fre x a2
        obtain ⟨m0, hn0, hl0⟩ := I.loc
        have hv : σ[i']? = some (some v) := by
          cases z : σ[i']? with
          | none => rw [z] at e2'; cases e2'
          | some w => rw [z] at e2'; rw [show w = some v from e2']
        obtain ⟨u, r, l⟩ := hl0 i' x v a1 hv (.inr (.inl hk))
        refine ⟨u, r, .inr ⟨.inl ?_, ?_⟩⟩
        · show (relabel scope X.env).names.lookup x = some .cell
          have e : (relabel scope X.env).names.lookup x = (scope.names.lookup x).map fun k => if (k == .free && X.env.scope.kind == .function && X.env.kindOf x == some .cell) = true then NameKind.cell else k :=
            look_map (q := fun n k => k == .free && X.env.scope.kind == .function && X.env.kindOf n == some .cell)
          rw [e, a2, hk, I.ok.kind]
          rfl
        · obtain ⟨c, hc⟩ := hcf x (S.at0 x a2)
          refine ⟨c, hc, ?_⟩
          rcases l with ⟨z, _⟩ | ⟨_, c', hc', z⟩
          · rw [hk] at z; cases z
          · have ec := hcl x c hc
            rw [hc'] at ec; cases ec
            obtain ⟨o, ho, hd⟩ := z
            exact ⟨o, kp _ _ ho, hd⟩
  · obtain ⟨v, o, q, d⟩ := I.cell y c (hcl y c e)
    exact ⟨v, o, kp _ _ q, d⟩
  · have hp' : p = (D, oD) := by simpa [Cx.cmp] using hp
    subst hp'
    exact ⟨hD, I.hok.fresh hD0, hDC, hfs, hdc⟩
  · unfold freeSt
    show _ = N.length
    rw [List.length_append, List.length_replicate, List.length_map, F.len]

noncomputable abbrev lstO (its : List Value) (n : Nat) : Obj := { cls := .type "list", data := .seq its.toArray n }

theorem cmp_back {σ' : St} {H' : Hp} {s' : Shared} {D : Addr} {its : List Value} {n : Nat} {ys : List V} (I : Inv X pins σ H s) (hf : ∀ b ∈ fp, FpOk X pins H b) (J : Inv (X.cmp N scope cl C s H fp) [(D, lstO its n)] σ' H' s') (r : Vals ys its)
    (hz : ys.length ≤ sizeLine) (hD0 : s.heap.objs.size ≤ D) : H' D = none ∧ Inv X pins σ (upd H' D (.lst ys)) s' := by
  obtain ⟨e1, hn, _, _, _⟩ := J.pin (D, lstO its n) (by simp [Cx.cmp])
  have e1 : s'.heap.get? D = some (lstO its n) := e1
  have hn : H' D = none := hn
  have u := J.base
  have neD : ∀ b o, s.heap.get? b = some o → b ≠ D := fun b o q => Nat.ne_of_lt (Nat.lt_of_lt_of_le (Heap.lt_size q) hD0)
  have u' : Un (frs X.stack) fp H (upd H' D (.lst ys)) s.heap s'.heap :=
    ⟨u.keep, u.slot, fun b o q z hx => by rw [upd_ne (neD b o q)]; exact u.free b o q z hx, u.there, fun b xs q => by rw [upd_ne (ne_of_none (u.tups b xs q) hn)]; exact u.tups b xs q,
      fun b o x q => by rw [upd_ne (ne_of_none (u.frzs b o x q) hn)]; exact u.frzs b o x q, fun b ps q => by
        obtain ⟨more, z⟩ := u.tbls b ps q
        exact ⟨more, by rw [upd_ne (ne_of_none z hn)]; exact z⟩⟩
  have hok : HOk X.prog X.w (upd H' D (.lst ys)) s'.heap := fun b o q => by
    by_cases hb : b = D
    · subst hb
      rw [upd_same] at q
      cases q
      exact ⟨hz, its, n, r, e1⟩
    · rw [upd_ne hb] at q
      exact (J.hok b o q).stay (fun c v _ z => z) (fun c z => by rw [upd_ne (ne_of_none z hn)]; exact z) fun c xs z => by rw [upd_ne (ne_of_none z hn)]; exact z
  refine ⟨hn, ?_⟩
  have os := J.os
  have bare := J.bare
  obtain ⟨hh, g, d, t, os'⟩ := s'
  obtain rfl : os' = s.os := os
  exact I.call (h' := hh) (g' := g) (d' := d) (t' := t) (ch := fp) u' hok bare fun b hb => by
    obtain ⟨_, f1, _, f3, f4, f5⟩ := hf b hb
    exact ⟨f3, f1, f4, f5⟩
end
end L2
namespace L2
open PySem PySem.Spec PyProof.Rows

noncomputable def PF (X : Cx) (ifs : List Expr) (t : TT) : Prop :=
  ∀ (pins : List (Addr × Obj)) (s : Shared) (σ : St) (H : Hp) (Q : Bool → Hp → Prop), Inv X pins σ H s → t σ H Q →
    wpAny (model X.prog X.w) X.A (forIn ifs true fun c r => if r = true then do let ok ← isTrue c X.env (eval c X.env); pure (ForInStep.yield ok) else pure (ForInStep.yield r)) (TP X pins σ Q) X.xe s
noncomputable def tTrue : TT := fun _ H Q => Q true H
theorem pf_nil {X : Cx} : PF X [] tTrue := fun _ _ _ H _ I h => wpAny_tests_nil ⟨H, I, h⟩
theorem pf_one {X : Cx} {c : Expr} {tc : TT} (hc : PT X c tc) : PF X [c] tc := fun pins s σ H Q I h => wpAny_tests_one (hc pins s σ H Q I h)

section
variable {prog : Program} {w : World} {A : Around}
theorem noE {al : Type} {t : Sem al} {Q : al → Shared → Prop} {E : Value → Shared → Prop} {s : Shared} (h : wpAny (model prog w) A t Q (fun _ _ => False) s) : wpAny (model prog w) A t Q E s :=
  wpAny_mono h (fun _ _ x => x) fun _ _ f => f.elim
theorem cmp_loop {R : Result → Shared → Prop} {s : Shared} {elt tg iter : Expr} {ifs : List Expr} {scope : Scope} {pos : Pos} {it acc : Value} {env : Env} (I : Nat → Shared → Prop)
    (turn : ∀ n s, I n s → wpAny (model prog w) A (pyNext it) (fun r s1 => (r = none ∧ R (.ok .next) s1) ∨ ∃ v, r = some v ∧
      wpAny (model prog w) A (letOwnedTupleGo tg it v) (fun _ s2 => wpAny (model prog w) A (assign tg env v) (fun _ s3 =>
        wpAny (model prog w) A (forIn ifs true fun c r => if r = true then do let ok ← isTrue c env (eval c env); pure (ForInStep.yield ok) else pure (ForInStep.yield r)) (fun ok s4 =>
          if ok = true then wpAny (model prog w) A (eval elt env) (fun x s5 =>
            wpAny (model prog w) A (call (.builtin "list.append") [acc, x]) (fun _ s6 => ∃ m, m < n ∧ I m s6) (fun _ _ => False) s5) (fun _ _ => False) s4
          else ∃ m, m < n ∧ I m s4) (fun _ _ => False) s3) (fun _ _ => False) s2) (fun _ _ => False) s1) (fun _ _ => False) s)
    (n : Nat) (h : I n s) : codeAny (model prog w) A (.compLoop (.ListComp elt [⟨tg, iter, ifs, 0⟩] scope pos) 0 it acc env) R s := by
  refine codeAny_loop rfl I (fun n s hI => ?_) n h
  show wpAny _ A ((compTurn (.ListComp elt [⟨tg, iter, ifs, 0⟩] scope pos) 0 it acc env).onRaise (fun x => do noteFrame x env; theTreesLotGoes x)) _ _ s
  refine wpAny_noted ?_
  rw [compTurn_list]
  refine wpAny_bind (wpAny_standAt (wpAny_bind (noE (thn (turn n s hI) fun r s1 h1 => ?_))))
  rcases h1 with ⟨rfl, h1⟩ | ⟨v, rfl, h1⟩
  · exact wpAny_pure h1
  · refine wpAny_bind (noE (thn h1 fun _ s2 h2 => wpAny_bind (noE (thn h2 fun _ s3 h3 => wpAny_bind (noE (thn h3 fun ok s4 h4 => ?_))))))
    cases ok with
    | false => exact wpAny_pure ⟨rfl, h4⟩
    | true => exact wpAny_bind (wpAny_bind (noE (thn h4 fun x s5 h5 => wpAny_bind (noE (thn h5 fun _ s6 h6 => wpAny_pure (wpAny_pure ⟨rfl, h6⟩))))))
end

noncomputable def GKeeps (k : Nat) (g : TG) : Prop := ∀ v σ H Q, g v σ H Q → g v σ H fun σ2 H2 => (σ2.length = σ.length ∧ ∀ i, k ≤ i → σ2[i]? = σ[i]?) ∧ Q σ2 H2
theorem gk_name {k i : Nat} (h : i < k) : GKeeps k (gName i) := fun v σ H Q q => ⟨⟨List.length_set, fun j hj => List.getElem?_set_ne (by omega)⟩, q⟩
noncomputable def tComp (k : Nat) (fr : List Nat) (wi : TI) (g : TG) (tc : TT) (te : TE) : TE := fun σ H Q => wi σ H fun J H1 => ∃ W : Nat → Nat → List V → Hp → Prop, (∃ m, W 0 m [] H1) ∧ ∀ i m ys H, W i m ys H →
  (J.stop i H ∧ ∀ D, H D = none → Q (.ref D) (upd H D (.lst ys))) ∨
  (J.go i H ∧ ys.length < sizeLine ∧ ∃ Nx : List V → Hp → Prop, (∀ ys' H', Nx ys' H' → ∃ m', m' < m ∧ W (i + 1) m' ys' H') ∧
    ∀ x H', J.yld i H x H' → g x (freeSt k fr σ) H' fun σ2 H2 => tc σ2 H2 fun b H3 => if b = true then te σ2 H3 fun y H4 => Nx (ys ++ [y]) H4 else Nx ys H3)

section
variable {X : Cx} {pins : List (Addr × Obj)} {σ : St} {tg elt iter : Expr} {ifs : List Expr} {scope : Scope} {pos : Pos} {N : List Str} {k : Nat} {fr : List Nat} {wi : TI} {g : TG} {tc : TT} {te : TE}

theorem cmp_block (S : CmpScope X N scope) (F : CmpFree X N scope k fr) (hc : X.calm = true)
    (hg : ∀ cl C s H fp, PG (X.cmp N scope cl C s H fp) tg g) (hk : GKeeps k g) (hi : ∀ cl C s H fp, PF (X.cmp N scope cl C s H fp) ifs tc) (he : ∀ cl C s H fp, PE (X.cmp N scope cl C s H fp) elt te)
    {s2 : Shared} {it : Addr} {fp : List Addr} {tn : Nat → Heap → Prop} {J : It} {H2 : Hp} (I : Inv X pins σ H2 s2) (T : Turn X.prog X.w X.K tg J fp it tn) (st : tn 0 s2.heap) (f2 : ∀ b ∈ fp, FpOk X pins H2 b)
    {W : Nat → Nat → List V → Hp → Prop} {m0 : Nat} (w0 : W 0 m0 [] H2) {Fin : List V → Hp → Prop}
    (turn : ∀ i m ys H, W i m ys H → (J.stop i H ∧ Fin ys H) ∨
      (J.go i H ∧ ys.length < sizeLine ∧ ∃ Nx : List V → Hp → Prop, (∀ ys' H', Nx ys' H' → ∃ m', m' < m ∧ W (i + 1) m' ys' H') ∧
        ∀ x H', J.yld i H x H' → g x (freeSt k fr σ) H' fun σ2 H2 => tc σ2 H2 fun b H3 => if b = true then te σ2 H3 fun y H4 => Nx (ys ++ [y]) H4 else Nx ys H3))
    {cl : List (Str × Addr)} (hcl : ∀ y c, cl.lookup y = some c → X.env.cells.lookup y = some c) (hcf : ∀ y, (y, NameKind.free) ∈ scope.names → ∃ c, cl.lookup y = some c)
    {RR : Value → Addr → Result → Shared → Prop} {E : Value → Shared → Prop}
    (hRR : ∀ D C s' its n ys H' σ', s2.heap.objs.size ≤ D → s2.heap.objs.size ≤ C → D ≠ C → Inv (X.cmp N scope cl C s2 H2 fp) [(D, lstO its n)] σ' H' s' → Vals ys its → ys.length ≤ sizeLine → Fin ys H' → RR (.ref D) C (.ok .next) s') :
    wpAny (model X.prog X.w) X.A (newList []) (fun acc s3 => wpAny (model X.prog X.w) X.A (newFunctionEnv scope X.env.globals cl [] X.env.qual none .none (some X.env)) (fun cenv s4 =>
      codeAny (model X.prog X.w) X.A (.compStart (.ListComp elt [⟨tg, iter, ifs, 0⟩] scope pos) 0 (.ref it) acc { cenv with scope := relabel scope X.env }) (RR acc cenv.locals) s4) E s3) E s2 := by
  refine wpAny_newObj_type (wpAny_newFunctionEnv S.nocell (by intro y hy; simp at hy) (fun h1 hns sb => ?_) S.kind)
  dsimp only at hns sb ⊢
  generalize hG : s2.heap.push { cls := .type "list", dict := none, data := .seq ([] : List Value).toArray } = G at hns sb ⊢
  have hC : G.objs.size = s2.heap.objs.size + 1 := by rw [← hG, Heap.size_push]
  have hDC : s2.heap.objs.size ≠ G.objs.size := by rw [hC]; exact Nat.ne_of_lt (Nat.lt_succ_self _)
  have old : ∀ b o, s2.heap.get? b = some o → h1.get? b = some o := fun b o e =>
    sb.extBut b o (by rw [hC]; exact Nat.ne_of_lt (Nat.lt_succ_of_lt (Heap.lt_size e))) (Heap.get?_push_of_some _ (hG ▸ Heap.get?_push_of_some _ e))
  have hacc : h1.get? s2.heap.objs.size = some (lstO [] 0) := sb.extBut _ _ hDC (Heap.get?_push_of_some _ (hG ▸ Heap.get?_push_size _ rfl))
  have hfo : ∀ b ∈ fp, ∃ o, s2.heap.get? b = some o := fun b hb => let ⟨o, e, _⟩ := T.obj 0 _ st b hb; ⟨o, e⟩
  have ltD : ∀ b ∈ fp, b ≠ s2.heap.objs.size := fun b hb => let ⟨o, e⟩ := hfo b hb; Nat.ne_of_lt (Heap.lt_size e)
  generalize hX : X.cmp N scope cl G.objs.size s2 H2 fp = X'
  have I0 : Inv X' [(s2.heap.objs.size, lstO [] 0)] (freeSt k fr σ) H2 { s2 with heap := h1, toks := s2.toks + ([] : List (Str × Value)).length } := by
    rw [← hX]
    exact cmp_start S F I f2 hfo hcl hcf (by rw [hC]; exact Nat.le_succ _) rfl rfl old hns hacc (Nat.le_refl _) hDC fun v z => by cases z
  have eP : X'.prog = X.prog := by rw [← hX]; rfl
  have eW : X'.w = X.w := by rw [← hX]; rfl
  have eK : X'.K = X.K := by rw [← hX]; rfl
  have eA : X'.A = X.A := by rw [← hX]; rfl
  have eC : X'.calm = true := by rw [← hX]; exact hc
  have eE : X'.env = compEnvC scope cl G.objs.size X.env := by rw [← hX]; rfl
  have eX : X'.xe = fun _ _ => False := by rw [← hX]; rfl
  have eF : X'.ex = fp := by rw [← hX]; rfl
  have eS : X'.s₀ = s2 := by rw [← hX]; rfl
  have ePn : X'.pn = [] := by rw [← hX]; rfl
  have T' : Turn X'.prog X'.w X'.K tg J fp it tn := by rw [eP, eW, eK]; exact T
  have hg' : PG X' tg g := by rw [← hX]; exact hg _ _ _ _ _
  have hi' : PF X' ifs tc := by rw [← hX]; exact hi _ _ _ _ _
  have he' : PE X' elt te := by rw [← hX]; exact he _ _ _ _ _
  have stat : ∀ {o : Obj} {H' : Hp}, (∀ b ∈ fp, H' b = none) → ∀ b ∈ fp, FpOk X' [(s2.heap.objs.size, o)] H' b := fun {o H'} hn b hb => by
    have ok := I0.ok
    obtain ⟨z1, z2⟩ := ok.exf b (by rw [eF]; exact hb)
    refine ⟨hn b hb, z1, ok.exfs b (by rw [eF]; exact hb), .inl (by rw [eF]; exact hb), z2, fun p hp => ?_⟩
    rw [ePn] at hp
    have hp' : p = (s2.heap.objs.size, o) := by simpa using hp
    rw [hp']
    exact fun z => ltD b hb z.symm
  -- back to the block's first names
  have back : ∀ {pl : List (Addr × Obj)} {σ6 : St} {H6 : Hp} {s6 : Shared}, Inv X' pl σ6 H6 s6 → (σ6.length = (freeSt k fr σ).length ∧ ∀ i, k ≤ i → σ6[i]? = (freeSt k fr σ)[i]?) → Inv X' pl (freeSt k fr σ) H6 s6 := fun {pl σ6 H6 s6} I6 ⟨l1, l2⟩ =>
    I6.weak l1.symm fun i v e => by
      by_cases hik : i < k
      · unfold freeSt at e
        rw [List.getElem?_append_left (by simpa using hik), List.getElem?_replicate] at e
        split at e <;> cases e
      · rw [l2 i (by omega)]; exact e
  have loop : codeAny (model X.prog X.w) X.A (.compLoop (.ListComp elt [⟨tg, iter, ifs, 0⟩] scope pos) 0 (.ref it) (.ref s2.heap.objs.size) (compEnvC scope cl G.objs.size X.env))
      (RR (.ref s2.heap.objs.size) G.objs.size) { s2 with heap := h1, toks := s2.toks + ([] : List (Str × Value)).length } := by
    rw [← eP, ← eW, ← eA, ← eE]
    refine cmp_loop (fun n s' => ∃ i ys its nn H', Inv X' [(s2.heap.objs.size, lstO its nn)] (freeSt k fr σ) H' s' ∧ Vals ys its ∧ ys.length ≤ sizeLine ∧ tn i s'.heap ∧ (∀ b ∈ fp, H' b = none) ∧ W i n ys H') ?_ m0
      ⟨0, [], [], 0, H2, I0, .nil, Nat.zero_le _, T.keep _ _ _ st fun b _ o e => old b o e, fun b hb => (f2 b hb).1, w0⟩
    rintro n s' ⟨i, ys, its, nn, H', I', rv, hz, st', fr', w'⟩
    rcases turn i n ys H' w' with ⟨stop, fin⟩ | ⟨go, hlt, Nx, hN, step⟩
    · refine thn (T'.done X' rfl rfl rfl eC i _ s' _ H' _ I' (stat fr') st' stop) fun r s1 ⟨hr, I1⟩ => .inl ⟨hr, ?_⟩
      rw [← hX] at I1
      exact hRR _ _ s1 its nn ys H' _ (Nat.le_refl _) (by rw [hC]; exact Nat.le_succ _) hDC I1 rv hz fin
    · refine thn (T'.item X' rfl rfl rfl eC i _ s' _ H' _ I' (stat fr') st' go) fun r s1 ⟨u, hr, h4⟩ => .inr ⟨u, hr, thn h4 fun _ s5 ⟨x, H5, I5, r5, y5, st5, fr5⟩ => ?_⟩
      have I5' := I5.pinned (stat fr5) (T.obj _ _ st5)
      have hgx := hg' _ s5 _ H5 x u _ I5' r5 (hk _ _ _ _ (step x H5 y5))
      rw [eX] at hgx
      refine thn hgx fun _ s6 ⟨σ6, H6, I6, l6, q6⟩ => ?_
      have hix := hi' _ s6 σ6 H6 _ I6 q6
      rw [eX] at hix
      have pinD : ∀ {σ7 : St} {H7 : Hp} {s7 : Shared}, Inv X' ([(s2.heap.objs.size, lstO its nn)] ++ pinsAt fp s5.heap) σ7 H7 s7 → s7.heap.get? s2.heap.objs.size = some (lstO its nn) ∧ H7 s2.heap.objs.size = none ∧ s2.heap.objs.size ≠ X'.env.locals := fun I7 => by
        obtain ⟨z1, z2, z3, _⟩ := I7.pin (s2.heap.objs.size, lstO its nn) (List.mem_append_right _ (List.mem_append_left _ (by simp)))
        exact ⟨z1, z2, z3⟩
      have iter2 : ∀ {σ7 : St} {H7 : Hp} {s7 : Shared}, Inv X' ([(s2.heap.objs.size, lstO its nn)] ++ pinsAt fp s5.heap) σ7 H7 s7 → tn (i + 1) s7.heap ∧ ∀ b ∈ fp, H7 b = none := fun {σ7 H7 s7} I7 =>
        ⟨T.keep _ _ _ st5 fun b hb o e => (I7.pin (b, o) (List.mem_append_right _ (List.mem_append_right _ (mem_pinsAt hb e)))).1, fun b hb => by
          obtain ⟨o, e, d⟩ := T.obj _ _ st5 b hb
          exact (I7.pin (b, o) (List.mem_append_right _ (List.mem_append_right _ (mem_pinsAt hb e)))).2.1⟩
      refine thn hix fun ok s7 ⟨H7, I7, q7⟩ => ?_
      cases ok with
      | false =>
        obtain ⟨m', hm, w7⟩ := hN _ _ (show Nx ys H7 from q7)
        obtain ⟨a1, a2⟩ := iter2 I7
        exact ⟨m', hm, i + 1, ys, its, nn, H7, back I7.unpinned l6, rv, hz, a1, a2, w7⟩
      | true =>
        have hex := he' _ s7 σ6 H7 _ I7 (show te σ6 H7 _ from q7)
        rw [eX] at hex
        refine thn hex fun v s8 ⟨y, H8, I8, r8, q8⟩ => ?_
        obtain ⟨z1, z2, z3⟩ := pinD I8
        obtain ⟨a1, a2⟩ := iter2 I8
        obtain ⟨m', hm, w8⟩ := hN _ _ q8
        have hl := rv.length
        refine append_at (hsz := by show its.toArray.size ≤ sizeLine; rw [List.size_toArray]; omega) z1 fun h9 sb9 hD9 => ?_
        have I8' : Inv X' (pinsAt fp s5.heap) (freeSt k fr σ) H8 s8 := (back I8 l6).pins_of fun p hp => I8.pin p (List.mem_append_right _ (List.mem_append_right _ hp))
        have I9 : Inv X' (pinsAt fp s5.heap) (freeSt k fr σ) H8 { s8 with heap := h9 } := I8'.turned (t' := s8.toks) (it := s2.heap.objs.size) (fun b o hb e => (sb9.2 b hb).trans e) z2 z3 (.inr (by rw [eS]; exact Nat.le_refl _))
          (fun y c e z => by
            obtain ⟨v', q⟩ := I0.cell y c e
            have hcl' : cl.lookup y = some c := by rw [eE] at e; exact e
            obtain ⟨v2, q2⟩ := I.cell y c (hcl y c hcl')
            rw [z] at q2
            exact absurd q2.lt (Nat.lt_irrefl _))
          (fun p hp z => by
            rw [ePn] at hp
            exact ltD p.1 (of_pinsAt hp).1 z)
        have I9' : Inv X' [(s2.heap.objs.size, lstO (its ++ [v]) (nn + 1))] (freeSt k fr σ) H8 { s8 with heap := h9 } := I9.pins_of fun p hp => by
          have hp' : p = (s2.heap.objs.size, lstO (its ++ [v]) (nn + 1)) := by simpa using hp
          rw [hp']
          refine ⟨?_, z2, z3, ?_, fun v z => by cases z⟩
          · show h9.get? _ = _
            rw [hD9]
            simp [lstO]
          · exact (I8.pin (s2.heap.objs.size, lstO its nn) (List.mem_append_right _ (List.mem_append_left _ (by simp)))).2.2.2.1
        refine ⟨m', hm, i + 1, ys ++ [y], its ++ [v], nn + 1, H8, I9', rv.append (.cons r8 .nil), by rw [List.length_append]; simp; omega, ?_, a2, w8⟩
        exact T.keep _ _ _ a1 fun b hb o e => (sb9.2 b (ltD b hb)).trans e
  exact codeAny_compStart_list loop (T.self _ 0 _ _ _ (T.keep _ _ _ st fun b _ o e => old b o e) loop)

theorem cmp_off {s2 s' : Shared} {fp : List Addr} {cl : List (Str × Addr)} {H2 H' : Hp} {σ' : St} {D C : Addr} {o : Obj} {u : HO} {h' : Heap} {σ0 : St} (I : Inv X pins σ H2 s2) (hC : s2.heap.objs.size ≤ C) (hDC : D ≠ C)
    (J : Inv (X.cmp N scope cl C s2 H2 fp) [(D, o)] σ' H' s') {s9 : Shared} (I' : Inv X pins σ0 (upd H' D u) s9) (sb : Heap.SameBut C s9.heap h') : Inv X pins σ0 (upd H' D u) { s9 with heap := h' } := by
  refine I'.turned (t' := s9.toks) (it := C) (fun b o hb e => (sb.2 b hb).trans e) (by rw [upd_ne (Ne.symm hDC)]; exact J.free) (Nat.ne_of_gt (Nat.lt_of_lt_of_le I.lt hC)) (.inr (Nat.le_trans I.sz hC)) (fun y c e z => ?_) fun p hp z => ?_
  · obtain ⟨v, q⟩ := I.cell y c e
    exact absurd (Nat.lt_of_lt_of_le q.lt (by rw [z]; exact hC)) (Nat.lt_irrefl _)
  · exact absurd (Nat.lt_of_lt_of_le (Heap.lt_size (I.pin p hp).1) (by rw [z]; exact hC)) (Nat.lt_irrefl _)

theorem pe_comp (S : CmpScope X N scope) (F : CmpFree X N scope k fr) (hc : X.calm = true) (hit : PI X tg iter wi)
    (hg : ∀ cl C s H fp, PG (X.cmp N scope cl C s H fp) tg g) (hk : GKeeps k g) (hi : ∀ cl C s H fp, PF (X.cmp N scope cl C s H fp) ifs tc) (he : ∀ cl C s H fp, PE (X.cmp N scope cl C s H fp) elt te)
    (hs : ∀ x, foldedSetIterable iter X.env x = pure x := by intro _; rfl) : PE X (.ListComp elt [⟨tg, iter, ifs, 0⟩] scope pos) (tComp k fr wi g tc te) := by
  intro pins s σ H Q I h
  rw [eval_ListComp]
  obtain ⟨cl, ecl, hcl, hcf⟩ := clos_get (scope := scope) (env := X.env) fun y hy => I.ok.has y (.inl (S.fre2 y hy))
  refine wpAny_comprehension_free (use := none) rfl hs ecl S.kind S.loc (thn (hit pins s σ H _ I h) fun v s1 h1 => thn h1 fun itv s2 h2 => ?_)
  obtain ⟨it, fp, tn, J, H2, e, I2, T, st2, f2, W, ⟨m0, w0⟩, turn⟩ := h2
  subst e
  refine cmp_block S F hc hg hk hi he I2 T st2 f2 w0 (Fin := fun ys H' => ∀ D, H' D = none → Q (.ref D) (upd H' D (.lst ys))) turn hcl hcf (RR := fun acc C => compPost (model X.prog X.w) X.A X.xe none (EP X pins σ Q) acc C) ?_
  intro D C s' its n ys H' σ' hD hC hDC J' rv hz fin
  obtain ⟨hn, I'⟩ := cmp_back I2 f2 J' rv hz hD
  obtain ⟨m, hm, _⟩ := J'.loc
  exact ⟨m, hm, fun h' sb => ⟨.ref D, _, cmp_off I2 hC hDC J' I' sb, rfl, fin D hn⟩⟩

theorem ps_comp {i : Nat} {y : Str} {py spos : Pos} (hN : X.N.Nodup) (hi' : X.N[i]? = some y) (hx : Loc X.env.scope y) (S : CmpScope X N scope) (F : CmpFree X N scope k fr) (hc : X.calm = true) (hit : PI X tg iter wi)
    (hg : ∀ cl C s H fp, PG (X.cmp N scope cl C s H fp) tg g) (hk : GKeeps k g) (hi : ∀ cl C s H fp, PF (X.cmp N scope cl C s H fp) ifs tc) (he : ∀ cl C s H fp, PE (X.cmp N scope cl C s H fp) elt te)
    (hsw : swapsWith (.ListComp elt [⟨tg, iter, ifs, 0⟩] scope pos) (some (.Name y py)) spos.line X.env = pure true)
    (hs : ∀ x, foldedSetIterable iter X.env x = pure x := by intro _; rfl) (hf : X.fn y = true ∨ X.env.scope.names.lookup y = some .local := by first | exact .inl rfl | exact .inr rfl | assumption) :
    PS X (.Assign [.Name y py] (.ListComp elt [⟨tg, iter, ifs, 0⟩] scope pos) spos) (tAsg (tComp k fr wi g tc te) (gName i)) := by
  intro pins s σ H D0 I h
  obtain ⟨cl, ecl, hcl, hcf⟩ := clos_get (scope := scope) (env := X.env) fun y hy => I.ok.has y (.inl (S.fre2 y hy))
  rw [exec_Assign_Name_used _ _ _ _ hsw]
  refine wpAny_bind (wpAny_standAt (wpAny_bind ?_))
  show wpAny _ X.A (do let _ ← comprehension (.ListComp elt [⟨tg, iter, ifs, 0⟩] scope pos) scope X.env _ (newList []) false (eval iter X.env) (some (assign (.Name y py) X.env))) _ _ s
  refine wpAny_bind (wpAny_mono (wpAny_comprehension_free (use := some (assign (.Name y py) X.env)) (Q := fun _ s' => SP X pins D0 .next s') rfl hs ecl S.kind S.loc
    (thn (hit pins s σ H _ I h) fun v s1 h1 => thn h1 fun itv s2 h2 => ?_)) (fun _ s' hq => wpAny_pure (wpAny_pure hq)) fun _ _ e => e)
  obtain ⟨it, fp, tn, J, H2, e, I2, T, st2, f2, W, ⟨m0, w0⟩, turn⟩ := h2
  subst e
  refine cmp_block S F hc hg hk hi he I2 T st2 f2 w0 (Fin := fun ys H' => ∀ D, H' D = none → D0.nx (σ.set i (some (.ref D))) (upd H' D (.lst ys))) turn hcl hcf
    (RR := fun acc C => compPost (model X.prog X.w) X.A X.xe (some (assign (.Name y py) X.env)) (fun _ s' => SP X pins D0 .next s') acc C) ?_
  intro D C s' its n ys H' σ' hD hC hDC J' rv hz fin
  obtain ⟨hn, I'⟩ := cmp_back I2 f2 J' rv hz hD
  obtain ⟨m, hm, _⟩ := J'.loc
  show wpAny _ _ (assign (.Name y py) X.env (.ref D)) _ _ s'
  refine wpAny_assign_Name (store_ok2 I' hN hi' hx (v := .ref D) rfl (fun s9 I9 ⟨a, sba, ha⟩ => ?_) hf)
  have hCa : C ≠ a := by
    rcases ha with z | z
    · rw [z]; exact Nat.ne_of_gt (Nat.lt_of_lt_of_le I2.lt hC)
    · obtain ⟨v, q⟩ := I2.cell y a z
      exact fun z => absurd (Nat.lt_of_lt_of_le q.lt (by rw [← z]; exact hC)) (Nat.lt_irrefl _)
  exact ⟨m, hm.sameBut sba hCa, fun h' sb => ⟨_, _, cmp_off I2 hC hDC J' I9 sb, fin D hn⟩⟩
end

noncomputable def cmpOk (sc scope : Scope) (NX N : List Str) (k : Nat) (fr : List Nat) : Bool :=
  scope.names.all (fun p => p.2 != .cell) && (scope.names.all (fun p => p.2 != .local || scope.names.lookup p.1 == some .local) && (scope.names.all (fun p => p.2 != .free || sc.names.lookup p.1 == some .cell) &&
    (decide N.Nodup && (N.length == k + fr.length && (fr.zip (N.drop k)).all fun q => NX[q.1]? == some q.2 && scope.names.lookup q.2 == some .free))))
theorem cmpS {X : Cx} {sc scope : Scope} {NX N : List Str} {k : Nat} {fr : List Nat} (hX : X.env.scope = sc) (hk : scope.kind = .function) (h : cmpOk sc scope NX N k fr = true) : CmpScope X N scope := by
  unfold cmpOk at h
  simp only [Bool.and_eq_true, List.all_eq_true, decide_eq_true_eq] at h
  obtain ⟨h1, h2, h3, h4, h5, h6⟩ := h
  have f2 : ∀ y, (y, NameKind.free) ∈ scope.names → X.env.kindOf y = some .cell := fun y hy => by
    have := h3 _ hy
    show X.env.scope.names.lookup y = some .cell
    rw [hX]
    simpa using this
  refine ⟨hk, fun y hy => by simpa using h1 y hy, fun y hy e => ?_, fun y e => f2 y (PySem.mem_of_lookup e), f2, h4, fun y e => PySem.mem_of_lookup e⟩
  have := h2 y hy
  rw [e] at this
  simpa using this
theorem cmpF {X : Cx} {sc scope : Scope} {NX N : List Str} {k : Nat} {fr : List Nat} (hN : X.N = NX) (h : cmpOk sc scope NX N k fr = true) : CmpFree X N scope k fr := by
  unfold cmpOk at h
  simp only [Bool.and_eq_true, List.all_eq_true, decide_eq_true_eq] at h
  obtain ⟨h1, h2, h3, h4, h5, h6⟩ := h
  refine ⟨by simpa using h5, fun j i y e1 e2 => ?_⟩
  have hm : (i, y) ∈ fr.zip (N.drop k) := by
    refine List.mem_of_getElem? (i := j) ?_
    rw [List.getElem?_zip_eq_some]
    exact ⟨e1, by rw [List.getElem?_drop]; exact e2⟩
  have := h6 _ hm
  rw [hN]
  simpa using this

section
variable {X : Cx} {elt iter : Expr} {ifs : List Expr} {scope : Scope} {pos px : Pos} {wi : TI} {tc : TT} {te : TE} {x : Str}
theorem cmp_nd {sc scope : Scope} {NX N : List Str} {k : Nat} {fr : List Nat} (h : cmpOk sc scope NX N k fr = true) : N.Nodup := by
  unfold cmpOk at h
  simp only [Bool.and_eq_true, decide_eq_true_eq] at h
  exact h.2.2.2.1
theorem pe_cmp1 (sc : Scope) (NX : List Str) (fs : List Str) (fr : List Nat) (hc : X.calm = true) (hit : PI X (.Name x px) iter wi) (hi : ∀ cl C s H fp, PF (X.cmp (x :: fs) scope cl C s H fp) ifs tc) (he : ∀ cl C s H fp, PE (X.cmp (x :: fs) scope cl C s H fp) elt te)
    (ok : cmpOk sc scope NX (x :: fs) 1 fr = true) (hX : X.env.scope = sc := by rfl) (hN : X.N = NX := by rfl) (hk : scope.kind = .function := by rfl) (hx : scope.names.lookup x = some .local := by rfl)
    (hs : ∀ x, foldedSetIterable iter X.env x = pure x := by intro _; rfl) : PE X (.ListComp elt [⟨.Name x px, iter, ifs, 0⟩] scope pos) (tComp 1 fr wi (gName 0) tc te) :=
  pe_comp (cmpS hX hk ok) (cmpF hN ok) hc hit (fun cl C s H fp => pg_name (i := 0) (cmp_nd ok) rfl (Or.inl (lookup_relabel_local hx)) (.inr (lookup_relabel_local hx))) (gk_name (by decide)) hi he hs
theorem ps_cmp1 (sc : Scope) (NX : List Str) (fs : List Str) (fr : List Nat) {i : Nat} {y : Str} {py spos : Pos} (hNd : X.N.Nodup) (hi' : X.N[i]? = some y) (hy : Loc X.env.scope y) (hc : X.calm = true) (hit : PI X (.Name x px) iter wi)
    (hi : ∀ cl C s H fp, PF (X.cmp (x :: fs) scope cl C s H fp) ifs tc) (he : ∀ cl C s H fp, PE (X.cmp (x :: fs) scope cl C s H fp) elt te)
    (ok : cmpOk sc scope NX (x :: fs) 1 fr = true) (hsw : swapsWith (.ListComp elt [⟨.Name x px, iter, ifs, 0⟩] scope pos) (some (.Name y py)) spos.line X.env = pure true)
    (hX : X.env.scope = sc := by rfl) (hN : X.N = NX := by rfl) (hk : scope.kind = .function := by rfl) (hx : scope.names.lookup x = some .local := by rfl)
    (hs : ∀ x, foldedSetIterable iter X.env x = pure x := by intro _; rfl) (hf : X.fn y = true ∨ X.env.scope.names.lookup y = some .local := by first | exact .inl rfl | exact .inr rfl | assumption) :
    PS X (.Assign [.Name y py] (.ListComp elt [⟨.Name x px, iter, ifs, 0⟩] scope pos) spos) (tAsg (tComp 1 fr wi (gName 0) tc te) (gName i)) :=
  ps_comp hNd hi' hy (cmpS hX hk ok) (cmpF hN ok) hc hit (fun cl C s H fp => pg_name (i := 0) (cmp_nd ok) rfl (Or.inl (lookup_relabel_local hx)) (.inr (lookup_relabel_local hx))) (gk_name (by decide)) hi he hsw hs hf
end

theorem comp_range {lo : Int} {n : Nat} {G : V → Hp → (List V → Hp → Prop) → List V → Prop} {Fin : List V → Hp → Prop} {H : Hp} (Pv : Nat → List V → Hp → Prop) (h0 : Pv 0 [] H)
    (hs : ∀ i ys H, i < n → Pv i ys H → ys.length < sizeLine ∧ G (.int (lo + i)) H (Pv (i + 1)) ys) (hd : ∀ ys H, Pv n ys H → Fin ys H) :
    ∃ W : Nat → Nat → List V → Hp → Prop, (∃ m, W 0 m [] H) ∧ ∀ i m ys H, W i m ys H →
      ((Itr lo n).stop i H ∧ Fin ys H) ∨ ((Itr lo n).go i H ∧ ys.length < sizeLine ∧ ∃ Nx : List V → Hp → Prop, (∀ ys' H', Nx ys' H' → ∃ m', m' < m ∧ W (i + 1) m' ys' H') ∧ ∀ x H', (Itr lo n).yld i H x H' → G x H' Nx ys) := by
  refine ⟨fun i m ys H => m = n - i ∧ i ≤ n ∧ Pv i ys H, ⟨n, by simp, Nat.zero_le _, h0⟩, ?_⟩
  rintro i m ys H ⟨rfl, hi, p⟩
  by_cases hlt : i < n
  · obtain ⟨a1, a2⟩ := hs i ys H hlt p
    refine .inr ⟨hlt, a1, Pv (i + 1), fun ys' H' p' => ⟨n - (i + 1), by omega, rfl, hlt, p'⟩, fun x H' y => ?_⟩
    obtain ⟨e, y⟩ := y
    subst e y
    exact a2
  · have e : i = n := by omega
    subst e
    exact .inl ⟨Nat.le_refl _, hd ys H p⟩
theorem comp_list {K : PySem.W.Frag} {a : Addr} {xs : List V} {G : V → Hp → (List V → Hp → Prop) → List V → Prop} {Fin : List V → Hp → Prop} {H : Hp} (Pv : Nat → List V → Hp → Prop) (h0 : Pv 0 [] H) (hl : ∀ i ys H, i ≤ xs.length → Pv i ys H → SqL K H a xs)
    (hs : ∀ i x ys H, xs[i]? = some x → Pv i ys H → ys.length < sizeLine ∧ G x H (Pv (i + 1)) ys) (hd : ∀ ys H, Pv xs.length ys H → Fin ys H) :
    ∃ W : Nat → Nat → List V → Hp → Prop, (∃ m, W 0 m [] H) ∧ ∀ i m ys H, W i m ys H →
      ((Itl K a).stop i H ∧ Fin ys H) ∨ ((Itl K a).go i H ∧ ys.length < sizeLine ∧ ∃ Nx : List V → Hp → Prop, (∀ ys' H', Nx ys' H' → ∃ m', m' < m ∧ W (i + 1) m' ys' H') ∧ ∀ x H', (Itl K a).yld i H x H' → G x H' Nx ys) := by
  refine ⟨fun i m ys H => m = xs.length - i ∧ i ≤ xs.length ∧ Pv i ys H, ⟨xs.length, by simp, Nat.zero_le _, h0⟩, ?_⟩
  rintro i m ys H ⟨rfl, hi, p⟩
  have q := hl i ys H hi p
  by_cases hlt : i < xs.length
  · obtain ⟨a1, a2⟩ := hs i xs[i] ys H (by simp [hlt]) p
    refine .inr ⟨⟨xs, xs[i], q, by simp [hlt]⟩, a1, Pv (i + 1), fun ys' H' p' => ⟨xs.length - (i + 1), by omega, rfl, hlt, p'⟩, fun x H' y => ?_⟩
    obtain ⟨e, y⟩ := y
    subst e
    have hx := y xs q
    rw [show xs[i]? = some xs[i] by simp [hlt]] at hx
    cases hx
    exact a2
  · have e : i = xs.length := by omega
    subst e
    exact .inl ⟨⟨xs, q, Nat.le_refl _⟩, hd ys H p⟩
end L2
namespace L2
open PySem PySem.Spec PyProof.Rows

section
variable {X : Cx}
theorem call_isi : CallR X (.builtin "isinstance") (fun xs H Q => ∃ x t c b, xs = [x, .ty c] ∧ TyOf X.K H x t ∧ PySem.W.kitOne X.K t (.type c) = some b ∧ Q (.bl b) H) := by
  intro pins s σ H xs us Q I r h
  obtain ⟨x, t, c, b, rfl, ty, e, q⟩ := h
  obtain ⟨u, v, rfl, rx, ry⟩ := vals2 r
  cases ry
  exact isinst_ok I rx ty e fun tk => ⟨.bl b, H, I.tok tk, rfl, q⟩

theorem seen {pins : List (Addr × Obj)} {σ : St} {H : Hp} {s : Shared} {l : Addr} {h' : Heap} {tk : Nat} (I : Inv X pins σ H s) (hk : ∀ b o, b ∉ [s.heap.objs.size] → (s.heap.push { cls := .type "list_iterator", data := .fields #[.ref l, .int 0 0] }).get? b = some o → h'.get? b = some o) :
    Inv X pins σ H { s with heap := h', toks := tk } := I.kept (old_kept hk)

theorem all_range {bs : List Bool} : ((List.range bs.length).all fun i => (bs[i]?).getD true) = bs.all id := by
  induction bs with
  | nil => rfl
  | cons b r ih =>
    rw [List.length_cons, List.range_succ_eq_map, List.all_cons, List.all_map, List.all_cons]
    congr 1
theorem call_all (hc : X.calm = true) : CallR X (.builtin "all") (fun xs H Q => ∃ (p : Addr) (bs : List Bool), xs = [.ref p] ∧ SqL X.K H p (bs.map V.bl) ∧ Q (.bl (bs.all id)) H) := by
  intro pins s σ H xs us Q I r h
  obtain ⟨p, bs, rfl, hq, q⟩ := h
  obtain ⟨u, rfl, rx⟩ := vals1 r
  cases rx
  obtain ⟨its, rv, pl, hz⟩ := I.list hq
  have hl := pl.isList
  have hlt : p < s.heap.objs.size := by obtain ⟨_, e, _⟩ := hl; exact Heap.lt_size e
  have hn : its.toArray.size = bs.length := by rw [List.size_toArray, ← rv.length, List.length_map]
  refine call_all_walk (wpAny_pyIter_list hl ?_)
  refine ⟨_, _, _, _, _, _, fun i => (bs[i]?).getD true, rfl, Walks.list (A := X.A.in1) (I.ok.hd hc) s.heap.objs.size p (Nat.ne_of_lt hlt) its.toArray, ⟨⟨_, Heap.get?_push_size _ rfl, rfl, rfl⟩, hl.push _⟩, ?_, fun h' tk hk => ?_⟩
  · intro i v s' Q' E' hP hQ
    have hv : its[i]? = some v := by simpa using hP
    cases eb : bs[i]? with
    | none =>
      have := rv.none_of (i := i) (by rw [List.getElem?_map, eb]; rfl)
      rw [this] at hv; cases hv
    | some b =>
      obtain ⟨u, hu, ru⟩ := rv.get (i := i) (x := .bl b) (by rw [List.getElem?_map, eb]; rfl)
      rw [hu] at hv; cases hv
      cases ru
      refine wpAny_truthy_bool ?_
      have e : (bs[i]?).getD true = b := by rw [eb]; rfl
      rw [← e]; exact hQ
  · rw [hn, all_range]
    exact ⟨.bl _, H, (show Inv X pins σ H { s with heap := h', toks := tk } from seen I hk), rfl, q⟩

theorem pre_take (ns : List Int) : ∀ k, k ≤ ns.length → preSum (fun i => (ns[i]?).getD 0) k = (ns.take k).sum
  | 0, _ => by simp [preSum]
  | k + 1, h => by
    have e : ns[k]? = some (ns[k]'(by omega)) := by simp
    rw [preSum, pre_take ns k (by omega), List.take_add_one, e, List.sum_append]
    simp
theorem sum_bound {B : Int} : ∀ (ns : List Int), (∀ n ∈ ns, -B ≤ n ∧ n ≤ B) → -(ns.length * B) ≤ ns.sum ∧ ns.sum ≤ ns.length * B
  | [], _ => by simp
  | n :: r, h => by
    have h1 := h n (by simp)
    have h2 := sum_bound r fun m hm => h m (List.mem_cons_of_mem _ hm)
    rw [List.sum_cons, List.length_cons]
    have e : ((r.length + 1 : Nat) : Int) * B = r.length * B + B := by rw [Int.natCast_add, Int.add_mul]; simp
    omega
theorem call_sumL (hc : X.calm = true) : CallR X (.builtin "sum") (fun xs H Q => ∃ (p : Addr) (ns : List Int), xs = [.ref p] ∧ SqL X.K H p (ns.map V.int) ∧ (ns.length ≤ 1000 ∧ ∀ n ∈ ns, -1000000000 ≤ n ∧ n ≤ 1000000000) ∧ Q (.int ns.sum) H) := by
  intro pins s σ H xs us Q I r h
  obtain ⟨p, ns, rfl, hq, ⟨hb0, hb⟩, q⟩ := h
  obtain ⟨u, rfl, rx⟩ := vals1 r
  cases rx
  obtain ⟨its, rv, pl, hz⟩ := I.list hq
  have hl := pl.isList
  have hlt : p < s.heap.objs.size := by obtain ⟨_, e, _⟩ := hl; exact Heap.lt_size e
  have hn : its.toArray.size = ns.length := by rw [List.size_toArray, ← rv.length, List.length_map]
  refine call_sum_walk (wpAny_pyIter_list hl ?_)
  refine ⟨_, _, _, _, _, _, fun i => (ns[i]?).getD 0, rfl, Walks.list (A := X.A.in1) (I.ok.hd hc) s.heap.objs.size p (Nat.ne_of_lt hlt) its.toArray, ⟨⟨_, Heap.get?_push_size _ rfl, rfl, rfl⟩, hl.push _⟩, fun b hb' => ?_, fun i v hP => ?_, fun j hj => ?_, fun h' tk t' hk => ?_⟩
  · show b < (s.heap.push _).objs.size
    rw [Heap.size_push]
    rcases List.mem_cons.mp hb' with rfl | hb'
    · exact Nat.lt_succ_self _
    · have e : b = p := by simpa using hb'
      rw [e]; exact Nat.lt_succ_of_lt hlt
  · have hv : its[i]? = some v := by simpa using hP
    cases eb : ns[i]? with
    | none =>
      have := rv.none_of (i := i) (by rw [List.getElem?_map, eb]; rfl)
      rw [this] at hv; cases hv
    | some b =>
      obtain ⟨u, hu, ru⟩ := rv.get (i := i) (x := .int b) (by rw [List.getElem?_map, eb]; rfl)
      rw [hu] at hv; cases hv
      obtain ⟨t, rfl⟩ := ru
      exact ⟨t, by simp [eb]⟩
  · rw [hn] at hj
    have e : ns[j]? = some ns[j] := by simp [hj]
    have b1 := hb ns[j] (List.getElem_mem hj)
    have b2 := sum_bound (B := 1000000000) (ns.take (j + 1)) fun m hm => hb m (List.mem_of_mem_take hm)
    rw [pre_take ns (j + 1) (by omega)]
    have e3 : (ns.take (j + 1)).length = j + 1 := by rw [List.length_take]; omega
    rw [e3] at b2
    refine ⟨⟨?_, ?_⟩, ?_, ?_⟩
    · show _ ≤ (ns[j]?).getD 0
      rw [e]; show _ ≤ ns[j]; omega
    · show (ns[j]?).getD 0 < _
      rw [e]; show ns[j] < _; omega
    · omega
    · omega
  · rw [hn, pre_take ns ns.length (Nat.le_refl _), List.take_length]
    exact ⟨.int _, H, (show Inv X pins σ H { s with heap := h', toks := tk } from seen I hk), ⟨_, rfl⟩, q⟩

noncomputable def DatV (P : Program) (w : World) (H : Hp) (x : V) (d : PyData) : Prop := ∀ (h : Heap) (v : Value), HOk P w H h → RelV x v → ∃ as, Reads h v d as
section
variable {P : Program} {w : World} {H : Hp}
theorem datI (i : Int) : DatV P w H (.int i) (.int i) := fun h v _ r => by obtain ⟨t, rfl⟩ := r; exact ⟨_, .int i t⟩
theorem datS (x : Str) : DatV P w H (.str x) (.str x) := fun h v _ r => by obtain ⟨t, rfl⟩ := r; exact ⟨_, .str x t⟩
theorem dats {h : Heap} (ok : HOk P w H h) {xs : List V} {its : List Value} {ds : List PyData} (a : Vals xs its) (b : Paired (DatV P w H) xs ds) : ∃ as, ReadsAll h its ds as := by
  induction a generalizing ds with
  | nil => cases b; exact ⟨_, .nil⟩
  | cons r t ih =>
    cases b with
    | cons q u =>
      obtain ⟨as, h1⟩ := q _ _ ok r
      obtain ⟨bs, h2⟩ := ih u
      exact ⟨_, .cons h1 h2⟩
theorem datL {a : Addr} {xs : List V} {ds : List PyData} (e : H a = some (.lst xs)) (r : Paired (DatV P w H) xs ds) : DatV P w H (.ref a) (.list ds) := fun h v ok rv => by
  cases rv
  obtain ⟨_, its, n, rs, e1⟩ := ok a _ e
  obtain ⟨as, h1⟩ := dats ok rs r
  exact ⟨_, .list e1 rfl rfl (by simpa using h1)⟩
theorem datT {a : Addr} {xs : List V} {ds : List PyData} (e : H a = some (.tup xs)) (r : Paired (DatV P w H) xs ds) : DatV P w H (.ref a) (.tuple ds) := fun h v ok rv => by
  cases rv
  obtain ⟨_, its, rs, o, e1, c, n, d⟩ := ok a _ e
  obtain ⟨as, h1⟩ := dats ok rs r
  exact ⟨_, .tuple e1 c d (by simpa using h1)⟩
theorem datIs : ∀ ns : List Int, Paired (DatV P w H) (ns.map V.int) (ns.map PyData.int)
  | [] => .nil
  | n :: r => .cons (datI n) (datIs r)
end
theorem lays : ∀ ns : List Int, PyData.canLayAll0 (ns.map PyData.int) = true
  | [] => rfl
  | n :: r => by
    rw [List.map_cons, PyData.canLayAll0, lays r]
    rfl
theorem depths : ∀ ns : List Int, PyData.depthAll (ns.map PyData.int) = 0
  | [] => rfl
  | n :: r => by
    rw [List.map_cons, PyData.depthAll, depths r]
    rfl
noncomputable def rEqD (P : Program) (w : World) (neg : Bool) : R2 := fun x y H Q => ∃ dx dy, DatV P w H x dx ∧ DatV P w H y dy ∧ (dx.canLay0 = true ∧ dy.canLay0 = true ∧ dx.depth ≤ 60) ∧ Q (.bl (if neg = true then !PyData.eqv dx dy else PyData.eqv dx dy)) H
theorem op_eqD (hu : X.A.units + 64 < cLine) : OpR X (compareOp .Eq) (rEqD X.prog X.w false) := by
  intro pins s σ H x y v u Q I rx ry h
  obtain ⟨dx, dy, h1, h2, ⟨c1, c2, c3⟩, q⟩ := h
  obtain ⟨as, r1⟩ := h1 _ _ I.hok rx
  obtain ⟨bs, r2⟩ := h2 _ _ I.hok ry
  refine SeqAt.compareEq_reads r1 r2 c1 c2 ?_ ⟨.bl _, H, I, rfl, q⟩
  have : min dx.depth dy.depth ≤ dx.depth := Nat.min_le_left _ _
  omega
theorem op_neD (hu : X.A.units + 64 < cLine) : OpR X (compareOp .NotEq) (rEqD X.prog X.w true) := by
  intro pins s σ H x y v u Q I rx ry h
  obtain ⟨dx, dy, h1, h2, ⟨c1, c2, c3⟩, q⟩ := h
  obtain ⟨as, r1⟩ := h1 _ _ I.hok rx
  obtain ⟨bs, r2⟩ := h2 _ _ I.hok ry
  refine SeqAt.compareNe_reads r1 r2 c1 c2 ?_ ⟨.bl _, H, I, rfl, q⟩
  have : min dx.depth dy.depth ≤ dx.depth := Nat.min_le_left _ _
  omega
theorem eq_self {P : Program} {w : World} {neg : Bool} {x y : V} {H : Hp} {Q : VK} {d : PyData} (h1 : DatV P w H x d) (h2 : DatV P w H y d) (c1 : d.canLay0 = true) (c2 : d.depth ≤ 60) (q : Q (.bl (!neg)) H) : rEqD P w neg x y H Q := by
  refine ⟨d, d, h1, h2, ⟨c1, c1, c2⟩, ?_⟩
  rw [SeqAt.eqv_refl d c1]
  cases neg <;> exact q

end
end L2

namespace L2
open PySem PySem.Spec PyProof.Rows
theorem no_len_rev : typeLookup (.type "list_reverseiterator") "__len__" = pure none := by rw [typeLookup_type, builtinLookup_eq_fast]; kernel_rfl
theorem hint_rev : typeLookup (.type "list_reverseiterator") "__length_hint__" = pure (some (.builtin "list_reverseiterator.__length_hint__")) := by rw [typeLookup_type, builtinLookup_eq_fast]; kernel_rfl
theorem sub_lri_self : isSubtype (.type "list_reverseiterator") (.type "list_reverseiterator") = pure true := by rw [isSubtype_type]; kernel_rfl
section
variable {prog : Program} {w : World} {A : Around} {s : Shared}
theorem no_room_rev {E : Value → Shared → Prop} {J l : Addr} {i : Int} {Q : Bool → Shared → Prop} (hit : s.heap.IsRevIter J l i) (h : Q false s) : wpAny (model prog w) A (Builtin.List.listLengthHint (.ref J)) Q E s := by
  unfold Builtin.List.listLengthHint
  refine wpAny_bind (wpAny_specialOf hit.typeIs no_len_rev ?_)
  show wpAny _ A (specialOf (Value.ref J) (Str.ofString "__length_hint__") >>= _) _ _ _
  refine wpAny_bind (wpAny_specialOf hit.typeIs hint_rev ?_)
  generalize hid : ("list_reverseiterator.__length_hint__" : String) = id0
  wp_delta
  rw [show splitId id0 = some ("list_reverseiterator", "__length_hint__") from by subst hid; decide +kernel]
  subst hid
  refine wpAny_bind (wpAny_isInstance (T := "list_reverseiterator") (b := true) hit.typeIs sub_lri_self ?_)
  refine wpAny_ite_split (fun hab => absurd hab (by decide)) (fun _ => ?_)
  refine wpAny_ite_split (fun _ => ?_) (fun hab => absurd (by decide +kernel) hab)
  refine wpAny_ite_split (fun hab => absurd hab (by decide +kernel)) (fun _ => ?_)
  exact wpAny_pure h
theorem extend_rev {R : Result → Shared → Prop} {J l : Addr} {items : Array Value} (hh : A.handled = none) (hne : l ≠ J) (hit : s.heap.IsRevIter J l ((items.size : Int) - 1)) (hl : s.heap.IsList l items) (hz : items.size ≤ sizeLine) (S : Addr) (res : Value) (c0 : Nat)
    (hS : s.heap.get? S = some { cls := .type "list", data := .seq #[] c0 }) (hSJ : S ≠ J) (hSl : S ≠ l)
    (hR : ∀ h' tk acc c', (∀ b o, b ≠ S → b ≠ J → s.heap.get? b = some o → h'.get? b = some o) → h'.get? S = some { cls := .type "list", dict := none, data := .seq acc c', slots := #[] } →
      ItemsOf (fun i v => items[items.size - 1 - i]? = some v) acc items.size → R (.ok (.ret res)) { s with heap := h', toks := tk }) :
    wpAny (model prog w) A.in1 (Builtin.List.listExtendWith (.ref S) (.ref J) res)
      (fun fin s' => match fin with | .done f => R (.ok f) s' | .again c' => c'.quiet = true ∧ codeAny (model prog w) A c' R s') (fun e s' => R (.error e) s') s := by
  have W := (Walks.listRev (prog := prog) (w := w) (A := A.in1) hh J l hne items).toS
  have hSf : S ∉ [J, l] := fun hm => by
    rcases List.mem_cons.mp hm with e | hm
    · exact hSJ e
    · exact hSl (by simpa using hm)
  unfold Builtin.List.listExtendWith
  refine wpAny_bind (wpAny_typeOf hit.typeIs ?_)
  have h1 : Builtin.List.listSameRef (.ref S) (.ref J) = false := by simp [Builtin.List.listSameRef, hSJ]
  have h2 : (Value.type "list_reverseiterator" == Value.type "list") = false := by decide
  have h3 : (Value.type "list_reverseiterator" == Value.type "tuple") = false := by decide
  simp only [h1, h2, h3, Bool.or_false, Bool.false_eq_true, if_false]
  refine wpAny_bind (wpAny_pyIter_revIter hit ?_)
  refine wpAny_bind (wpAny_holding (no_room_rev hit ?_))
  refine wpAny_ite_split (fun hab => absurd hab (by decide)) (fun _ => ?_)
  refine wpAny_pure ⟨plainId_quiet F.plain_extend_loop _, ?_⟩
  refine codeAny_extend_loopS W hz S hSf res items.size 0 s #[] c0 rfl (Nat.zero_le _) ⟨Nat.zero_le _, by simpa using hit, hl⟩ hS (ItemsOf.nil _) fun s' acc' c' hm hS' hacc => ?_
  rw [Moved.eq_with hm]
  refine hR s'.heap s'.toks acc' c' (fun b o hb hb2 e => hm.heap b o (fun z => ?_) e) hS' hacc
  rcases List.mem_cons.mp z with z | z
  · exact hb z
  · exact hb2 (by simpa using z)
theorem init_rev {R : Result → Shared → Prop} {J l : Addr} {items : Array Value} (hh : A.handled = none) (hne : l ≠ J) (hit : s.heap.IsRevIter J l ((items.size : Int) - 1)) (hl : s.heap.IsList l items) (hz : items.size ≤ sizeLine) (S : Addr)
    (hS : s.heap.get? S = some { cls := .type "list", data := .seq #[] }) (hSJ : S ≠ J) (hSl : S ≠ l)
    (hR : ∀ h' tk acc c', (∀ b o, b ≠ S → b ≠ J → s.heap.get? b = some o → h'.get? b = some o) → h'.get? S = some { cls := .type "list", dict := none, data := .seq acc c', slots := #[] } →
      ItemsOf (fun i v => items[items.size - 1 - i]? = some v) acc items.size → R (.ok (.ret .none)) { s with heap := h', toks := tk }) :
    wpAny (model prog w) A.in1 (Builtin.«list.__init__» ⟨[.ref S, .ref J], []⟩)
      (fun fin s' => match fin with | .done f => R (.ok f) s' | .again c' => c'.quiet = true ∧ codeAny (model prog w) A c' R s') (fun e s' => R (.error e) s') s := by
  show wpAny _ _ (do let old ← Builtin.List.listItems (.ref S); Builtin.List.listUpdate (.ref S) (fun _ => #[]); letGo old.toList.reverse; Builtin.List.listExtendWith (.ref S) (.ref J) .none) _ _ s
  refine wpAny_bind ?_
  unfold Builtin.List.listItems
  refine wpAny_bind (wpAny_seqItems hS rfl (wpAny_pure ?_))
  show wpAny _ _ (updateSeq S (fun _ => #[]) >>= fun _ => letGo (#[] : Array Value).toList.reverse >>= fun _ => Builtin.List.listExtendWith (.ref S) (.ref J) .none) _ _ s
  refine wpAny_bind (wpAny_updateSeq hS rfl ?_)
  have g2 := Heap.get?_update_self (Obj.mapSeq (fun _ => (#[] : Array Value))) hS rfl
  have oth : ∀ b o, b ≠ S → s.heap.get? b = some o → (s.heap.update S (Obj.mapSeq (fun _ => (#[] : Array Value)))).get? b = some o :=
    fun b o hb e => (Heap.get?_update_other _ _ (Ne.symm hb)).trans e
  refine wpAny_bind (wpAny_letGo ?_)
  refine extend_rev hh hne (hit.at fun o e => oth J o (Ne.symm hSJ) e) (hl.at fun o e => oth l o (Ne.symm hSl) e) hz S .none _ g2 hSJ hSl fun h' tk acc' c' hk hS' hacc => ?_
  exact hR h' tk acc' c' (fun b o hb hb2 e => hk b o hb hb2 (oth b o hb e)) hS' hacc
theorem list_rev {E : Value → Shared → Prop} {Q : Value → Shared → Prop} {J l : Addr} {items : Array Value} (hh : A.handled = none) (hne : l ≠ J) (hit : s.heap.IsRevIter J l ((items.size : Int) - 1)) (hl : s.heap.IsList l items) (hz : items.size ≤ sizeLine)
    (hQ : ∀ h' tk acc c', (∀ b o, b ≠ J → s.heap.get? b = some o → h'.get? b = some o) → h'.get? s.heap.objs.size = some { cls := .type "list", dict := none, data := .seq acc c', slots := #[] } →
      ItemsOf (fun i v => items[items.size - 1 - i]? = some v) acc items.size → Q (.ref s.heap.objs.size) { s with heap := h', toks := tk }) :
    wpAny (model prog w) A (call (.type "list") [.ref J]) Q E s := by
  have ltJ : J < s.heap.objs.size := by obtain ⟨o, e, _⟩ := hit; exact Heap.lt_size e
  have ltl : l < s.heap.objs.size := by obtain ⟨o, e, _⟩ := hl; exact Heap.lt_size e
  refine callType_codes (Q₁ := fun obj s1 => obj = .ref s.heap.objs.size ∧ s1 = { s with heap := s.heap.push { cls := .type "list", data := .seq #[] } }) F.called_list (F.typeCall_list_1 _) F.entry_list_init
    (code_list_new _ ⟨rfl, rfl⟩) fun obj s1 h1 => ?_
  obtain ⟨rfl, rfl⟩ := h1
  have hS : (s.heap.push { cls := .type "list", data := .seq #[] }).get? s.heap.objs.size = some { cls := .type "list", data := .seq #[] } := Heap.get?_push_size _ rfl
  refine ⟨⟨_, hS, rfl⟩, F.args_list_init_2 _ _, init_rev (A := A.in1) hh hne (hit.at fun o e => Heap.get?_push_of_some _ e) (hl.at fun o e => Heap.get?_push_of_some _ e) hz _ hS (Nat.ne_of_gt ltJ) (Nat.ne_of_gt ltl) fun h' tk acc' c' hk hS' hacc => ?_⟩
  exact ⟨rfl, hQ h' tk acc' c' (fun b o hb e => hk b o (Nat.ne_of_lt (Heap.lt_size e)) hb (Heap.get?_push_of_some _ e)) hS' hacc⟩
end
section
variable {X : Cx} {e : Expr} {te : TE}
noncomputable def tLRev (K : PySem.W.Frag) (te : TE) : TE := fun σ H Q => te σ H fun x H1 => ∃ a xs, x = .ref a ∧ SqL K H1 a xs ∧ ∀ p, H1 p = none → Q (.ref p) (upd H1 p (.lst xs.reverse))
theorem items_rev {its : List Value} {acc : Array Value} (h : ItemsOf (fun i v => its.toArray[its.toArray.size - 1 - i]? = some v) acc its.toArray.size) : acc.toList = its.reverse := by
  obtain ⟨h0, h2⟩ := h
  have h1 : acc.size = its.length := by rw [h0]; simp
  apply List.ext_getElem?
  intro i
  by_cases hi : i < acc.size
  · have e := h2 i acc[i] (by simp [hi])
    have e' : its[its.length - 1 - i]? = some acc[i] := by simpa using e
    rw [List.getElem?_reverse (by omega), e']
    simp [hi]
  · rw [List.getElem?_eq_none (by simpa using hi), List.getElem?_eq_none (by rw [List.length_reverse]; omega)]
theorem pe_lrev {p1 p2 q1 q2 : Pos} (hc : X.calm = true) (hm1 : X.mg "list" = none) (hm2 : X.mg "reversed" = none) (hg1 : Gl X "list") (hg2 : Gl X "reversed") (he : PE X e te) (h1 : starEach [e] X.env = [(false, eval e X.env)] := by rfl) :
    PE X (.Call (.Name "list" p1) [.Call (.Name "reversed" p2) [e] [] q2] [] q1) (tLRev X.K te) := by
  intro pins s σ H Q I h
  refine wpAny_Call_Name_kw (ld_blt I hg1 hm1 boot_list ?_)
  refine PyProof.Rows.callWith_type1 ?_ rfl rfl
  show wpAny _ _ (spliced ((false, eval (.Call (.Name "reversed" p2) [e] [] q2) X.env) :: backTo q1 (starEach [] X.env))) _ _ s
  refine Calls.spliced_cons ?_
  refine wpAny_Call_Name_kw (ld_blt I hg2 hm2 boot_reversed ?_)
  refine PyProof.Rows.callWith_type1 ?_ h1 rfl
  rw [h1]
  show wpAny _ _ (spliced ((false, eval e X.env) :: backTo q2 (starEach [] X.env))) _ _ s
  refine Calls.spliced_cons (thn (he pins s σ H _ I h) fun u s1 ⟨x, H1, I1, r1, q1⟩ => ?_)
  obtain ⟨a, xs, rfl, hq, q⟩ := q1
  cases r1
  obtain ⟨its, rv, pl, hz⟩ := I1.list hq
  have hl := pl.isList
  have hlen := rv.length
  have ltl : a < s1.heap.objs.size := by obtain ⟨o, e, _⟩ := hl; exact Heap.lt_size e
  refine Calls.spliced_nil ?_
  refine call_reversed_list hl ?_
  refine Calls.spliced_nil ?_
  refine list_rev (items := its.toArray) (I1.ok.hd hc) (Nat.ne_of_lt ltl) ⟨_, Heap.get?_push_size _ rfl, rfl, rfl⟩ (hl.at fun o e => Heap.get?_push_of_some _ e) (by rw [List.size_toArray]; omega) fun h' tk acc c' hk hS hacc => ?_
  have eS : (s1.heap.push (revObj a ((its.toArray.size : Int) - 1))).objs.size = s1.heap.objs.size + 1 := Heap.size_push ..
  have hnew : s1.heap.objs.size ≤ (s1.heap.push (revObj a ((its.toArray.size : Int) - 1))).objs.size := by rw [eS]; exact Nat.le_succ _
  have ea := items_rev hacc
  refine ⟨.ref _, _, I1.laid (t' := tk) (o := .lst xs.reverse) (fun b o e => hk b o (Nat.ne_of_lt (Heap.lt_size e)) (Heap.get?_push_of_some _ e)) hnew ⟨by rw [List.length_reverse]; exact hz, its.reverse, c', rv.reverse, ?_⟩, rfl, q _ (I1.hok.fresh hnew)⟩
  rw [hS, ← ea]
end
end L2
namespace L2
open PySem PySem.Spec PyProof.Rows
section
variable {X : Cx} {pins : List (Addr × Obj)} {σ : St} {H : Hp} {s : Shared} {h' : Heap}
theorem Inv.turnedNew {ch : List Addr} {T : Addr} {o : HO} {t' : Nat} (I : Inv X pins σ H s) (k : ∀ b u, b ∉ ch → s.heap.get? b = some u → h'.get? b = some u) (hf : ∀ b ∈ ch, FpOk X pins H b) (hT : s.heap.objs.size ≤ T)
    (new : ObjOk X.prog X.w (upd H T o) h' T o) : Inv X pins σ (upd H T o) { s with heap := h', toks := t' } := by
  have hn := I.hok.fresh hT
  have lt : ∀ b u, s.heap.get? b = some u → b ≠ T := fun b u e => Nat.ne_of_lt (Nat.lt_of_lt_of_le (Heap.lt_size e) hT)
  have tr : ∀ b u, H b = some u → b ∉ ch := fun b u e hb => by
    obtain ⟨f0, _⟩ := hf b hb
    rw [e] at f0; cases f0
  refine I.step (g' := s.gens) (d' := s.drawn) (ch := ch) (fun b hb => ?_) (fun b u _ _ hc e _ => k b u hc e) (fun b u _ _ hc e _ => ⟨u.slots, k b u hc e⟩) (fun b u _ e n => by rw [upd_ne (lt b u e)]; exact n)
    (fun b u hc e => ⟨u, k b u hc e⟩) (fun b xs e => by rw [upd_ne (ne_of_none e hn)]; exact e) (fun b u x e => by rw [upd_ne (ne_of_none e hn)]; exact e) (fun b ps e => ⟨#[], by rw [upd_ne (ne_of_none e hn), e]; simp⟩) (fun m hm => ?_) (fun b u e => ?_) I.bare
  · obtain ⟨_, f1, _, f3, f4, f5⟩ := hf b hb
    exact ⟨f3, f1, f4, f5⟩
  · obtain ⟨u, es, ep, hu, r⟩ := hm
    exact ⟨u, es, ep, k _ u (fun z => (hf _ z).2.1 rfl) hu, r⟩
  · by_cases hb : b = T
    · subst hb
      rw [upd_same] at e; cases e
      exact new
    · rw [upd_ne hb] at e
      refine (I.hok b u e).stay (fun c v hc q => k c v ?_ q) (fun c q => by rw [upd_ne (ne_of_none q hn)]; exact q) fun c xs q => by rw [upd_ne (ne_of_none q hn)]; exact q
      rcases hc with rfl | hc
      · exact tr _ _ e
      · exact tr _ _ hc
theorem Inv.turnedL {ch : List Addr} {t' : Nat} (I : Inv X pins σ H s) (k : ∀ b u, b ∉ ch → s.heap.get? b = some u → h'.get? b = some u) (hf : ∀ b ∈ ch, FpOk X pins H b) : Inv X pins σ H { s with heap := h', toks := t' } := by
  have tr : ∀ b u, H b = some u → b ∉ ch := fun b u e hb => by
    obtain ⟨f0, _⟩ := hf b hb
    rw [e] at f0; cases f0
  refine I.step (g' := s.gens) (d' := s.drawn) (ch := ch) (fun b hb => ?_) (fun b u _ _ hc e _ => k b u hc e) (fun b u _ _ hc e _ => ⟨u.slots, k b u hc e⟩) (fun _ _ _ _ n => n)
    (fun b u hc e => ⟨u, k b u hc e⟩) (fun _ _ e => e) (fun _ _ _ e => e) (fun b ps e => ⟨#[], by rw [e]; simp⟩) (fun m hm => ?_) (fun b u e => ?_) I.bare
  · obtain ⟨_, f1, _, f3, f4, f5⟩ := hf b hb
    exact ⟨f3, f1, f4, f5⟩
  · obtain ⟨u, es, ep, hu, r⟩ := hm
    exact ⟨u, es, ep, k _ u (fun z => (hf _ z).2.1 rfl) hu, r⟩
  · refine (I.hok b u e).stay (fun c v hc q => k c v ?_ q) (fun _ q => q) fun _ _ q => q
    rcases hc with rfl | hc
    · exact tr _ _ e
    · exact tr _ _ hc
end

noncomputable def Itz (K : PySem.W.Frag) (a b : Addr) : It :=
  ⟨fun i H => ∃ xs ys x y, SqL K H a xs ∧ SqL K H b ys ∧ xs[i]? = some x ∧ ys[i]? = some y,
   fun i H v H' => ∃ t x y, v = .ref t ∧ H t = none ∧ (∀ xs, SqL K H a xs → xs[i]? = some x) ∧ (∀ ys, SqL K H b ys → ys[i]? = some y) ∧ H' = upd H t (.tup [x, y]),
   fun i H => ∃ xs ys, SqL K H a xs ∧ SqL K H b ys ∧ (xs.length ≤ i ∨ ys.length ≤ i)⟩
theorem turn_zip {P : Program} {w : World} {K : PySem.W.Frag} {elts : List Expr} {x1} {pos : Pos} (a b z TI TO i1 i2 : Addr) (D : ZipApart z TI TO i1 i2 a b) : Turn P w K (.Tuple elts x1 pos) (Itz K a b) [z, TI, TO, i1, i2] z
    (fun i h => IsZip h z TI TO .none ∧ IsPair h TI (.ref i1) (.ref i2) ∧ (∃ u v, IsPair h TO u v) ∧ h.IsListIter i1 a i ∧ h.IsListIter i2 b i) where
  mem := by simp
  obj := fun i h st c hb => by
    obtain ⟨h1, h2, ⟨u, v, h3⟩, ⟨o4, h4, _, d4⟩, ⟨o5, h5, _, d5⟩⟩ := st
    simp only [List.mem_cons, List.not_mem_nil, or_false] at hb
    rcases hb with rfl | rfl | rfl | rfl | rfl
    · exact ⟨_, h1, fun v z => by cases z⟩
    · exact ⟨_, h2, fun v z => by cases z⟩
    · exact ⟨_, h3, fun v z => by cases z⟩
    · exact ⟨o4, h4, fun v z => by rw [d4] at z; cases z⟩
    · exact ⟨o5, h5, fun v z => by rw [d5] at z; cases z⟩
  keep := fun i h h' st k => by
    obtain ⟨h1, h2, ⟨u, v, h3⟩, h4, h5⟩ := st
    exact ⟨k z (by simp) _ h1, k TI (by simp) _ h2, ⟨u, v, k TO (by simp) _ h3⟩, h4.at fun o q => k i1 (by simp) o q, h5.at fun o q => k i2 (by simp) o q⟩
  item := by
    intro X hP hw hK hc i pins s σ H E I hf st hg
    subst hP hw hK
    obtain ⟨h1, h2, ⟨u0, v0, h3⟩, h4, h5⟩ := st
    obtain ⟨xs, ys, x, y, hqa, hqb, hx, hy⟩ := hg
    obtain ⟨its, rv, p, hz⟩ := I.list hqa
    obtain ⟨jts, rw', p', hz'⟩ := I.list hqb
    obtain ⟨u, hu, ru⟩ := rv.get hx
    obtain ⟨v, hv, rv'⟩ := rw'.get hy
    have e1 := Heap.lt_size h1
    have fpo : ∀ c ∈ [z, TI, TO, i1, i2], ∃ o, s.heap.get? c = some o := fun c hb => by
      obtain ⟨o4, q4, _⟩ := h4
      obtain ⟨o5, q5, _⟩ := h5
      simp only [List.mem_cons, List.not_mem_nil, or_false] at hb
      rcases hb with rfl | rfl | rfl | rfl | rfl
      · exact ⟨_, h1⟩
      · exact ⟨_, h2⟩
      · exact ⟨_, h3⟩
      · exact ⟨_, q4⟩
      · exact ⟨_, q5⟩
    refine wpAny_pyNext_zip_item D h1 h2 h3 h4 h5 p.isList p'.isList (x := u) (y := v) (by simpa using hu) (by simpa using hv) fun h' g1 g2 g3 g4 g5 g6 g7 => ⟨_, rfl, ?_⟩
    refine wpAny_letOwnedTupleGo_zip g1 fun h2' g8 g9 => ?_
    have kk : ∀ c o, c ∉ [z, TI, TO, i1, i2] → s.heap.get? c = some o → h2'.get? c = some o := fun c o hb q =>
      g9.extBut c o (fun q => hb (by simp [q])) (g7 c o (fun q => hb (by simp [q])) (fun q => hb (by simp [q])) (fun q => hb (by simp [q])) (fun q => hb (by simp [q])) q)
    have tT : h2'.get? s.heap.objs.size = some { cls := .type "tuple", data := .seq #[u, v] } := g9.extBut _ _ (Nat.ne_of_gt e1) g5
    have I1 := I.turnedNew (t' := s.toks) (T := s.heap.objs.size) (o := .tup [x, y]) kk hf (Nat.le_refl _) ⟨by show 2 ≤ sizeLine; decide, [u, v], .cons ru (.cons rv' .nil), ⟨_, tT, rfl, _, rfl⟩⟩
    have hn : H s.heap.objs.size = none := I.hok.fresh (Nat.le_refl _)
    refine ⟨.ref s.heap.objs.size, _, I1, rfl, ⟨_, x, y, rfl, hn, fun zs hy' => by rw [I.list_inj hy' hqa]; exact hx, fun zs hy' => by rw [I.list_inj hy' hqb]; exact hy, rfl⟩, ⟨g8, ?_, ⟨u, v, ?_⟩, ?_, ?_⟩, fun c hb => ?_⟩
    · exact g9.extBut _ _ D.TIz (g7 _ _ D.TIz D.TITO D.TIi1 D.TIi2 h2)
    · exact g9.extBut _ _ D.TOz g2
    · exact g3.extBut g9.extBut D.i1z
    · exact g4.extBut g9.extBut D.i2z
    · obtain ⟨f0, _⟩ := hf c hb
      obtain ⟨o, q⟩ := fpo c hb
      rw [upd_ne (Nat.ne_of_lt (Heap.lt_size q))]; exact f0
  done := by
    intro X hP hw hK hc i pins s σ H E I hf st hg
    subst hP hw hK
    obtain ⟨h1, h2, ⟨u0, v0, h3⟩, h4, h5⟩ := st
    obtain ⟨xs, ys, hqa, hqb, hx⟩ := hg
    obtain ⟨its, rv, p, hz⟩ := I.list hqa
    obtain ⟨jts, rw', p', hz'⟩ := I.list hqb
    have hl := rv.length
    have hl' := rw'.length
    refine wpAny_pyNext_zip_end (I.ok.hd hc) D h1 h2 h3 h4 h5 p.isList p'.isList ?_ fun h' eb => ⟨rfl, I.turnedL (t' := s.toks) (ch := [z, TI, TO, i1, i2]) (fun c o hb q => eb c o (fun q => hb (by simp [q])) (fun q => hb (by simp [q])) (fun q => hb (by simp [q])) (fun q => hb (by simp [q])) q) hf⟩
    rcases hx with hx | hx
    · exact .inl (by simp; omega)
    · exact .inr (by simp; omega)
  self := fun _ _ _ _ _ st h => wpAny_pyIter_zip st.1 h

section
variable {X : Cx} {l l2 : Expr} {tl tl2 : TE} {elts : List Expr} {p pos tpos : Pos}
noncomputable def iZip (K : PySem.W.Frag) (tl tl2 : TE) : TI := fun σ H R => tl σ H fun x H1 => tl2 σ H1 fun y H2 => ∃ a b, x = .ref a ∧ y = .ref b ∧ (∃ xs, SqL K H2 a xs) ∧ (∃ ys, SqL K H2 b ys) ∧ R (Itz K a b) H2
theorem pi_zip {x1} (hg : Gl X "zip") (hm : X.mg "zip" = none) (hl : PE X l tl) (hl2 : PE X l2 tl2) (hs : starEach [l, l2] X.env = [(false, eval l X.env), (false, eval l2 X.env)] := by rfl) (hs2 : starEach [l2] X.env = [(false, eval l2 X.env)] := by rfl) :
    PI X (.Tuple elts x1 tpos) (.Call (.Name "zip" p) [l, l2] [] pos) (iZip X.K tl tl2) := by
  intro pins s σ H R I h
  refine Call_ (ld_blt I hg hm boot_zip (PyProof.Rows.callWith_type1 ?_ (by rw [hs, hs2]) (by rw [hs2]; rfl)))
  rw [hs]
  show wpAny _ _ (spliced ((false, eval l X.env) :: (false, eval l2 X.env) :: backTo pos (starEach [] X.env))) _ _ s
  refine Calls.spliced_cons (thn (hl pins s σ H _ I h) fun u s1 ⟨x, H1, I1, r1, q1⟩ => Calls.spliced_cons (thn (hl2 pins s1 σ H1 _ I1 q1) fun u2 s2 ⟨y, H2, I2, r2, q2⟩ => Calls.spliced_nil ?_))
  obtain ⟨a, b, rfl, rfl, ⟨xs, hqa⟩, ⟨ys, hqb⟩, q⟩ := q2
  cases r1
  cases r2
  obtain ⟨its, rv, pl, hz⟩ := I2.list hqa
  obtain ⟨jts, rv', pl', hz'⟩ := I2.list hqb
  have la : a < s2.heap.objs.size := by obtain ⟨_, e, _⟩ := pl.isList; exact Heap.lt_size e
  have lb : b < s2.heap.objs.size := by obtain ⟨_, e, _⟩ := pl'.isList; exact Heap.lt_size e
  refine call_zip_2 pl.isList pl'.isList fun h' g1 g2 g3 g4 g5 g6 g7 => ?_
  have D : ZipApart (s2.heap.objs.size + 4) (s2.heap.objs.size + 2) (s2.heap.objs.size + 3) s2.heap.objs.size (s2.heap.objs.size + 1) a b := zipApart_new la lb
  have T := turn_zip (P := X.prog) (w := X.w) (K := X.K) (elts := elts) (x1 := x1) (pos := tpos) a b _ _ _ _ _ D
  refine T.self _ 0 _ _ _ ⟨g1, g2, ⟨_, _, g3⟩, g4, g5⟩ ?_
  refine ⟨s2.heap.objs.size + 4, _, _, _, H2, rfl, I2.kept (t' := s2.toks) g7, T, ⟨g1, g2, ⟨_, _, g3⟩, g4, g5⟩, fun c hb => ?_, q⟩
  have hb' : s2.heap.objs.size ≤ c := by
    simp only [List.mem_cons, List.not_mem_nil, or_false] at hb
    rcases hb with rfl | rfl | rfl | rfl | rfl
    · exact Nat.le_add_right _ _
    · exact Nat.le_add_right _ _
    · exact Nat.le_add_right _ _
    · exact Nat.le_refl _
    · exact Nat.le_add_right _ _
  exact I2.fpOk hb' (I2.hok.fresh hb')
end

theorem comp_zip {K : PySem.W.Frag} {a b : Addr} {xs ys : List V} {G : V → Hp → (List V → Hp → Prop) → List V → Prop} {Fin : List V → Hp → Prop} {H : Hp} (Pv : Nat → List V → Hp → Prop) (hlen : xs.length = ys.length) (h0 : Pv 0 [] H)
    (hl : ∀ i zs H, i ≤ xs.length → Pv i zs H → SqL K H a xs ∧ SqL K H b ys) (hz : ∀ i zs H, i < xs.length → Pv i zs H → zs.length < sizeLine)
    (hs : ∀ i x y zs H t, xs[i]? = some x → ys[i]? = some y → Pv i zs H → H t = none → G (.ref t) (upd H t (.tup [x, y])) (Pv (i + 1)) zs) (hd : ∀ zs H, Pv xs.length zs H → Fin zs H) :
    ∃ W : Nat → Nat → List V → Hp → Prop, (∃ m, W 0 m [] H) ∧ ∀ i m zs H, W i m zs H →
      ((Itz K a b).stop i H ∧ Fin zs H) ∨ ((Itz K a b).go i H ∧ zs.length < sizeLine ∧ ∃ Nx : List V → Hp → Prop, (∀ ys' H', Nx ys' H' → ∃ m', m' < m ∧ W (i + 1) m' ys' H') ∧ ∀ x H', (Itz K a b).yld i H x H' → G x H' Nx zs) := by
  refine ⟨fun i m zs H => m = xs.length - i ∧ i ≤ xs.length ∧ Pv i zs H, ⟨xs.length, by simp, Nat.zero_le _, h0⟩, ?_⟩
  rintro i m zs H ⟨rfl, hi, p⟩
  obtain ⟨q1, q2⟩ := hl i zs H hi p
  by_cases hlt : i < xs.length
  · have e1 : xs[i]? = some xs[i] := by simp [hlt]
    have e2 : ys[i]? = some (ys[i]'(by omega)) := by simp
    refine .inr ⟨⟨xs, ys, _, _, q1, q2, e1, e2⟩, hz i zs H hlt p, Pv (i + 1), fun ys' H' p' => ⟨xs.length - (i + 1), by omega, rfl, hlt, p'⟩, fun v H' y => ?_⟩
    obtain ⟨t, x, y, rfl, ht, y1, y2, rfl⟩ := y
    exact hs i x y zs H t (y1 xs q1) (y2 ys q2) p ht
  · have e : i = xs.length := by omega
    subst e
    exact .inl ⟨⟨xs, ys, q1, q2, .inl (Nat.le_refl _)⟩, hd zs H p⟩
end L2
namespace Ma
noncomputable def ups (b n L : Nat) : List Nat := (List.range L).map fun j => n / b ^ j % b
noncomputable def dws (b n L i : Nat) : List Nat := (List.range i).map fun j => n / b ^ (L - 1 - j) % b
theorem ups_succ (b n i : Nat) : ups b n (i + 1) = ups b n i ++ [n / b ^ i % b] := by
  unfold ups; rw [List.range_succ, List.map_append]; rfl
theorem ups_len (b n L : Nat) : (ups b n L).length = L := by simp [ups]
theorem dws_len (b n L i : Nat) : (dws b n L i).length = i := by simp [dws]
theorem ups_rev (b n L : Nat) : (ups b n L).reverse = dws b n L L := by
  apply List.ext_getElem
  · simp [ups, dws]
  · intro i h1 h2
    simp [ups, dws]
theorem div_up (b n i : Nat) : n / b ^ i / b = n / b ^ (i + 1) := by rw [Nat.div_div_eq_div_mul, Nat.pow_succ]
theorem sum_le6 : ∀ (ps : List Nat), (∀ p ∈ ps, 1 ≤ p ∧ p ≤ 6) → ps.length ≤ ps.sum ∧ ps.sum ≤ 6 * ps.length
  | [], _ => by simp
  | p :: r, h => by
    have h1 := h p (by simp)
    have h2 := sum_le6 r fun q hq => h q (List.mem_cons_of_mem _ hq)
    simp only [List.sum_cons, List.length_cons]
    omega
theorem sum_cast : ∀ (ps : List Nat), (ps.map fun (p : Nat) => (p : Int)).sum = ((ps.sum : Nat) : Int)
  | [] => rfl
  | p :: r => by simp [sum_cast r]
end Ma
namespace Ma
noncomputable def cuts : List Nat → List Int → List (List Int)
  | [], _ => []
  | p :: ps, xs => xs.take p :: cuts ps (xs.drop p)
noncomputable def psums (ps : List Nat) (xs : List Int) : List Int := (cuts ps xs).map List.sum
theorem psums_len (ps : List Nat) (xs : List Int) : (psums ps xs).length = ps.length := by
  unfold psums
  rw [List.length_map]
  induction ps generalizing xs with
  | nil => rfl
  | cons p ps ih => simp [cuts, ih]
end Ma
namespace Ma
noncomputable def wts (b n L : Nat) (ws : List Int) : List Int := List.zipWith (fun (d : Nat) (x : Int) => (d : Int) * x) (dws b n L L) ws
theorem wts_len (b n L : Nat) (ws : List Int) (h : ws.length = L) : (wts b n L ws).length = L := by
  unfold wts; rw [List.length_zipWith, dws_len, h, Nat.min_self]
theorem wts_get {b n L : Nat} {ws : List Int} {i d : Nat} {x : Int} (h1 : (dws b n L L)[i]? = some d) (h2 : ws[i]? = some x) : (wts b n L ws)[i]? = some ((d : Int) * x) := by
  unfold wts; rw [List.getElem?_zipWith, h1, h2]
theorem dws_lt {b n L d : Nat} (hb : 0 < b) (h : d ∈ dws b n L L) : d < b := by
  unfold dws at h
  obtain ⟨j, _, rfl⟩ := List.mem_map.mp h
  exact Nat.mod_lt _ hb
theorem wts_small {b n L : Nat} {ws : List Int} (hb0 : 0 < b) (hb : b ≤ 16) (hw : ∀ x ∈ ws, -9 ≤ x ∧ x ≤ 9) : ∀ y ∈ wts b n L ws, -1000 ≤ y ∧ y ≤ 1000 := by
  intro y hy
  unfold wts at hy
  obtain ⟨i, hi⟩ := List.getElem?_of_mem hy
  rw [List.getElem?_zipWith] at hi
  cases h1 : (dws b n L L)[i]? with
  | none => rw [h1] at hi; simp at hi
  | some d =>
    cases h2 : ws[i]? with
    | none => rw [h1, h2] at hi; simp at hi
    | some x =>
      rw [h1, h2] at hi
      have e : (d : Int) * x = y := by simpa using hi
      have hd := dws_lt hb0 (List.mem_of_getElem? h1)
      have hx := hw x (List.mem_of_getElem? h2)
      have d16 : (d : Int) ≤ 15 := by omega
      have d0 : (0 : Int) ≤ d := by omega
      have a1 : (d : Int) * x ≤ d * 9 := Int.mul_le_mul_of_nonneg_left hx.2 d0
      have a2 : (d : Int) * (-9) ≤ d * x := Int.mul_le_mul_of_nonneg_left hx.1 d0
      omega
theorem cuts_len (ps : List Nat) : ∀ xs : List Int, (cuts ps xs).length = ps.length := by
  induction ps with
  | nil => intro xs; rfl
  | cons p ps ih => intro xs; simp [cuts, ih]
theorem cuts_get (ps : List Nat) : ∀ (xs : List Int) (i p : Nat), ps[i]? = some p → (cuts ps xs)[i]? = some ((xs.drop (ps.take i).sum).take p) := by
  induction ps with
  | nil => intro xs i p h; simp at h
  | cons q ps ih =>
    intro xs i p h
    cases i with
    | zero => simp at h; subst h; simp [cuts]
    | succ i =>
      have h' : ps[i]? = some p := by simpa using h
      have := ih (xs.drop q) i p h'
      simp only [cuts, List.getElem?_cons_succ, this, List.take_succ_cons, List.sum_cons, List.drop_drop]
theorem cuts_mem {ps : List Nat} : ∀ {xs row : List Int}, row ∈ cuts ps xs → ∀ x ∈ row, x ∈ xs := by
  induction ps with
  | nil => intro xs row h; simp [cuts] at h
  | cons p ps ih =>
    intro xs row h x hx
    rcases List.mem_cons.mp h with rfl | h
    · exact List.mem_of_mem_take hx
    · exact List.mem_of_mem_drop (ih h x hx)
theorem cuts_short {ps : List Nat} (hp : ∀ p ∈ ps, p ≤ 6) : ∀ {xs row : List Int}, row ∈ cuts ps xs → row.length ≤ 6 := by
  induction ps with
  | nil => intro xs row h; simp [cuts] at h
  | cons p ps ih =>
    intro xs row h
    rcases List.mem_cons.mp h with rfl | h
    · have := hp p (by simp); rw [List.length_take]; omega
    · exact ih (fun q hq => hp q (List.mem_cons_of_mem _ hq)) h
end Ma
namespace Ma
noncomputable def maxL : List Int → Int
  | [] => 0
  | [x] => x
  | x :: r => max x (maxL r)
noncomputable def minL : List Int → Int
  | [] => 0
  | [x] => x
  | x :: r => min x (minL r)
theorem maxL_spec : ∀ ns : List Int, 0 < ns.length → maxL ns ∈ ns ∧ ∀ n ∈ ns, n ≤ maxL ns
  | [], h => by simp at h
  | [x], _ => by simp [maxL]
  | x :: y :: r, _ => by
    have ih := maxL_spec (y :: r) (by simp)
    have e : maxL (x :: y :: r) = max x (maxL (y :: r)) := rfl
    rw [e]
    refine ⟨?_, fun n hn => ?_⟩
    · rcases Int.le_total x (maxL (y :: r)) with h | h
      · rw [Int.max_eq_right h]; exact List.mem_cons_of_mem _ ih.1
      · rw [Int.max_eq_left h]; simp
    · rcases List.mem_cons.mp hn with rfl | hn
      · exact Int.le_max_left _ _
      · exact Int.le_trans (ih.2 n hn) (Int.le_max_right _ _)
theorem minL_spec : ∀ ns : List Int, 0 < ns.length → minL ns ∈ ns ∧ ∀ n ∈ ns, minL ns ≤ n
  | [], h => by simp at h
  | [x], _ => by simp [minL]
  | x :: y :: r, _ => by
    have ih := minL_spec (y :: r) (by simp)
    have e : minL (x :: y :: r) = min x (minL (y :: r)) := rfl
    rw [e]
    refine ⟨?_, fun n hn => ?_⟩
    · rcases Int.le_total x (minL (y :: r)) with h | h
      · rw [Int.min_eq_left h]; simp
      · rw [Int.min_eq_right h]; exact List.mem_cons_of_mem _ ih.1
    · rcases List.mem_cons.mp hn with rfl | hn
      · exact Int.min_le_left _ _
      · exact Int.le_trans (Int.min_le_right _ _) (ih.2 n hn)
theorem maxL_uniq {ns : List Int} {m : Int} (h1 : m ∈ ns) (h2 : ∀ n ∈ ns, n ≤ m) : m = maxL ns := by
  have h := maxL_spec ns (List.length_pos_of_mem h1)
  exact Int.le_antisymm (h.2 m h1) (h2 _ h.1)
theorem minL_uniq {ns : List Int} {m : Int} (h1 : m ∈ ns) (h2 : ∀ n ∈ ns, m ≤ n) : m = minL ns := by
  have h := minL_spec ns (List.length_pos_of_mem h1)
  exact Int.le_antisymm (h2 _ h.1) (h.2 m h1)
end Ma
namespace L2
open PySem PySem.Spec PyProof.Rows
section
variable {X : Cx}
theorem its_int {ns : List Int} {its : List Value} (rv : Vals (ns.map V.int) its) {i : Nat} {v : Value} (hv : its[i]? = some v) : ∃ n t, ns[i]? = some n ∧ v = .int n t := by
  cases eb : ns[i]? with
  | none =>
    have := rv.none_of (i := i) (by rw [List.getElem?_map, eb]; rfl)
    rw [this] at hv; cases hv
  | some b =>
    obtain ⟨u, hu, ru⟩ := rv.get (i := i) (x := .int b) (by rw [List.getElem?_map, eb]; rfl)
    rw [hu] at hv; cases hv
    obtain ⟨t, rfl⟩ := ru
    exact ⟨b, t, rfl, rfl⟩
theorem call_maxL (hc : X.calm = true) : CallR X (.builtin "max") (fun xs H Q => ∃ (p : Addr) (ns : List Int), xs = [.ref p] ∧ SqL X.K H p (ns.map V.int) ∧ 0 < ns.length ∧ Q (.int (Ma.maxL ns)) H) := by
  intro pins s σ H xs us Q I r h
  obtain ⟨p, ns, rfl, hq, hne, q⟩ := h
  obtain ⟨u, rfl, rx⟩ := vals1 r
  cases rx
  obtain ⟨its, rv, pl, hz⟩ := I.list hq
  have hl := pl.isList
  have hlt : p < s.heap.objs.size := by obtain ⟨_, e, _⟩ := hl; exact Heap.lt_size e
  have hn : its.toArray.size = ns.length := by rw [List.size_toArray, ← rv.length, List.length_map]
  have hval : ∀ (i : Nat) (v : Value), its.toArray[i]? = some v → ∃ t, v = .int ((fun i => (ns[i]?).getD 0) i) t := fun i v hP => by
    obtain ⟨n, t, e, rfl⟩ := its_int rv (i := i) (v := v) (by simpa using hP)
    exact ⟨t, by simp [e]⟩
  refine call_max_walk (wpAny_pyIter_list hl ?_)
  refine ⟨_, _, _, _, _, _, _, rfl, Walks.list (A := X.A.in1) (I.ok.hd hc) s.heap.objs.size p (Nat.ne_of_lt hlt) its.toArray, ⟨⟨_, Heap.get?_push_size _ rfl, rfl, rfl⟩, hl.push _⟩, fun b hb' => ?_, by omega, CmpOf.ints_gt (fun i => (ns[i]?).getD 0) hval, fun v h' tk hP hk => ?_⟩
  · show b < (s.heap.push _).objs.size
    rw [Heap.size_push]
    rcases List.mem_cons.mp hb' with rfl | hb'
    · exact Nat.lt_succ_self _
    · have e : b = p := by simpa using hb'
      rw [e]; exact Nat.lt_succ_of_lt hlt
  · rw [hn] at hP
    have ab := argBest_gt (fun i => (ns[i]?).getD 0) (ns.length - 1)
    obtain ⟨n, t, e, rfl⟩ := its_int rv (i := argBest (fun i j => decide ((ns[i]?).getD 0 > (ns[j]?).getD 0)) (ns.length - 1)) (v := v) (by simpa using hP)
    have em : n = Ma.maxL ns := Ma.maxL_uniq (List.mem_of_getElem? e) fun m hm => by
      obtain ⟨j, hj⟩ := List.getElem?_of_mem hm
      have hjl := (List.getElem?_eq_some_iff.mp hj).1
      have a2 := ab.2 j (by omega)
      simp only [hj, e, Option.getD_some] at a2
      exact a2
    subst em
    exact ⟨.int _, H, (show Inv X pins σ H { s with heap := h', toks := tk } from seen I hk), ⟨_, rfl⟩, q⟩
theorem call_minL (hc : X.calm = true) : CallR X (.builtin "min") (fun xs H Q => ∃ (p : Addr) (ns : List Int), xs = [.ref p] ∧ SqL X.K H p (ns.map V.int) ∧ 0 < ns.length ∧ Q (.int (Ma.minL ns)) H) := by
  intro pins s σ H xs us Q I r h
  obtain ⟨p, ns, rfl, hq, hne, q⟩ := h
  obtain ⟨u, rfl, rx⟩ := vals1 r
  cases rx
  obtain ⟨its, rv, pl, hz⟩ := I.list hq
  have hl := pl.isList
  have hlt : p < s.heap.objs.size := by obtain ⟨_, e, _⟩ := hl; exact Heap.lt_size e
  have hn : its.toArray.size = ns.length := by rw [List.size_toArray, ← rv.length, List.length_map]
  have hval : ∀ (i : Nat) (v : Value), its.toArray[i]? = some v → ∃ t, v = .int ((fun i => (ns[i]?).getD 0) i) t := fun i v hP => by
    obtain ⟨n, t, e, rfl⟩ := its_int rv (i := i) (v := v) (by simpa using hP)
    exact ⟨t, by simp [e]⟩
  refine call_min_walk (wpAny_pyIter_list hl ?_)
  refine ⟨_, _, _, _, _, _, _, rfl, Walks.list (A := X.A.in1) (I.ok.hd hc) s.heap.objs.size p (Nat.ne_of_lt hlt) its.toArray, ⟨⟨_, Heap.get?_push_size _ rfl, rfl, rfl⟩, hl.push _⟩, fun b hb' => ?_, by omega, CmpOf.ints_lt (fun i => (ns[i]?).getD 0) hval, fun v h' tk hP hk => ?_⟩
  · show b < (s.heap.push _).objs.size
    rw [Heap.size_push]
    rcases List.mem_cons.mp hb' with rfl | hb'
    · exact Nat.lt_succ_self _
    · have e : b = p := by simpa using hb'
      rw [e]; exact Nat.lt_succ_of_lt hlt
  · rw [hn] at hP
    have ab := argBest_lt (fun i => (ns[i]?).getD 0) (ns.length - 1)
    obtain ⟨n, t, e, rfl⟩ := its_int rv (i := argBest (fun i j => decide ((ns[i]?).getD 0 < (ns[j]?).getD 0)) (ns.length - 1)) (v := v) (by simpa using hP)
    have em : n = Ma.minL ns := Ma.minL_uniq (List.mem_of_getElem? e) fun m hm => by
      obtain ⟨j, hj⟩ := List.getElem?_of_mem hm
      have hjl := (List.getElem?_eq_some_iff.mp hj).1
      have a2 := ab.2 j (by omega)
      simp only [hj, e, Option.getD_some] at a2
      exact a2
    subst em
    exact ⟨.int _, H, (show Inv X pins σ H { s with heap := h', toks := tk } from seen I hk), ⟨_, rfl⟩, q⟩
end
end L2
namespace L2
open PySem PySem.Spec PyProof.Rows
section
variable {X : Cx}
end
theorem cut_to {xs : List V} {k : Nat} : cutV xs none (some (k : Int)) = xs.take k := by
  unfold cutV
  rw [HT.sIx_none, HT.sIx_nat, List.drop_zero, Nat.sub_zero]
  rcases Nat.le_total k xs.length with h | h
  · rw [Nat.min_eq_left h]
  · rw [Nat.min_eq_right h, List.take_of_length_le (Nat.le_refl _), List.take_of_length_le h]
end L2
namespace L2
open PySem PySem.Spec PyProof.Rows
section
variable {X : Cx}
end
end L2
namespace L2
open PySem PySem.Spec PyProof.Rows

section
variable {X : Cx} {e st : Expr} {te ts : TE} {pos p2 : Pos} {tg : Expr}
theorem turn_long {P : Program} {w : World} {K : PySem.W.Frag} {tg : Expr} (it : Addr) (lo : Int) (n : Nat) : Turn P w K tg (Itr lo n) [it] it (fun i h => IsLongIter h it (lo + (i : Nat) * 1) ((n : Int) - (i : Nat)) 1) where
  mem := by simp
  obj := fun i h st b hb => by
    have e : b = it := by simpa using hb
    subst e
    exact ⟨_, st, fun v z => by
      have z' : Data.fields _ = Data.cell v := z
      cases z'⟩
  keep := fun i h h' st k => k it (by simp) _ st
  item := by
    intro X hP hw hK hc i pins s σ H E I hf st hg
    subst hP hw hK
    obtain ⟨f0, f1, f2, f3, f4, f5⟩ := hf it (by simp)
    have W := Walks.longrange (prog := X.prog) (w := X.w) (I.ok.hd hc) it lo 1 n
    refine W.item i s _ _ hg st fun v h' tk hv st' kk => ?_
    obtain ⟨t, rfl⟩ := hv
    have I1 : Inv X pins σ H { s with heap := h', toks := tk } := I.turned (fun b o hb e => kk b o (by simpa using hb) e) f0 f1 f3 f4 f5
    refine ⟨_, rfl, go_of (s := { s with heap := h', toks := tk }) (n := "longrange_iterator") st' rfl rfl (by decide) ⟨.int (lo + i), H, I1, ⟨t, ?_⟩, ⟨rfl, rfl⟩, st', fun b hb => (hf b hb).1⟩⟩
    rw [Int.mul_one]
  done := by
    intro X hP hw hK hc i pins s σ H E I hf st hg
    subst hP hw hK
    obtain ⟨f0, f1, f2, f3, f4, f5⟩ := hf it (by simp)
    exact wpAny_pyNext_long_end (I.ok.hd hc) st (by have : n ≤ i := hg; omega) fun h' eb => ⟨rfl, I.turned (t' := s.toks) (fun b o hb e => eb b o hb e) f0 f1 f3 f4 f5⟩
  self := fun _ _ _ _ _ st h => wpAny_pyIter_longiter st h
theorem range_itA {pins : List (Addr × Obj)} {σ : St} {H : Hp} {s : Shared} {R : It → Hp → Prop} {E : Value → Shared → Prop} {lo hi : Int} {t u v : Tok} {tk : Nat} (I : Inv X pins σ H s)
    (q : R (Itr lo (hi - lo).toNat) H) : wpAny (model X.prog X.w) X.A (pyIter (.ref s.heap.objs.size)) (PIE X pins σ tg R) E { s with heap := s.heap.push { cls := .type "range", data := .fields #[.int lo t, .int hi u, .int 1 v] }, toks := tk } := by
  have I1 : Inv X pins σ H { s with heap := s.heap.push { cls := .type "range", data := .fields #[.int lo t, .int hi u, .int 1 v] }, toks := tk } := I.kept fun b o e => Heap.get?_push_of_some _ e
  cases hsm : Builtin.Range.small lo hi 1 with
  | true =>
    refine wpAny_pyIter_range (IsRange.new ..) hsm ?_
    refine ⟨(s.heap.push { cls := .type "range", data := .fields #[.int lo t, .int hi u, .int 1 v] }).objs.size, [(s.heap.push { cls := .type "range", data := .fields #[.int lo t, .int hi u, .int 1 v] }).objs.size], _, _, H, rfl,
      I1.kept (t' := tk) fun b o e => Heap.get?_push_of_some _ e, turn_range _ lo (hi - lo).toNat, ?_, fun b hb => ?_, q⟩
    · have e1 : lo + ((0 : Nat) : Int) * 1 = lo := by simp
      have e2 : (((hi - lo).toNat : Nat) : Int) - ((0 : Nat) : Int) = Builtin.Range.rangeSize lo hi 1 := by rw [rangeSize_one]; split <;> omega
      show IsRangeIter _ _ (lo + ((0 : Nat) : Int) * 1) ((((hi - lo).toNat : Nat) : Int) - ((0 : Nat) : Int)) 1
      rw [e1, e2]
      exact Heap.get?_push_size _ rfl
    · have e : b = (s.heap.push { cls := .type "range", data := .fields #[.int lo t, .int hi u, .int 1 v] }).objs.size := by simpa using hb
      subst e
      exact I1.fpOk (Nat.le_refl _) (I1.hok.fresh (Nat.le_refl _))
  | false =>
    refine wpAny_pyIter_longrange (IsRange.new ..) hsm ?_
    refine ⟨(s.heap.push { cls := .type "range", data := .fields #[.int lo t, .int hi u, .int 1 v] }).objs.size, [(s.heap.push { cls := .type "range", data := .fields #[.int lo t, .int hi u, .int 1 v] }).objs.size], _, _, H, rfl,
      I1.kept (t' := tk) fun b o e => Heap.get?_push_of_some _ e, turn_long _ lo (hi - lo).toNat, ?_, fun b hb => ?_, q⟩
    · have e1 : lo + ((0 : Nat) : Int) * 1 = lo := by simp
      have e2 : (((hi - lo).toNat : Nat) : Int) - ((0 : Nat) : Int) = Builtin.Range.rangeSize lo hi 1 := by rw [rangeSize_one]; split <;> omega
      show IsLongIter _ _ (lo + ((0 : Nat) : Int) * 1) ((((hi - lo).toNat : Nat) : Int) - ((0 : Nat) : Int)) 1
      rw [e1, e2]
      exact Heap.get?_push_size _ rfl
    · have e : b = (s.heap.push { cls := .type "range", data := .fields #[.int lo t, .int hi u, .int 1 v] }).objs.size := by simpa using hb
      subst e
      exact I1.fpOk (Nat.le_refl _) (I1.hok.fresh (Nat.le_refl _))
noncomputable def iRngA (ta : TA) : TI := fun σ H R => ta σ H fun vs H1 => ∃ i j : Int, vs = [.int i, .int j] ∧ R (Itr i (j - i).toNat) H1
theorem pi_rangeA {a b : Expr} {ta : TA} {p pos : Pos} (hg : Gl X "range") (hm : X.mg "range" = none) (ha : PA X [a, b] ta) (hs : starEach [a, b] X.env = [(false, eval a X.env), (false, eval b X.env)] := by rfl) (hs2 : starEach [b] X.env = [(false, eval b X.env)] := by rfl) :
    PI X tg (.Call (.Name "range" p) [a, b] [] pos) (iRngA ta) := by
  intro pins s σ H R I h
  refine Call_ (ld_blt I hg hm boot_range (PyProof.Rows.callWith_type1 (thn (ha pos pins s σ H _ I h) fun us s1 ⟨vs, H1, I1, r1, q1⟩ => ?_) (by rw [hs, hs2]) (by rw [hs2]; rfl)))
  obtain ⟨i, j, e, q⟩ := q1
  subst e
  cases r1 with
  | cons r rr =>
    cases rr with
    | cons r' rr =>
      cases rr
      obtain ⟨t, rfl⟩ := r
      obtain ⟨t', rfl⟩ := r'
      exact call_range_2 (range_itA I1 q)
end
end L2
namespace Me
noncomputable def look (f : List (Int × Int)) (k : Int) : Option Int := (f.find? fun q => decide (q.1 = k)).map (·.2)
noncomputable abbrev keys (f : List (Int × Int)) : List Int := f.map (·.1)
structure Ok (f : List (Int × Int)) (m : Int) : Prop where
  nd : (keys f).Nodup
  bd : ∀ x ∈ keys f, -m ≤ x ∧ x ≤ m
end Me
namespace L2
open PySem PySem.Spec PyProof.Rows

section
variable {κ : Type} [DecidableEq κ]
end


noncomputable abbrev KT (H : Hp) : List (List Key × V) → List (List Key × Addr × Value) → Prop := Paired fun p q => p.1 = q.1 ∧ H q.2.1 = some (.tup (p.1.map kV)) ∧ RelV p.2 q.2.2
section
variable {P : Program} {w : World} {H : Hp} {h : Heap} {a : Addr}
theorem rd_of {u : HO} (ok : HOk P w H h) (e : Rd H a u) : ObjOk P w H h a u := e.ok ok
theorem dk_rd {kvs : List (Key × V)} (ok : HOk P w H h) (e : Rd H a (.dK kvs)) : kvs.length ≤ sizeLine ∧ (a == sysModules) = false ∧ ∃ vs, KV kvs vs ∧ h.DictOf (mixKind P w) a vs :=
  show ObjOk P w H h a (.dK kvs) from rd_of ok e
theorem dk_of {kvs : List (Key × V)} (ok : HOk P w H h) (e : H a = some (.dK kvs)) : kvs.length ≤ sizeLine ∧ (a == sysModules) = false ∧ ∃ vs, KV kvs vs ∧ h.DictOf (mixKind P w) a vs := dk_rd ok (.inl e)
end

section
variable {X : Cx} {pins : List (Addr × Obj)} {σ : St} {H : Hp} {s : Shared} {a : Addr} {y v : V} {u r : Value} {o : Option V} {A : Around} {E : Value → Shared → Prop}

theorem Inv.big (I : Inv X pins σ H s) : sysModules < s.heap.objs.size := by
  have h : mainGlobals < s.heap.objs.size := (I.mod.glob.keeps I.bk).lt
  exact Nat.lt_trans (by decide) h

end

section
variable {X : Cx} {pins : List (Addr × Obj)} {σ : St} {H : Hp} {s : Shared} {a : Addr} {kvs : List (Key × V)} {k : Key} {u : Value} {A : Around} {E : Value → Shared → Prop}
end


section
variable {X : Cx} {o i e value : Expr} {pos pos' tpos : Pos} {td ty tv : TE}
end


theorem dk_empty {P : Program} {w : World} {H : Hp} (h : Heap) (hb : sysModules < h.objs.size) : ObjOk P w H (h.push { cls := .type "dict", data := .dict #[] }) h.objs.size (.dK []) :=
  ⟨Nat.zero_le _, beq_eq_false_iff_ne.mpr (Ne.symm (Nat.ne_of_lt hb)), [], .nil, Heap.DictOf.new h⟩
noncomputable def tDNewK : TE := fun _ H Q => ∀ p, H p = none → Q (.ref p) (upd H p (.dK []))
section
variable {X : Cx} {pos : Pos}
theorem pe_dnewK : PE X (.Dict [] [] pos) tDNewK := fun pins s σ H Q I h =>
  wpAny_Dict_empty ⟨.ref s.heap.objs.size, _, I.laid (a := s.heap.objs.size) (o := .dK []) (t' := s.toks) (fun _ _ q => Heap.get?_push_of_some _ q) (Nat.le_refl _) (dk_empty s.heap I.big), rfl, h _ (I.hok.fresh (Nat.le_refl _))⟩
end

noncomputable abbrev VV : List (V × V) → List (Value × Value) → Prop := Paired fun p q => RelV p.1 q.1 ∧ RelV p.2 q.2
section
variable {X : Cx} {pins : List (Addr × Obj)} {σ : St} {H : Hp} {s : Shared} {a : Addr} {y d : V} {u r : Value} {o : Option V} {A : Around} {E : Value → Shared → Prop}
end

section
variable {X : Cx} {o e f : Expr} {apos cpos : Pos} {td ty tx : TE}
end

section
variable {X : Cx} {pins : List (Addr × Obj)} {σ : St} {H : Hp} {s : Shared} {a : Addr} {kvs : List (Key × V)} {A : Around} {E : Value → Shared → Prop}
end


section
variable {X : Cx} {pins : List (Addr × Obj)} {σ : St} {H : Hp} {s : Shared} {a : Addr} {y : V} {u : Value} {A : Around} {E : Value → Shared → Prop}
end
end L2

namespace L2
open PySem PySem.Spec PyProof.Rows
section
variable {X : Cx}
end
section
variable {κ : Type} [DecidableEq κ]
end
end L2
namespace L2
open PySem PySem.Spec PyProof.Rows
section
variable {X : Cx} {pins : List (Addr × Obj)} {σ : St} {H : Hp} {s : Shared} {a : Addr} {o : Obj} {kvs : List (Key × V)}
end
end L2
namespace L2
open PySem PySem.Spec PyProof.Rows
end L2
namespace Srt
open PySem PyProof.Rows
structure Ok (a₀ : Array Keyed) (p : Array (Nat × Nat × Nat)) (st : SortSt) : Prop where
  perm : (arrOf st).Perm a₀
  kind : kindOf st = oneType'
  failed : failedOf st = none
  pend : pendingOf st = p
noncomputable abbrev IntK (x : Keyed) : Prop := ∃ n t, x.1 = .int n t
section
variable {prog : Program} {w : World} {A : Around} {E : Value → Shared → Prop} {s : Shared} {a₀ : Array Keyed} {p : Array (Nat × Nat × Nat)} {st : SortSt}
end
end Srt
namespace Srt
open PySem PyProof.Rows
section
variable {prog : Program} {w : World} {A : Around} {E : Value → Shared → Prop} {s : Shared} {st : SortSt}
end
end Srt
namespace Srt
open PySem PyProof.Rows
noncomputable abbrev Outs (a b : Array Keyed) (o : Array Keyed) (i j : Nat) : Prop := o.toList.Perm (a.toList.take i ++ b.toList.take j)
section
variable {a b o : Array Keyed} {i j k : Nat}
end
end Srt
namespace Srt
open PySem PyProof.Rows
noncomputable abbrev Still (a₀ : Array Keyed) (p : Array (Nat × Nat × Nat)) (x : Array Keyed) (st : SortSt) : Prop := Ok a₀ p st ∧ arrOf st = x
section
variable {prog : Program} {w : World} {A : Around} {E : Value → Shared → Prop} {s : Shared} {st : SortSt} {a₀ x₀ : Array Keyed} {p : Array (Nat × Nat × Nat)}
noncomputable abbrev LoOn (a b : Array Keyed) (m : Nat) (o : Array Keyed) (i j : Nat) : Prop := Outs a b o i j ∧ i + 1 < a.size ∧ j < b.size ∧ m ≤ i + j
theorem nbeq {a b : Nat} (h : ¬ a = b) : ¬ (a == b) = true := fun z => h (beq_iff_eq.mp z)
theorem wpS_beq {α : Type} {x y : Nat} {a b : StateT SortSt Sem α} {Q : α → SortSt → Prop} (h1 : x = y → wpS (model prog w) A E s a Q st) (h2 : ¬ x = y → wpS (model prog w) A E s b Q st) : wpS (model prog w) A E s (if (x == y) = true then a else b) Q st := by
  by_cases h : x = y
  · rw [if_pos (beq_iff_eq.mpr h)]; exact h1 h
  · rw [if_neg (nbeq h)]; exact h2 h
theorem wpS_ite {α : Type} {c : Prop} [Decidable c] {a b : StateT SortSt Sem α} {Q : α → SortSt → Prop} (h1 : c → wpS (model prog w) A E s a Q st) (h2 : ¬ c → wpS (model prog w) A E s b Q st) : wpS (model prog w) A E s (if c then a else b) Q st := by
  by_cases h : c
  · rw [if_pos h]; exact h1 h
  · rw [if_neg h]; exact h2 h
theorem via1 {T : Nat → Prop} {G : Prop} (key : ∀ g', T g') (main : (∀ g', T g') → G) : G := main key
theorem via3 {T : Array Keyed → Nat → Nat → Prop} {G : Prop} (P : Array Keyed → Nat → Prop) (key : ∀ o i k, P o i → T o i k) (main : (∀ o i k, P o i → T o i k) → G) : G := main key
end
end Srt
namespace Srt
open PySem PyProof.Rows
noncomputable abbrev Behind (a b : Array Keyed) (o : Array Keyed) (i j : Nat) : Prop := o.toList.Perm (a.toList.drop i ++ b.toList.drop j)
section
variable {a b o : Array Keyed} {i j k : Nat}
end
section
variable {prog : Program} {w : World} {A : Around} {E : Value → Shared → Prop} {s : Shared} {st : SortSt} {a₀ x₀ : Array Keyed} {p : Array (Nat × Nat × Nat)}
noncomputable abbrev HiOn (a b : Array Keyed) (m : Nat) (o : Array Keyed) (i j : Nat) : Prop := Behind a b o i j ∧ (1 ≤ i ∧ i ≤ a.size) ∧ (2 ≤ j ∧ j ≤ b.size) ∧ m + i + j ≤ a.size + b.size
end
end Srt
namespace Srt
open PySem PyProof.Rows
section
variable {prog : Program} {w : World} {A : Around} {E : Value → Shared → Prop} {s : Shared} {st : SortSt} {a₀ x₀ : Array Keyed} {p : Array (Nat × Nat × Nat)}
end
end Srt
namespace Srt
open PySem PyProof.Rows
section
variable {prog : Program} {w : World} {A : Around} {E : Value → Shared → Prop} {s : Shared} {st : SortSt} {a₀ x₀ : Array Keyed} {p : Array (Nat × Nat × Nat)}
end
end Srt
namespace Srt
open PySem PyProof.Rows
section
variable {prog : Program} {w : World} {A : Around} {E : Value → Shared → Prop} {s : Shared}
end
end Srt
namespace Srt
open PySem PyProof.Rows
section
variable {prog : Program} {w : World} {A : Around} {E : Value → Shared → Prop} {s : Shared} {T : String} {r d : Addr} {n : Nat} {P : Nat → Value → Prop} {OK : Heap → Prop}
end
end Srt
namespace L2
open PySem PySem.Spec PyProof.Rows
section
variable {X : Cx}
end
end L2
namespace PySem
open Sem (wp)
end PySem
namespace PySem
open Sem (wp)
namespace F
end F
section
variable {prog : Program} {w : World} {A : Around} {R : Result → Shared → Prop} {I : Addr} {fp wr : List Addr} {G : Array GenState → Array GenState → Prop} {n : Nat} {P : Nat → Value → Prop} {St : Nat → Shared → Prop}
variable {K : Type} [DecidableEq K] {knd : KeyKind prog w K}
end
end PySem
namespace PySem
open Sem (wp)
section
variable {prog : Program} {w : World} {A : Around} {E : Value → Shared → Prop} {s : Shared}
variable {K : Type} [DecidableEq K] {knd : KeyKind prog w K}
end
end PySem
namespace L2
open PySem PySem.Spec PyProof.Rows
noncomputable abbrev PairsAt (H : Hp) (ts : List Addr) (kvs : List (Key × V)) : Prop := Paired (fun (t : Addr) (p : Key × V) => H t = some (.tup [kV p.1, p.2])) ts kvs
section
variable {X : Cx} {o : Expr} {td : TE}
end
section
variable {X : Cx}
end
end L2
namespace L2
open PySem PySem.Spec PyProof.Rows
section
variable {X : Cx}
end
end L2
namespace L2
open PySem PySem.Spec PyProof.Rows
mutual
inductive Tree (H : Hp) : V → PyData → Prop
  | non : Tree H .non .none
  | bl (b : Bool) : Tree H (.bl b) (.bool b)
  | int (i : Int) : Tree H (.int i) (.int i)
  | str (x : Str) : Tree H (.str x) (.str x)
  | lst {a : Addr} {xs : List V} {ds : List PyData} (e : H a = some (.lst xs)) (r : Trees H xs ds) : Tree H (.ref a) (.list ds)
  | tup {a : Addr} {xs : List V} {ds : List PyData} (e : H a = some (.tup xs)) (r : Trees H xs ds) : Tree H (.ref a) (.tuple ds)
  | emp {a : Addr} (e : H a = some (.dK [])) : Tree H (.ref a) (.dict [])
inductive Trees (H : Hp) : List V → List PyData → Prop
  | nil : Trees H [] []
  | cons {x : V} {xs : List V} {d : PyData} {ds : List PyData} (h : Tree H x d) (t : Trees H xs ds) : Trees H (x :: xs) (d :: ds)
end
mutual
theorem Tree.keep {H H' : Hp} (s : Same H H') : ∀ {x : V} {d : PyData}, Tree H x d → Tree H' x d
  | _, _, .non => .non
  | _, _, .bl b => .bl b
  | _, _, .int i => .int i
  | _, _, .str x => .str x
  | _, _, .lst e r => .lst (s _ _ e) (Trees.keep s r)
  | _, _, .tup e r => .tup (s _ _ e) (Trees.keep s r)
  | _, _, .emp e => .emp (s _ _ e)
theorem Trees.keep {H H' : Hp} (s : Same H H') : ∀ {xs : List V} {ds : List PyData}, Trees H xs ds → Trees H' xs ds
  | _, _, .nil => .nil
  | _, _, .cons h t => .cons (Tree.keep s h) (Trees.keep s t)
end
section
variable {P : Program} {w : World} {H : Hp} {h : Heap}
theorem empty_reads {a : Addr} (ok : HOk P w H h) (e : H a = some (.dK [])) : Reads h (.ref a) (.dict []) [a] := by
  obtain ⟨_, _, vs, r, hd⟩ := dk_of ok e
  cases r
  obtain ⟨o, es, ep, ho, hx, hdat, _, hp, _⟩ := hd
  have e0 : es.toList = [] := by
    generalize es.toList = l at hp
    cases hp
    rfl
  exact Reads.dict (kvs := []) (as := []) (bs := []) ho hx.1 hdat (by rw [e0]; exact .nil) (by rw [e0]; exact .nil)
mutual
theorem Tree.reads (ok : HOk P w H h) : ∀ {x : V} {d : PyData}, Tree H x d → ∀ v, RelV x v → ∃ as, Reads h v d as ∧ ∀ b ∈ as, H b ≠ none
  | _, _, .non, v, r => by cases r; exact ⟨_, .none, by simp⟩
  | _, _, .bl b, v, r => by cases r; exact ⟨_, .bool b, by simp⟩
  | _, _, .int i, v, r => by obtain ⟨t, rfl⟩ := r; exact ⟨_, .int i t, by simp⟩
  | _, _, .str x, v, r => by obtain ⟨t, rfl⟩ := r; exact ⟨_, .str x t, by simp⟩
  | _, _, .lst (a := a) e rs, v, r => by
    cases r
    obtain ⟨_, its, n, rv, e1⟩ := ok a _ e
    obtain ⟨as, h1, h2⟩ := Trees.reads ok rs its rv
    refine ⟨_, .list e1 rfl rfl (by simpa using h1), fun b hb => ?_⟩
    rcases List.mem_cons.mp hb with rfl | hb
    · rw [e]; simp
    · exact h2 b hb
  | _, _, .tup (a := a) e rs, v, r => by
    cases r
    obtain ⟨_, its, rv, o, e1, c, n, d⟩ := ok a _ e
    obtain ⟨as, h1, h2⟩ := Trees.reads ok rs its rv
    exact ⟨_, .tuple e1 c d (by simpa using h1), h2⟩
  | _, _, .emp (a := a) e, v, r => by
    cases r
    refine ⟨_, empty_reads ok e, fun b hb => ?_⟩
    have z : b = a := by simpa using hb
    rw [z, e]; simp
theorem Trees.reads (ok : HOk P w H h) : ∀ {xs : List V} {ds : List PyData}, Trees H xs ds → ∀ its, Vals xs its → ∃ as, ReadsAll h its ds as ∧ ∀ b ∈ as, H b ≠ none
  | _, _, .nil, its, r => by cases r; exact ⟨_, .nil, by simp⟩
  | _, _, .cons q t, its, r => by
    cases r with
    | cons r1 r2 =>
      obtain ⟨as, h1, h2⟩ := Tree.reads ok q _ r1
      obtain ⟨bs, h3, h4⟩ := Trees.reads ok t _ r2
      refine ⟨_, .cons h1 h3, fun b hb => ?_⟩
      rcases List.mem_append.mp hb with hb | hb
      · exact h2 b hb
      · exact h4 b hb
end
end
section
variable {X : Cx}
theorem ReadsAll.nil_addrs {h : Heap} {vs : List Value} {as : List Addr} : ReadsAll h vs [] as → as = []
  | .nil => rfl
theorem call_repr (hg : X.A.guards = some []) (hu : X.A.units + 64 < cLine) : CallR X (.builtin "repr") (fun xs H Q => ∃ x d, xs = [x] ∧ Tree H x d ∧ d.showable = true ∧ d.depth ≤ 50 ∧ d.shown.length ≤ sizeLine ∧ (d.hasDict = true → d = .dict []) ∧ Q (.str d.shown) H) := by
  intro pins s σ H xs us Q I r h
  obtain ⟨x, d, rfl, t, hs, hd, hz, hn, q⟩ := h
  obtain ⟨u, rfl, rx⟩ := vals1 r
  have viaRef : ∀ a, x = .ref a → wpAny (model X.prog X.w) X.A (call (.builtin "repr") [u]) (EP X pins σ Q) X.xe s := fun a ea => by
    subst ea
    obtain ⟨as, h1, h2⟩ := Tree.reads I.hok t u rx
    cases rx
    have hsys : d.hasDict = true → sysModules ∉ as := fun hh z => by
      have e := hn hh
      subst e
      cases t with
      | emp e =>
        obtain ⟨_, hS, _⟩ := dk_of I.hok e
        cases h1 with
        | dict q1 q2 q3 q4 q5 =>
          have e4 := ReadsAll.nil_addrs q4
          have e5 := ReadsAll.nil_addrs q5
          subst e4 e5
          have z' : sysModules = a := by simpa using z
          rw [← z'] at hS
          simp at hS
    refine repr_of_reads' h1 hs hsys hg (by omega) (fun b o e => e) (fun h' tk2 tk hk => ?_) hz
    exact ⟨.str d.shown, H, I.kept (t' := tk) hk, ⟨_, rfl⟩, q⟩
  cases t with
  | non => cases rx; exact P.repr_of_none ⟨.str _, H, I.tok _, ⟨_, rfl⟩, q⟩
  | bl b => cases rx; exact P.repr_of_bool ⟨.str _, H, I.tok _, ⟨_, rfl⟩, q⟩
  | int i => obtain ⟨tk, rfl⟩ := rx; exact P.repr_of_int (by simpa [PyData.showable] using hs) ⟨.str _, H, I.tok _, ⟨_, rfl⟩, q⟩
  | str y => obtain ⟨tk, rfl⟩ := rx; exact P.repr_of_str ⟨.str _, H, I.tok _, ⟨_, rfl⟩, q⟩ hz
  | lst e rr => exact viaRef _ rfl
  | tup e rr => exact viaRef _ rfl
  | emp e => exact viaRef _ rfl
end
section
variable {X : Cx} {e : Expr} {te : TE}
end
end L2
namespace L2
open PySem PySem.Spec PyProof.Rows
section
variable {P : Program} {w : World} {H : Hp} {h : Heap}
mutual
theorem Tree.shows (ok : HOk P w H h) : ∀ {x : V} {d : PyData}, Tree H x d → ∀ v, RelV x v → d.showable = true → d.shown.length ≤ sizeLine → ∃ bs, ReadAtMost h d.depth bs ∧ ReprK P w bs h d.depth v d.shown
  | _, _, .non, v, r, _, _ => by
    cases r
    refine ⟨[], (fun _ z => nomatch z), ?_⟩
    simp only [PyData.shown]
    exact ReprK.of_is ReprIs.none _ _ _
  | _, _, .bl b, v, r, _, _ => by
    cases r
    refine ⟨[], (fun _ z => nomatch z), ?_⟩
    simp only [PyData.shown]
    exact ReprK.of_is (ReprIs.bool b) _ _ _
  | _, _, .int i, v, r, hs, _ => by
    obtain ⟨t, rfl⟩ := r
    refine ⟨[], (fun _ z => nomatch z), ?_⟩
    simp only [PyData.shown]
    exact ReprK.of_is (ReprIs.int t (by simpa [PyData.showable] using hs)) _ _ _
  | _, _, .str x, v, r, _, hz => by
    obtain ⟨t, rfl⟩ := r
    refine ⟨[], (fun _ z => nomatch z), ?_⟩
    simp only [PyData.shown] at hz ⊢
    exact ReprK.of_is (ReprIs.str x t hz) _ _ _
  | _, _, .lst (a := a) (ds := ds) e rs, v, r, hs, hz => by
    cases r
    have tr : Tree H (.ref a) (.list ds) := .lst e rs
    obtain ⟨as, rd, _⟩ := Tree.reads ok tr (.ref a) rfl
    obtain ⟨_, its, n, rv, e1⟩ := ok a _ e
    simp only [PyData.shown] at hz
    obtain ⟨bs, hb, hk⟩ := Trees.shows ok rs its rv (by simpa [PyData.showable] using hs) (fun t ht => Nat.le_trans (listText_mem_le ht) hz)
    have far : a ∉ bs := not_mem_of_deeper rd (by simp only [PyData.depth]; omega) hb
    refine ⟨a :: bs, ReadAtMost.cons rd (by simp only [PyData.depth]; omega) hb, ?_⟩
    simp only [PyData.depth, PyData.shown]
    cases its with
    | nil =>
      cases rv
      cases rs
      simp only [PyData.shownAll, listText_nil]
      exact ReprK.listEmpty e1 rfl rfl
    | cons u l => exact ReprK.list e1 rfl rfl far (by simpa using hk.length_eq) (fun i y z => hk.item i y (by simpa using z))
  | _, _, .tup (a := a) (ds := ds) e rs, v, r, hs, hz => by
    cases r
    have tr : Tree H (.ref a) (.tuple ds) := .tup e rs
    obtain ⟨as, rd, _⟩ := Tree.reads ok tr (.ref a) rfl
    obtain ⟨_, its, rv, o, e1, c, n, d⟩ := ok a _ e
    simp only [PyData.shown] at hz
    obtain ⟨bs, hb, hk⟩ := Trees.shows ok rs its rv (by simpa [PyData.showable] using hs) (fun t ht => Nat.le_trans (tupleText_mem_le ht) hz)
    have far : a ∉ bs := not_mem_of_deeper rd (by simp only [PyData.depth]; omega) hb
    refine ⟨a :: bs, ReadAtMost.cons rd (by simp only [PyData.depth]; omega) hb, ?_⟩
    simp only [PyData.depth, PyData.shown]
    exact ReprK.tuple e1 c d far (by simpa using hk)
  | _, _, .emp (a := a) e, v, r, _, _ => by
    cases r
    have rd := empty_reads ok e
    obtain ⟨_, hS, vs, rk, hd⟩ := dk_of ok e
    cases rk
    obtain ⟨o, es, ep, ho, hx, hdat, _, hp, _⟩ := hd
    have e0 : es.toList = [] := by
      generalize es.toList = l at hp
      cases hp
      rfl
    refine ⟨[a], ReadAtMost.cons (n := PyData.depthKv []) rd (by simp only [PyData.depth]; omega) (fun _ z => nomatch z), ?_⟩
    simp only [PyData.depth, PyData.shown]
    have nil : ReprAllK P w [] h (PyData.depthKv []) [] (PyData.shownAll []) := by simp only [PyData.shownAll]; exact .nil
    refine ReprK.dict ho hx.1 hdat hS (by simp) ?_
    have z := ReprEntriesK.of_two (prog := P) (w := w) (as := []) (h₀ := h) (d := PyData.depthKv []) es.toList [] [] (by rw [e0]; exact nil) (by rw [e0]; exact nil)
    simpa [PyData.shownKv] using z
theorem Trees.shows (ok : HOk P w H h) : ∀ {xs : List V} {ds : List PyData}, Trees H xs ds → ∀ its, Vals xs its → PyData.showableAll ds = true → (∀ t ∈ PyData.shownAll ds, t.length ≤ sizeLine) →
    ∃ bs, ReadAtMost h (PyData.depthAll ds) bs ∧ ReprAllK P w bs h (PyData.depthAll ds) its (PyData.shownAll ds)
  | _, _, .nil, its, r, _, _ => by
    cases r
    exact ⟨[], (fun _ z => nomatch z), by simp only [PyData.shownAll]; exact .nil⟩
  | _, _, .cons q t, its, r, hs, hz => by
    cases r with
    | cons r1 r2 =>
      simp only [PyData.showableAll, Bool.and_eq_true] at hs
      simp only [PyData.shownAll, List.mem_cons, forall_eq_or_imp] at hz
      obtain ⟨b1, m1, k1⟩ := Tree.shows ok q _ r1 hs.1 hz.1
      obtain ⟨b2, m2, k2⟩ := Trees.shows ok t _ r2 hs.2 hz.2
      simp only [PyData.depthAll, PyData.shownAll]
      refine ⟨b1 ++ b2, (m1.mono (Nat.le_max_left _ _)).append (m2.mono (Nat.le_max_right _ _)), ?_⟩
      exact .cons ((k1.more fun b hb => List.mem_append_left _ hb).level_le (Nat.le_max_left _ _)) (k2.more_le (fun b hb => List.mem_append_right _ hb) (Nat.le_max_right _ _))
end
end
section
variable {X : Cx}
theorem call_reprT (hg : X.A.guards = some []) (hu : X.A.units + 64 < cLine) : CallR X (.builtin "repr") (fun xs H Q => ∃ x d, xs = [x] ∧ Tree H x d ∧ d.showable = true ∧ d.depth ≤ 50 ∧ d.shown.length ≤ sizeLine ∧ Q (.str d.shown) H) := by
  intro pins s σ H xs us Q I r h
  obtain ⟨x, d, rfl, t, hs, hd, hz, q⟩ := h
  obtain ⟨u, rfl, rx⟩ := vals1 r
  cases t with
  | non => exact call_repr hg hu pins s σ H [.non] [u] Q I r ⟨_, _, rfl, .non, hs, hd, hz, fun z => by simp [PyData.hasDict] at z, q⟩
  | bl b => exact call_repr hg hu pins s σ H [.bl b] [u] Q I r ⟨_, _, rfl, .bl b, hs, hd, hz, fun z => by simp [PyData.hasDict] at z, q⟩
  | int i => exact call_repr hg hu pins s σ H [.int i] [u] Q I r ⟨_, _, rfl, .int i, hs, hd, hz, fun z => by simp [PyData.hasDict] at z, q⟩
  | str y => exact call_repr hg hu pins s σ H [.str y] [u] Q I r ⟨_, _, rfl, .str y, hs, hd, hz, fun z => by simp [PyData.hasDict] at z, q⟩
  | emp e => exact call_repr hg hu pins s σ H _ [u] Q I r ⟨_, _, rfl, .emp e, hs, hd, hz, fun _ => rfl, q⟩
  | lst e rs =>
    rename_i a ys ds
    cases rx
    obtain ⟨as, rd, _⟩ := Tree.reads I.hok (Tree.lst e rs) (.ref a) rfl
    obtain ⟨_, its, n, rv, e1⟩ := I.hok a _ e
    simp only [PyData.shown] at hz
    simp only [PyData.depth] at hd
    obtain ⟨bs, hb, hk⟩ := Trees.shows I.hok rs its rv (by simpa [PyData.showable] using hs) (fun t ht => Nat.le_trans (listText_mem_le ht) hz)
    have far : a ∉ bs := not_mem_of_deeper rd (by simp only [PyData.depth]; omega) hb
    have fin : ∀ h' (t tk : Nat), (∀ b o, s.heap.get? b = some o → h'.get? b = some o) → EP X pins σ Q (.str (listText (PyData.shownAll ds)) t) { s with heap := h', toks := tk } := fun h' t tk kk =>
      ⟨.str _, H, I.kept (t' := tk) kk, ⟨_, rfl⟩, by simpa only [PyData.shown] using q⟩
    refine call_repr_slot (by omega) (show s.TypeIs (.ref a) "list" from ⟨_, e1, rfl⟩) F.slot_list_repr.toG ?_
    cases its with
    | nil =>
      cases rv
      cases rs
      refine call_list_repr_empty ⟨_, e1, rfl⟩ e1 rfl ⟨_, _, rfl, ?_⟩
      simpa only [PyData.shownAll, listText_nil] using fin s.heap _ _ fun _ _ z => z
    | cons v l =>
      exact call_list_reprK e1 rfl rfl far (by simpa using hk.length_eq) (fun i y z => hk.item i y (by simpa using z)) hg (fun b _ => Clear.nil b) (by show X.A.units + 1 + (PyData.depthAll ds + 1) < cLine; omega) (fun _ _ z => z) (fun h' t tk kk => ⟨_, _, rfl, fin h' t tk kk⟩) hz
  | tup e rs =>
    rename_i a ys ds
    cases rx
    obtain ⟨as, rd, _⟩ := Tree.reads I.hok (Tree.tup e rs) (.ref a) rfl
    obtain ⟨_, its, rv, o, e1, c, n, d⟩ := I.hok a _ e
    simp only [PyData.shown] at hz
    simp only [PyData.depth] at hd
    obtain ⟨bs, hb, hk⟩ := Trees.shows I.hok rs its rv (by simpa [PyData.showable] using hs) (fun t ht => Nat.le_trans (tupleText_mem_le ht) hz)
    have far : a ∉ bs := not_mem_of_deeper rd (by simp only [PyData.depth]; omega) hb
    refine call_repr_slot (by omega) (show s.TypeIs (.ref a) "tuple" from ⟨_, e1, c⟩) F.slot_tuple_repr ?_
    exact call_tuple_reprK e1 c d far (by simpa using hk) hg (fun b _ => Clear.nil b) (by show X.A.units + 1 + (PyData.depthAll ds + 1) < cLine; omega) (fun _ _ z => z) (fun h' t tk kk => ⟨_, _, rfl, ⟨.str _, H, I.kept (t' := tk) kk, ⟨_, rfl⟩, by simpa only [PyData.shown] using q⟩⟩) hz
end
end L2
namespace L2
open PySem PySem.Spec PyProof.Rows

structure Def (P : Program) (w : World) (K : PySem.W.Frag) (mg : Str → Option Value) (base : Heap) (k : Nat) (x : Str) (ps : List Str) (sp : Sp) : Prop where
  ex : ∃ f fd, FnOk P w K mg base CX0 k f fd ps sp ∧ mg x = some (.ref f) ∧ PySem.W.keepIn K (.ref f) = true ∧ Binds K fd ps []
section
variable {X : Cx} {k : Nat} {x : Str} {ps : List Str} {sp : Sp} {e a b c : Expr} {es : List Expr} {t : TA} {ta tb tc te : TE} {p pos : Pos}
theorem pe_fn (D : Def X.prog X.w X.K X.mg X.base k x ps sp) (hr : Room k X.A) (hg : Gl X x) (ha : PA X (e :: es) t) (hdb : (x == ("__debug__" : Str)) = false := by decide)
    (he : starEach (e :: es) X.env = (false, eval e X.env) :: starEach es X.env := by rfl) (hpl : (backTo pos (starEach es X.env)).any (·.1) = false := by rfl) : PE X (.Call (.Name x p) (e :: es) [] pos) (tCall sp [] E0 t) := by
  obtain ⟨f, fd, G, h1, h2, h3⟩ := D.ex
  exact pe_call G hr hg h1 h2 h3 .nil pass0 ha hdb he hpl
theorem ixl (ha : PE X a ta) (hb : PE X b tb) (hs : PlainIx b := by intro _ _; rfl) : PE X (.Subscript a b pos) (tOp (rIxL X.K) ta tb) := pe_ix ix_list ha hb hs
theorem ixt (ha : PE X a ta) (hb : PE X b tb) (hs : PlainIx b := by intro _ _; rfl) : PE X (.Subscript a b pos) (tOp (rIxT X.K) ta tb) := pe_ix ix_tup ha hb hs
theorem lenS (hm : X.mg "len" = none) (hg : Gl X "len") (ha : PE X a ta) (hs : starEach [a] X.env = [(false, eval a X.env)] := by rfl) :
    PE X (.Call (.Name "len" p) [a] [] pos) (tCB (fun xs H Q => ∃ p ys, xs = [.ref p] ∧ (SqL X.K H p ys ∨ SqT X.K H p ys) ∧ Q (.int ys.length) H) (tCons ta tNil)) := pe_callB call_len_seq hg hm PySem.boot_len (pa_cons ha pa_nil hs) (he := hs)
theorem call_sumLK (K : PySem.W.Frag) (hK : X.K = K) (hc : X.calm = true) :
    CallR X (.builtin "sum") (fun xs H Q => ∃ (p : Addr) (ns : List Int), xs = [.ref p] ∧ SqL K H p (ns.map V.int) ∧ (ns.length ≤ 1000 ∧ ∀ n ∈ ns, -1000000000 ≤ n ∧ n ≤ 1000000000) ∧ Q (.int ns.sum) H) := by
  subst hK
  exact call_sumL hc
theorem pg_tupK (K : PySem.W.Frag) (hK : X.K = K) {k n : Nat} {u : TGs} (hc : X.calm = true) (h : PGs X es u) (hn : (assignEach es X.env).length = n := by rfl) (hst : (assignEach es X.env).findIdx? (·.1) = none := by rfl) : PG X (.Tuple es k pos) (gTup K n u) := by
  subst hK
  exact pg_tup hc h hn hst
theorem gk_two {K : PySem.W.Frag} : GKeeps 2 (gTup K 2 (gCons (gName 0) (gCons (gName 1) gNil))) := fun v σ H Q q => by
  obtain ⟨a, xs, e, h1, h2, v0, r0, e0, v1, r1, e1, e2, q⟩ := q
  exact ⟨a, xs, e, h1, h2, v0, r0, e0, v1, r1, e1, e2, ⟨by simp, fun i hi => by rw [List.getElem?_set_ne (by omega), List.getElem?_set_ne (by omega)]⟩, q⟩
theorem pe_ty {y : Str} {T : String} (hm : X.mg y = none) (hv : bootBuiltins y = some (.type T)) (hg : Gl X y := by rfl) (hn : y ≠ "__name__" := by decide) (hd : (y == ("__debug__" : Str)) = false := by decide) : PE X (.Name y pos) (tC (.ty T)) :=
  pe_bltn (v := .ty T) hg hm hv rfl hn hd
theorem r_ixl {K : PySem.W.Frag} {H : Hp} {q : Addr} {xs : List V} {i : Int} {v : V} {Q : VK} (h : H q = some (.lst xs)) (e : atI xs i = some v) (k : Q v H) : rIxL K (.ref q) (.int i) H Q := ⟨q, xs, i, v, rfl, rfl, SqL.of h, e, k⟩
theorem at_all {xs : List V} {i : Int} {Pr : V → Prop} (h0 : 0 ≤ i) (h1 : i < xs.length) (h : ∀ x ∈ xs, Pr x) : ∃ v, atI xs i = some v ∧ Pr v := by
  obtain ⟨j, rfl⟩ : ∃ j : Nat, i = j := ⟨i.toNat, by omega⟩
  have hj : j < xs.length := by omega
  exact ⟨xs[j], atI_nat (by simp [hj]), h _ (List.getElem_mem hj)⟩
end
end L2

namespace Hv
open PySem L2

theorem sz {n : Nat} (h : n ≤ 1000000) : n ≤ sizeLine := Nat.le_trans h (by decide)
theorem szl {n : Nat} (h : n ≤ 1000000) : n < sizeLine := Nat.lt_of_le_of_lt h (by decide)

noncomputable def Kp (fp : List Addr) (H H' : Hp) : Prop := ∀ b o, H b = some o → b ∉ fp → H' b = some o
theorem Kp.refl {fp : List Addr} {H : Hp} : Kp fp H H := fun _ _ h _ => h
theorem Kp.trans {fp : List Addr} {H H1 H2 : Hp} (a : Kp fp H H1) (b : Kp fp H1 H2) : Kp fp H H2 := fun c o h n => b c o (a c o h n) n
theorem Kp.of {fp : List Addr} {H H' : Hp} (a : Same H H') : Kp fp H H' := fun c o h _ => a c o h
theorem Kp.same {fp : List Addr} {H H1 H2 : Hp} (a : Kp fp H H1) (b : Same H1 H2) : Kp fp H H2 := fun c o h n => b c o (a c o h n)
theorem same_upd {H : Hp} {a : Addr} {o : HO} (h : H a = none) : Same H (upd H a o) := fun b u e => by rw [upd_ne (ne_of_none e h)]; exact e
theorem same_upd2 {H H' : Hp} {a : Addr} {o : HO} (s : Same H H') (h : H a = none) : Same H (upd H' a o) := fun b u e => by rw [upd_ne (ne_of_none e h)]; exact s b u e
theorem kp_upd {fp : List Addr} {H H' : Hp} {a : Addr} {o : HO} (s : Kp fp H H') (h : a ∈ fp ∨ H a = none) : Kp fp H (upd H' a o) := fun b u e n => by
  have : b ≠ a := by
    rcases h with h | h
    · exact fun z => n (z ▸ h)
    · exact ne_of_none e h
  rw [upd_ne this]; exact s b u e n

structure FrOk (b : Nat) (ps : List Nat) (ws : List Int) : Prop where
  b2 : 2 ≤ b
  b16 : b ≤ 16
  l2 : 2 ≤ ps.length
  l4 : ps.length ≤ 4
  pr : ∀ p ∈ ps, 1 ≤ p ∧ p ≤ 6
  wl : ws.length = ps.sum
  wr : ∀ x ∈ ws, -9 ≤ x ∧ x ≤ 9
noncomputable abbrev natV (ps : List Nat) : List V := ps.map fun (p : Nat) => V.int (p : Int)
theorem natV_eq (ps : List Nat) : natV ps = (ps.map fun (p : Nat) => (p : Int)).map V.int := by simp [natV]
structure FrAt (H : Hp) (f a c : Addr) (b : Nat) (ps : List Nat) (ws : List Int) : Prop where
  tp : H f = some (.tup [.int b, .ref a, .ref c])
  hp : H a = some (.lst (natV ps))
  hw : H c = some (.lst (ws.map V.int))
  ok : FrOk b ps ws
theorem FrAt.keep {H H' : Hp} {f a c : Addr} {b : Nat} {ps : List Nat} {ws : List Int} (F : FrAt H f a c b ps ws) (s : Same H H') : FrAt H' f a c b ps ws := ⟨s _ _ F.tp, s _ _ F.hp, s _ _ F.hw, F.ok⟩
theorem FrAt.kp {fp : List Addr} {H H' : Hp} {f a c : Addr} {b : Nat} {ps : List Nat} {ws : List Int} (F : FrAt H f a c b ps ws) (s : Kp fp H H') (h1 : f ∉ fp) (h2 : a ∉ fp) (h3 : c ∉ fp) : FrAt H' f a c b ps ws :=
  ⟨s _ _ F.tp h1, s _ _ F.hp h2, s _ _ F.hw h3, F.ok⟩
theorem FrOk.sum {b : Nat} {ps : List Nat} {ws : List Int} (F : FrOk b ps ws) : 2 ≤ ps.sum ∧ ps.sum ≤ 24 := by
  have h := Ma.sum_le6 ps F.pr
  have h1 := F.l2
  have h2 := F.l4
  omega

theorem Kp.free {fp : List Addr} {H H' : Hp} (s : Kp fp H H') {l : Addr} (h : H' l = none) (n : l ∉ fp) : H l = none := by
  cases q : H l with
  | none => rfl
  | some o =>
    rw [s l o q n] at h
    cases h
end Hv
namespace Hv
open PySem L2

theorem boot_isinstance : bootBuiltins "isinstance" = some (.builtin "isinstance") := PyProof.Rows.boot_isinstance
theorem boot_int : bootBuiltins "int" = some (.type "int") := PyProof.Rows.boot_int
theorem boot_bool : bootBuiltins "bool" = some (.type "bool") := PyProof.Rows.boot_bool
theorem boot_list : bootBuiltins "list" = some (.type "list") := PyProof.Rows.boot_list
theorem boot_tuple : bootBuiltins "tuple" = some (.type "tuple") := PyProof.Rows.boot_tuple
theorem boot_all : bootBuiltins "all" = some (.builtin "all") := PyProof.Rows.boot_all
theorem boot_sum : bootBuiltins "sum" = some (.builtin "sum") := PyProof.Rows.boot_sum
theorem boot_max : bootBuiltins "max" = some (.builtin "max") := PyProof.Rows.boot_max
theorem boot_min : bootBuiltins "min" = some (.builtin "min") := PyProof.Rows.boot_min
structure Txt (mg : Str → Option Value) : Prop where
  isi : mg "isinstance" = none
  int : mg "int" = none
  bool : mg "bool" = none
  list : mg "list" = none
  tuple : mg "tuple" = none
  all : mg "all" = none
  len : mg "len" = none
  sum : mg "sum" = none
  range : mg "range" = none
  max : mg "max" = none
  min : mg "min" = none
  rev : mg "reversed" = none
  zip : mg "zip" = none
  enum : mg "enumerate" = none

section
variable {K : PySem.W.Frag}
theorem kit_ii : PySem.W.kitOne K (.type "int") (.type "int") = some true := by kernel_rfl
theorem kit_ib : PySem.W.kitOne K (.type "int") (.type "bool") = some false := by kernel_rfl
theorem kit_bi : PySem.W.kitOne K (.type "bool") (.type "int") = some true := by kernel_rfl
theorem kit_bb : PySem.W.kitOne K (.type "bool") (.type "bool") = some true := by kernel_rfl
theorem kit_ni : PySem.W.kitOne K (.type "NoneType") (.type "int") = some false := by kernel_rfl
theorem kit_si : PySem.W.kitOne K (.type "str") (.type "int") = some false := by kernel_rfl
theorem kit_li : PySem.W.kitOne K (.type "list") (.type "int") = some false := by kernel_rfl
theorem kit_ti : PySem.W.kitOne K (.type "tuple") (.type "int") = some false := by kernel_rfl
theorem kit_di : PySem.W.kitOne K (.type "dict") (.type "int") = some false := by kernel_rfl
theorem kit_ll : PySem.W.kitOne K (.type "list") (.type "list") = some true := by kernel_rfl
theorem kit_tt : PySem.W.kitOne K (.type "tuple") (.type "tuple") = some true := by kernel_rfl
end

inductive Thing (H : Hp) : V → Prop where
  | non : Thing H .non
  | bl (b : Bool) : Thing H (.bl b)
  | int (i : Int) : Thing H (.int i)
  | str (x : Str) : Thing H (.str x)
  | lst {a : Addr} {xs : List V} (e : H a = some (.lst xs)) : Thing H (.ref a)
  | tup {a : Addr} {xs : List V} (e : H a = some (.tup xs)) : Thing H (.ref a)
  | dK {a : Addr} {kvs : List (Key × V)} (e : H a = some (.dK kvs)) : Thing H (.ref a)
theorem Thing.keep {H H' : Hp} {v : V} (t : Thing H v) (s : Same H H') : Thing H' v := by
  cases t with
  | non => exact .non
  | bl b => exact .bl b
  | int i => exact .int i
  | str x => exact .str x
  | lst e => exact .lst (s _ _ e)
  | tup e => exact .tup (s _ _ e)
  | dK e => exact .dK (s _ _ e)

noncomputable def isIntV : V → Bool
  | .int _ => true
  | _ => false
noncomputable def betw (v : V) (lo hi : Int) : Bool := match v with
  | .int i => decide (lo ≤ i) && decide (i ≤ hi)
  | _ => false
noncomputable def spWhole : Sp := fun vs H Q _ => ∃ v, vs = [v] ∧ Thing H v ∧ Q (.bl (isIntV v)) H
noncomputable def spBetw : Sp := fun vs H Q _ => ∃ v lo hi, vs = [v, .int lo, .int hi] ∧ Thing H v ∧ Q (.bl (betw v lo hi)) H
noncomputable def spIsFrame : Sp := fun vs H Q _ => ∃ f a c b ps ws, vs = [.ref f] ∧ FrAt H f a c b ps ws ∧ ∀ H', Same H H' → Q (.bl true) H'
noncomputable def spNeedFrame : Sp := fun vs H Q _ => ∃ f a c b ps ws, vs = [.ref f] ∧ FrAt H f a c b ps ws ∧ ∀ H', Same H H' → Q .non H'
noncomputable def spHowMany : Sp := fun vs H Q _ => ∃ f a c b ps ws, vs = [.ref f] ∧ FrAt H f a c b ps ws ∧ ∀ H', Same H H' → Q (.int ((b ^ ps.sum : Nat) : Int)) H'
noncomputable def spNeedNumber : Sp := fun vs H Q _ => ∃ f a c b ps ws, ∃ n : Nat, vs = [.ref f, .int n] ∧ FrAt H f a c b ps ws ∧ n < b ^ ps.sum ∧ ∀ H', Same H H' → Q .non H'
noncomputable def spFigures : Sp := fun vs H Q _ => ∃ f a c b ps ws, ∃ n : Nat, vs = [.ref f, .int n] ∧ FrAt H f a c b ps ws ∧ n < b ^ ps.sum ∧
  ∀ r H', H r = none → Same H H' → H' r = some (.lst (natV (Ma.dws b n ps.sum ps.sum))) → Q (.ref r) H'

end Hv
namespace L2
open PySem PySem.Spec PyProof.Rows
noncomputable def Off (D : List Addr) (H : Hp) : Hp := fun a => if a ∈ D then none else H a
theorem off_at {D : List Addr} {H : Hp} {a : Addr} {o : HO} (h : H a = some o) (n : a ∉ D) : Off D H a = some o := by unfold Off; rw [if_neg n]; exact h
theorem off_sub {D : List Addr} {H : Hp} : Same (Off D H) H := fun a o h => by
  unfold Off at h
  split at h
  · cases h
  · exact h
theorem off_kp {D : List Addr} {H H' : Hp} (k : Hv.Kp D H H') : Same (Off D H) (Off D H') := fun a o h => by
  unfold Off at h ⊢
  split at h
  · cases h
  · rename_i n
    rw [if_neg n]
    exact k a o h n
structure GD (n w : Nat) (d : PyData) : Prop where
  sh : d.showable = true
  lv : d.leavesShort 40 = true
  dp : d.depth ≤ n
  wt : d.weight ≤ w
noncomputable def Th (H : Hp) (n w : Nat) (v : V) : Prop := ∃ d, Tree H v d ∧ GD n w d
theorem Th.keep {H H' : Hp} {n w : Nat} {v : V} (t : Th H n w v) (s : Same H H') : Th H' n w v := let ⟨d, a, b⟩ := t; ⟨d, a.keep s, b⟩
theorem Th.mono {H : Hp} {n w n' w' : Nat} {v : V} (t : Th H n w v) (h1 : n ≤ n') (h2 : w ≤ w') : Th H n' w' v :=
  let ⟨d, a, b⟩ := t; ⟨d, a, b.sh, b.lv, Nat.le_trans b.dp h1, Nat.le_trans b.wt h2⟩
theorem trees_of {H : Hp} {n w : Nat} : ∀ {xs : List V}, (∀ x ∈ xs, Th H n w x) → ∃ ds, Trees H xs ds ∧ PyData.showableAll ds = true ∧ PyData.leavesShortAll 40 ds = true ∧ PyData.depthAll ds ≤ n ∧ PyData.weightAll ds ≤ xs.length * (w + 1)
  | [], _ => ⟨[], .nil, rfl, rfl, Nat.zero_le _, Nat.zero_le _⟩
  | x :: r, h => by
    obtain ⟨d, t, g⟩ := h x List.mem_cons_self
    obtain ⟨ds, ts, h1, h2, h3, h4⟩ := trees_of (xs := r) fun y hy => h y (List.mem_cons_of_mem _ hy)
    refine ⟨d :: ds, .cons t ts, ?_, ?_, ?_, ?_⟩
    · simp only [PyData.showableAll, g.sh, h1, Bool.and_self]
    · simp only [PyData.leavesShortAll, g.lv, h2, Bool.and_self]
    · simp only [PyData.depthAll]; have := g.dp; omega
    · simp only [PyData.weightAll, List.length_cons]
      have := g.wt
      rw [Nat.add_mul, Nat.one_mul]
      omega
theorem Th.lst {H : Hp} {n w L : Nat} {a : Addr} {xs : List V} (e : H a = some (.lst xs)) (h : ∀ x ∈ xs, Th H n w x) (hl : xs.length ≤ L) : Th H (n + 1) (L * (w + 1)) (.ref a) := by
  obtain ⟨ds, ts, h1, h2, h3, h4⟩ := trees_of h
  refine ⟨.list ds, .lst e ts, ?_, ?_, ?_, ?_⟩
  · simpa only [PyData.showable] using h1
  · simpa only [PyData.leavesShort] using h2
  · simp only [PyData.depth]; omega
  · simp only [PyData.weight]
    exact Nat.le_trans h4 (Nat.mul_le_mul_right _ hl)
theorem Th.tup {H : Hp} {n w L : Nat} {a : Addr} {xs : List V} (e : H a = some (.tup xs)) (h : ∀ x ∈ xs, Th H n w x) (hl : xs.length ≤ L) : Th H (n + 1) (L * (w + 1)) (.ref a) := by
  obtain ⟨ds, ts, h1, h2, h3, h4⟩ := trees_of h
  refine ⟨.tuple ds, .tup e ts, ?_, ?_, ?_, ?_⟩
  · simpa only [PyData.showable] using h1
  · simpa only [PyData.leavesShort] using h2
  · simp only [PyData.depth]; omega
  · simp only [PyData.weight]
    exact Nat.le_trans h4 (Nat.mul_le_mul_right _ hl)
theorem GD.shown {n w : Nat} {d : PyData} (g : GD n w d) (hw : w ≤ 300000) : d.shown.length ≤ sizeLine := by
  have h := PyData.shown_le 40 (by decide) d g.lv
  have h2 := g.wt
  have h3 : sizeLine = 16777216 := by decide
  omega
theorem int_short {i : Int} (h : i.natAbs ≤ 10 ^ 25) : ((PyData.int i).shown).length ≤ 40 := by
  have e := int_text_length_le10 (k := 26) (by decide) (show i.natAbs < 10 ^ 26 from Nat.lt_of_le_of_lt h (by decide))
  show (Str.ofString (toString i)).length ≤ 40
  rw [PySem.ofString_length]
  omega
theorem Th.non {H : Hp} : Th H 1 100 .non := ⟨_, .non, rfl, rfl, by decide, by decide⟩
theorem Th.bl {H : Hp} (b : Bool) : Th H 1 100 (.bl b) := ⟨_, .bl b, rfl, rfl, by show (0 : Nat) ≤ 1; decide, by show (0 : Nat) ≤ 100; decide⟩
theorem Th.int {H : Hp} {i : Int} (h : i.natAbs ≤ 10 ^ 25) : Th H 1 100 (.int i) := by
  have hl : i.natAbs.log2 < 84 := by
    by_cases h0 : i.natAbs = 0
    · rw [h0]; decide
    · exact (Nat.log2_lt h0).mpr (Nat.lt_of_le_of_lt h (by decide))
  refine ⟨_, .int i, ?_, ?_, by show (0 : Nat) ≤ 1; decide, ?_⟩
  · simp only [PyData.showable, decide_eq_true_eq]; omega
  · simp only [PyData.leavesShort, decide_eq_true_eq]; exact int_short h
  · simp only [PyData.weight]; split <;> omega
theorem Th.emp {H : Hp} {a : Addr} (e : H a = some (.dK [])) : Th H 1 100 (.ref a) := ⟨_, .emp e, by decide +kernel, by decide +kernel, by decide, by decide⟩
end L2
namespace L2
open PySem PySem.Spec PyProof.Rows
noncomputable def FlyAt (h0 : Heap) (H : Hp) (h : Heap) (x : Addr) (C a0 fl : Value) : Prop := h0.get? x = none ∧ H x = none ∧
  ∃ oe vs T oT ts, h.get? x = some oe ∧ (oe.cls = C ∧ vs[0]? = some a0 ∧ oe.dict = none) ∧ oe.data = .fields vs ∧ vs[1]? = some (.ref T) ∧ h0.get? T = none ∧ H T = none ∧ T ≠ x ∧ h.get? T = some oT ∧ oT.data = .fields ts ∧ ts[3]? = some fl
noncomputable abbrev Fly (h0 : Heap) (H : Hp) (h : Heap) (x : Addr) (C a0 : Value) : Prop := FlyAt h0 H h x C a0 .none
structure Near (h0 : Heap) (H : Hp) (fs : List Addr) (h h' : Heap) : Prop where
  keep : ∀ b o, h.get? b = some o → b ∉ fs → h0.get? b ≠ none ∨ H b ≠ none → h'.get? b = some o
  slot : ∀ b o, h.get? b = some o → b ∈ fs → ∃ sl, h'.get? b = some { o with slots := sl }
  there : ∀ b o, h0.get? b ≠ none → h.get? b = some o → ∃ o', h'.get? b = some o'
theorem Near.trans {h0 : Heap} {H : Hp} {fs : List Addr} {h h1 h2 : Heap} (a : Near h0 H fs h h1) (b : Near h0 H fs h1 h2) : Near h0 H fs h h2 :=
  ⟨fun c o e n z => b.keep c o (a.keep c o e n z) n z, fun c o e hc => by
    obtain ⟨sl, e1⟩ := a.slot c o e hc
    obtain ⟨sl2, e2⟩ := b.slot c _ e1 hc
    exact ⟨sl2, e2⟩, fun c o n e => by
    obtain ⟨o1, e1⟩ := a.there c o n e
    exact b.there c o1 n e1⟩
section
variable {M : Model} {A : Around} {E : Value → Shared → Prop} {s : Shared}
theorem note_entry {b0 : Heap} {env : Env} {outer : List Env} {L x : Addr} {oe : Obj} {vs : Array Value} {head : Value} {had : Bool} {Q : Unit → Shared → Prop} (hfr : A.frames = some (env :: outer)) (hl : s.heap.FunFrames b0 (env :: outer)) (hf : env.frame = some L)
    (he : s.heap.get? x = some oe) (hd : oe.data = .fields vs) (hsz : 1 < vs.size)
    (h : ∀ (h' : Heap) (T : Addr) (oT : Obj) (ts : Array Value), s.heap.objs.size ≤ T → (∀ b o, s.heap.get? b = some o → b ∉ frs (env :: outer) → b ≠ x → h'.get? b = some o) → (∀ b o, s.heap.get? b = some o → b ∈ frs (env :: outer) → ∃ sl, h'.get? b = some { o with slots := sl }) →
      h'.get? x = some (Obj.mapFields (·.setIfInBounds 1 (.ref T)) oe) → h'.get? T = some oT → oT.data = .fields ts → ts[3]? = some (rawInt L) → Q () { s with heap := h' }) :
    wpAny M A (do let a ← frameOf env; let pl ← entryPlaceOf L had; let b ← EntryCells.newEntry head a .none (rawInt L) .none pl; setField (.ref x) 1 b) Q E s := by
  have xf : x ∉ frs (env :: outer) := fun hm => by
    obtain ⟨_, o, ho, hnf⟩ := hl.mem hm
    rw [he] at ho
    cases ho
    exact hnf vs hd
  refine wpAny_bind (wpAny_frameOf_fun hfr hl hf fun g ⟨gs, g1, g2⟩ => wpAny_bind (wpAny_entryPlaceOf fun pl hpl => ?_))
  unfold EntryCells.newEntry newFields
  refine wpAny_bind (wpAny_newObj_type ?_ (hpl.sizeOk5 _ _ _ _ _))
  have x1 : g.get? x = some oe := (g1 x xf).trans he
  have nT : g.objs.size ≠ x := Nat.ne_of_gt (Heap.lt_size x1)
  generalize hob : ({ cls := .type "traceback", data := .fields ([head, .ref L, .none, rawInt L, .none] ++ (if pl.isEmpty then List.replicate 6 Value.none else pl)).toArray } : Obj) = ob
  have nf : ob.isFreed = false := by rw [← hob]; rfl
  have x2 : (g.push ob).get? x = some oe := Heap.get?_push_of_some ob x1
  refine wpAny_setField x2 hd hsz ?_
  have dd := Obj.data_mapFields hd (·.setIfInBounds 1 (Value.ref g.objs.size))
  have tt : ((g.push ob).update x (Obj.mapFields (·.setIfInBounds 1 (Value.ref g.objs.size)))).get? g.objs.size = some ob := (Heap.get?_update_other _ _ (Ne.symm nT)).trans (Heap.get?_push_size g nf)
  refine h _ g.objs.size ob ([head, .ref L, .none, rawInt L, .none] ++ (if pl.isEmpty then List.replicate 6 Value.none else pl)).toArray (by rw [gs]; exact Nat.le_refl _) (fun b o e n nx => ?_) (fun b o e hb => ?_) (Heap.get?_update_self _ x2 (Obj.isFreed_of_fields dd)) tt (by rw [← hob]) ?_
  · exact (Heap.get?_update_other _ _ (Ne.symm nx)).trans (Heap.get?_push_of_some ob ((g1 b n).trans e))
  · obtain ⟨sl, e1⟩ := g2 b o e
    exact ⟨sl, (Heap.get?_update_other _ _ (fun z : x = b => xf (by rw [z]; exact hb))).trans (Heap.get?_push_of_some ob e1)⟩
  · first | (simp; done) | (rcases hpl with rfl | ⟨_, _, _, _, _, _, _, rfl⟩ <;> simp)
theorem new_none {h : Heap} {T : Addr} (hT : h.objs.size ≤ T) {h0 : Heap} (h0e : ∀ b o, h0.get? b = some o → ∃ o', h.get? b = some o') : h0.get? T = none := by
  cases q : h0.get? T with
  | none => rfl
  | some o =>
    obtain ⟨o', e⟩ := h0e T o q
    exact absurd (Heap.lt_size e) (Nat.not_lt.mpr hT)
theorem new_free {h : Heap} {T : Addr} (hT : h.objs.size ≤ T) {H : Hp} (htr : ∀ b o, H b = some o → ∃ o', h.get? b = some o') : H T = none := by
  cases q : H T with
  | none => rfl
  | some o =>
    obtain ⟨o', e⟩ := htr T o q
    exact absurd (Heap.lt_size e) (Nat.not_lt.mpr hT)
theorem fly_noted {b0 h0 : Heap} {H : Hp} {env : Env} {outer : List Env} {L x : Addr} {C a0 : Value} {Q : Unit → Shared → Prop} (hfr : A.frames = some (env :: outer)) (hl : s.heap.FunFrames b0 (env :: outer)) (hf : env.frame = some L)
    (fl : Fly h0 H s.heap x C a0) (h0e : ∀ b o, h0.get? b = some o → ∃ o', s.heap.get? b = some o') (htr : ∀ b o, H b = some o → ∃ o', s.heap.get? b = some o')
    (h : ∀ h', Near h0 H (frs (env :: outer)) s.heap h' → FlyAt h0 H h' x C a0 (rawInt L) → Q () { s with heap := h' }) : wpAny M A (noteFrame (.ref x) env) Q E s := by
  obtain ⟨x0, xH, oe, vs, T, oT, ts, he, ⟨c1, c2, c3⟩, hd, h1, T0, TH, Tx, hT, hdT, h3⟩ := fl
  unfold noteFrame
  simp only [hf]
  refine wpAny_bind (wpAny_field he hd h1 ?_)
  rw [if_pos (by simp)]
  refine wpAny_bind (wpAny_field hT hdT h3 ?_)
  rw [if_neg (by simp [rawInt])]
  refine wpAny_bind (wpAny_setField hT hdT (Array.getElem?_eq_some_iff.mp h3).1 ?_)
  have oth : ∀ b, b ≠ T → (s.heap.update T (Obj.mapFields (·.setIfInBounds 3 Value.none))).get? b = s.heap.get? b := fun b hb => Heap.get?_update_other _ _ (Ne.symm hb)
  have Tf : T ∉ frs (env :: outer) := fun hm => by
    obtain ⟨_, o, ho, nf⟩ := hl.mem hm
    rw [hT] at ho
    cases ho
    exact nf ts hdT
  have hl2 : (s.heap.update T (Obj.mapFields (·.setIfInBounds 3 Value.none))).FunFrames b0 (env :: outer) := hl.of_keeps fun b o e nf => ⟨o, (oth b (fun z => by rw [z, hT] at e; cases e; exact nf ts hdT)).trans e, rfl⟩
  refine note_entry (s := { s with heap := s.heap.update T (Obj.mapFields (·.setIfInBounds 3 Value.none)) }) hfr hl2 hf ((oth x (Ne.symm Tx)).trans he) hd (Array.getElem?_eq_some_iff.mp h1).1 fun h' T' oT' ts' z0 z1 z2 z3 z4 z5 z6 => ?_
  have sT : s.heap.objs.size ≤ T' := by
    have z0' : (s.heap.update T (Obj.mapFields (·.setIfInBounds 3 Value.none))).objs.size ≤ T' := z0
    rw [Heap.size_after_update] at z0'
    exact z0'
  have Tx' : T' ≠ x := Nat.ne_of_gt (Nat.lt_of_lt_of_le (Heap.lt_size he) sT)
  refine h h' ⟨fun b o e n z => z1 b o ((oth b (fun q => ?_)).trans e) n (fun q => ?_), fun b o e hb => z2 b o ((oth b (fun q => Tf (q ▸ hb))).trans e) hb, fun b o n e => ?_⟩ ⟨x0, xH, _, _, T', oT', ts', z3, ⟨(Obj.cls_mapFields _ _).trans c1, ?_, ?_⟩, Obj.data_mapFields hd _, ?_, new_none sT h0e, new_free sT htr, Tx', z4, z5, z6⟩
  · subst q; rcases z with z | z
    · exact z T0
    · exact z TH
  · subst q; rcases z with z | z
    · exact z x0
    · exact z xH
  · by_cases hb : b ∈ frs (env :: outer)
    · obtain ⟨sl, e1⟩ := z2 b o ((oth b (fun q => Tf (q ▸ hb))).trans e) hb
      exact ⟨_, e1⟩
    · exact ⟨o, z1 b o ((oth b (fun q => n (by rw [q]; exact T0))).trans e) hb (fun q => n (by rw [q]; exact x0))⟩
  · rw [Array.getElem?_setIfInBounds_ne (by decide)]; exact c2
  · obtain ⟨a, b, c, d⟩ := oe
    cases c <;> first | exact c3 | cases hd
  · rw [Array.getElem?_setIfInBounds_self_of_lt (Array.getElem?_eq_some_iff.mp h1).1]
theorem made_noted {b0 h0 : Heap} {H : Hp} {env : Env} {outer : List Env} {L x : Addr} {oe : Obj} {vs : Array Value} {a0 : Value} {Q : Unit → Shared → Prop} (hfr : A.frames = some (env :: outer)) (hl : s.heap.FunFrames b0 (env :: outer)) (hf : env.frame = some L)
    (he : s.heap.get? x = some oe) (hd : oe.data = .fields vs) (hdn : oe.dict = none) (h1 : vs[1]? = some .none) (hv0 : vs[0]? = some a0) (x0 : h0.get? x = none) (xH : H x = none) (h0e : ∀ b o, h0.get? b = some o → ∃ o', s.heap.get? b = some o')
    (htr : ∀ b o, H b = some o → ∃ o', s.heap.get? b = some o')
    (h : ∀ h', Near h0 H (frs (env :: outer)) s.heap h' → FlyAt h0 H h' x oe.cls a0 (rawInt L) → Q () { s with heap := h' }) : wpAny M A (noteFrame (.ref x) env) Q E s := by
  unfold noteFrame
  simp only [hf]
  refine wpAny_bind (wpAny_field he hd h1 ?_)
  rw [if_neg (by decide)]
  refine note_entry hfr hl hf he hd (Array.getElem?_eq_some_iff.mp h1).1 fun h' T' oT' ts' sT z1 z2 z3 z4 z5 z6 => ?_
  have Tx' : T' ≠ x := Nat.ne_of_gt (Nat.lt_of_lt_of_le (Heap.lt_size he) sT)
  refine h h' ⟨fun b o e n z => z1 b o e n (fun q => ?_), z2, fun b o n e => ?_⟩ ⟨x0, xH, _, _, T', oT', ts', z3, ⟨Obj.cls_mapFields _ _, ?_, ?_⟩, Obj.data_mapFields hd _, ?_, new_none sT h0e, new_free sT htr, Tx', z4, z5, z6⟩
  · subst q; rcases z with z | z
    · exact z x0
    · exact z xH
  · by_cases hb : b ∈ frs (env :: outer)
    · obtain ⟨sl, e1⟩ := z2 b o e hb
      exact ⟨_, e1⟩
    · exact ⟨o, z1 b o e hb (fun q => n (by rw [q]; exact x0))⟩
  · rw [Array.getElem?_setIfInBounds_ne (by decide)]; exact hv0
  · obtain ⟨a, b, c, d⟩ := oe
    cases c <;> first | exact hdn | cases hd
  · rw [Array.getElem?_setIfInBounds_self_of_lt (Array.getElem?_eq_some_iff.mp h1).1]
theorem fly_lands {b0 h0 : Heap} {H : Hp} {l : List Env} {x : Addr} {C a0 fl : Value} {Q : Unit → Shared → Prop} (hl : s.heap.FunFrames b0 l) (f : FlyAt h0 H s.heap x C a0 fl)
    (h0e : ∀ b o, h0.get? b = some o → ∃ o', s.heap.get? b = some o') (htr : ∀ b o, H b = some o → ∃ o', s.heap.get? b = some o')
    (h : ∀ h', Near h0 H (frs l) s.heap h' → Fly h0 H h' x C a0 → Q () { s with heap := h' }) : wpAny M A (setFlight (.ref x) none) Q E s := by
  obtain ⟨x0, xH, oe, vs, T, oT, ts, he, hc, hd, h1, T0, TH, Tx, hT, hdT, h3⟩ := f
  have sz3 : 3 < ts.size := (Array.getElem?_eq_some_iff.mp h3).1
  unfold setFlight
  refine wpAny_bind (wpAny_field he hd h1 ?_)
  rw [if_pos (by simp)]
  refine wpAny_setField hT hdT sz3 ?_
  have oth : ∀ b, b ≠ T → (s.heap.update T (Obj.mapFields (·.setIfInBounds 3 ((none : Option Addr).elim Value.none fun f => rawInt f)))).get? b = s.heap.get? b := fun b hb => Heap.get?_update_other _ _ (Ne.symm hb)
  have Tf : T ∉ frs l := fun hm => by
    obtain ⟨_, o, ho, nf⟩ := hl.mem hm
    rw [hT] at ho
    cases ho
    exact nf ts hdT
  have tt := Heap.get?_update_self (Obj.mapFields (·.setIfInBounds 3 ((none : Option Addr).elim Value.none fun f => rawInt f))) hT (Obj.isFreed_of_fields (Obj.data_mapFields hdT _))
  refine h _ ⟨fun b o e n z => (oth b (fun q => ?_)).trans e, fun b o e hb => ⟨o.slots, (oth b (fun q => Tf (q ▸ hb))).trans e⟩, fun b o n e => ⟨o, (oth b (fun q => n (by rw [q]; exact T0))).trans e⟩⟩ ⟨x0, xH, oe, vs, T, _, _, (oth x (Ne.symm Tx)).trans he, hc, hd, h1, T0, TH, Tx, tt, Obj.data_mapFields hdT _, ?_⟩
  · subst q; rcases z with z | z
    · exact z T0
    · exact z TH
  · rw [Array.getElem?_setIfInBounds_self_of_lt sz3]; rfl
theorem frames_slot {h h' b0 : Heap} : ∀ {l : List Env}, h.FunFrames b0 l → (∀ b o, h.get? b = some o → b ∈ frs l → ∃ sl, h'.get? b = some { o with slots := sl }) → h'.FunFrames b0 l
  | [], _, _ => trivial
  | env :: l, ⟨kk, ⟨L, o, hf, hn, ho, hd⟩, r⟩, hs => by
    have e : frs (env :: l) = L :: frs l := by rw [frs, List.filterMap_cons, hf]; rfl
    rw [e] at hs
    obtain ⟨sl, e1⟩ := hs L o ho (by simp)
    exact ⟨kk, ⟨L, _, hf, hn, e1, hd⟩, frames_slot r fun b o' eb hb => hs b o' eb (by simp [hb])⟩
theorem fly_leaves {P : Program} {w : World} {b0 h0 : Heap} {H : Hp} {env : Env} {outer : List Env} {L x : Addr} {C a0 : Value} {Q : Unit → Shared → Prop} (hfr : A.frames = some (env :: outer)) (hl : s.heap.FunFrames b0 (env :: outer)) (hf : env.frame = some L)
    (fl : Fly h0 H s.heap x C a0) (h0e : ∀ b o, h0.get? b = some o → ∃ o', s.heap.get? b = some o') (hok : HOk P w H s.heap) (hfn : ∀ b ∈ frs (env :: outer), H b = none) (htr : ∀ b o, H b = some o → ∃ o', s.heap.get? b = some o')
    (h : ∀ h', Near h0 H (frs (env :: outer)) s.heap h' → Fly h0 H h' x C a0 → Q () { s with heap := h' }) : wpAny M A (leaving env (.ref x)) Q E s := by
  unfold leaving
  refine wpAny_bind (fly_noted hfr hl hf fl h0e htr fun h2 nr fa => ?_)
  refine fly_lands (l := env :: outer) (frames_slot hl nr.slot) fa (fun b o e => ?_) (fun b o e => ?_) fun h3 nr3 fl3 => h h3 (nr.trans nr3) fl3
  · obtain ⟨o1, e1⟩ := h0e b o e
    exact nr.there b o1 (by rw [e]; exact fun z => by cases z) e1
  · obtain ⟨o1, e1⟩ := htr b o e
    exact ⟨o1, nr.keep b o1 e1 (fun z => by rw [hfn b z] at e; cases e) (.inr (by rw [e]; exact fun z => by cases z))⟩
theorem made_leaves {b0 h0 : Heap} {H : Hp} {env : Env} {outer : List Env} {L x : Addr} {oe : Obj} {vs : Array Value} {a0 : Value} {Q : Unit → Shared → Prop} (hfr : A.frames = some (env :: outer)) (hl : s.heap.FunFrames b0 (env :: outer)) (hf : env.frame = some L)
    (he : s.heap.get? x = some oe) (hd : oe.data = .fields vs) (hdn : oe.dict = none) (h1 : vs[1]? = some .none) (hv0 : vs[0]? = some a0) (x0 : h0.get? x = none) (xH : H x = none) (h0e : ∀ b o, h0.get? b = some o → ∃ o', s.heap.get? b = some o')
    (hfn : ∀ b ∈ frs (env :: outer), H b = none) (htr : ∀ b o, H b = some o → ∃ o', s.heap.get? b = some o')
    (h : ∀ h', Near h0 H (frs (env :: outer)) s.heap h' → Fly h0 H h' x oe.cls a0 → Q () { s with heap := h' }) : wpAny M A (leaving env (.ref x)) Q E s := by
  unfold leaving
  refine wpAny_bind (made_noted hfr hl hf he hd hdn h1 hv0 x0 xH h0e htr fun h2 nr fa => ?_)
  refine fly_lands (l := env :: outer) (frames_slot hl nr.slot) fa (fun b o e => ?_) (fun b o e => ?_) fun h3 nr3 fl3 => h h3 (nr.trans nr3) fl3
  · obtain ⟨o1, e1⟩ := h0e b o e
    exact nr.there b o1 (by rw [e]; exact fun z => by cases z) e1
  · obtain ⟨o1, e1⟩ := htr b o e
    exact ⟨o1, nr.keep b o1 e1 (fun z => by rw [hfn b z] at e; cases e) (.inr (by rw [e]; exact fun z => by cases z))⟩
end
end L2
namespace L2
open PySem PySem.Spec PyProof.Rows
theorem ObjOk.there {P : Program} {w : World} {H : Hp} {h : Heap} {a : Addr} {o : HO} (x : ObjOk P w H h a o) : ∃ u, h.get? a = some u := by
  cases o with
  | lst xs => obtain ⟨_, _, _, _, e⟩ := x; exact ⟨_, e⟩
  | tup xs => obtain ⟨_, _, _, ob, e, _⟩ := x; exact ⟨_, e⟩
  | dK kvs => obtain ⟨_, _, _, _, ob, _, _, e, _⟩ := x; exact ⟨_, e⟩
  | dT kvs => obtain ⟨_, _, _, _, ob, _, _, e, _⟩ := x; exact ⟨_, e⟩
  | set S n => obtain ⟨ob, _, _, _, e, _⟩ := x; exact ⟨_, e⟩
  | ins C dx fs => obtain ⟨_, _, _, e, _⟩ := x; exact ⟨_, e⟩
  | own y => obtain ⟨ob, e⟩ := x; exact ⟨_, e⟩
  | xd fs => obtain ⟨_, ⟨od, _, _, e, _⟩, _⟩ := x; exact ⟨_, e⟩
  | rng lo hi => obtain ⟨_, _, _, e⟩ := x; exact ⟨_, e⟩
  | frz ob u => exact ⟨_, x.1⟩
  | tbl ps => exact ⟨_, x⟩
  | met f y => exact ⟨_, x⟩
  | ext φ => obtain ⟨_, ⟨o, e⟩, _⟩ := x; exact ⟨_, e⟩
noncomputable def CX1 (P : Program) (w : World) : CXT := fun outer H s E e s' => ∃ (x C : Addr) (a0 : Value) (H' : Hp), e = .ref x ∧ s'.os = s.os ∧ AllBare s'.gens ∧ Un (frs outer) [] H H' s.heap s'.heap ∧ HOk P w H' s'.heap ∧ Fly s.heap H' s'.heap x (.ref C) a0 ∧ E (.ref C) none H'
section
variable {P : Program} {w : World} {K : PySem.W.Frag} {mg : Str → Option Value} {base : Heap} {N : List Str} {qual : Str} {scope : Scope} {f : Addr} {cd : Value} {A : Around} {outer : List Env} {s : Shared} {H : Hp} {E : XK}
theorem fly_xe {pins : List (Addr × Obj)} {σ : St} {H' : Hp} {s' : Shared} {x C : Addr} {a0 : Value} (I : Inv (cxOf (CX1 P w) P w K mg base N qual scope f cd A outer s H E) pins σ H' s') (fly : Fly s.heap H' s'.heap x (.ref C) a0) (hE : E (.ref C) none H') :
    (cxOf (CX1 P w) P w K mg base N qual scope f cd A outer s H E).xe (.ref x) s' := by
  have nex : ∀ b : Addr, b ∉ (cxOf (CX1 P w) P w K mg base N qual scope f cd A outer s H E).ex := fun b z => absurd (show b ∈ ([] : List Addr) from z) (by simp)
  have fsE : frs (cxOf (CX1 P w) P w K mg base N qual scope f cd A outer s H E).stack = s.heap.objs.size :: frs outer := rfl
  refine fly_leaves (P := P) (w := w) (b0 := base) (h0 := s.heap) (H := H') I.ok.frames I.stack rfl fly (fun b o e => I.base.there b o e (nex b)) I.hok I.stkFree (fun b o e => (I.hok b o e).there) fun h'' ⟨k1, k2, k3⟩ fly2 => ?_
  have old : ∀ b o, s.heap.get? b = some o → b ≠ s.heap.objs.size := fun b o e => Nat.ne_of_lt (Heap.lt_size e)
  have off : ∀ b o, s.heap.get? b = some o → b ∉ frs outer → b ∉ frs (cxOf (CX1 P w) P w K mg base N qual scope f cd A outer s H E).stack := fun b o e n z => by
    rw [fsE] at z
    rcases List.mem_cons.mp z with z | z
    · exact old b o e z
    · exact n z
  refine ⟨x, C, a0, H', rfl, I.os, I.bare, ⟨fun b o e n nb _ => ?_, fun b o e n hb _ => ?_, fun b o e n _ => I.base.free b o e n (nex b), fun b o e _ => ?_, I.base.tups, I.base.frzs, I.base.tbls⟩, fun b o e => ?_, fly2, hE⟩
  · exact k1 b o (I.base.keep b o e n nb (nex b)) (off b o e nb) (.inl (by rw [e]; exact fun z => by cases z))
  · obtain ⟨sl, e1⟩ := I.base.slot b o e n hb (nex b)
    obtain ⟨sl2, e2⟩ := k2 b _ e1 (show b ∈ s.heap.objs.size :: frs outer from List.mem_cons_of_mem _ hb)
    exact ⟨sl2, e2⟩
  · obtain ⟨o', e1⟩ := I.base.there b o e (nex b)
    exact k3 b o' (by rw [e]; exact fun z => by cases z) e1
  · refine (I.hok b o e).stay (fun c u hc q => ?_) (fun _ q => q) fun _ _ q => q
    have hcn : H' c ≠ none := by
      rcases hc with hc | hc
      · rw [hc, e]; exact fun z => by cases z
      · rw [hc]; exact fun z => by cases z
    exact k1 c u q (fun z => hcn (I.stkFree c z)) (.inr hcn)
theorem passes1 : Passes (CX1 P w) (cxOf (CX1 P w) P w K mg base N qual scope f cd A outer s H E) E := fun pins σ H1 s1 e s' I ⟨x, C, a0, H', he, os, bare, un, hok, fly, hE⟩ => by
  subst he
  have I' := I.call' os un hok bare (fun b z => absurd z (by simp))
  have nex : ∀ b : Addr, b ∉ (cxOf (CX1 P w) P w K mg base N qual scope f cd A outer s H E).ex := fun b z => absurd (show b ∈ ([] : List Addr) from z) (by simp)
  have older : ∀ b, s1.heap.get? b = none → s.heap.get? b = none := fun b z => by
    cases q : s.heap.get? b with
    | none => rfl
    | some o =>
      obtain ⟨o', e1⟩ := I.base.there b o q (nex b)
      rw [z] at e1; cases e1
  obtain ⟨x0, xH, oe, vs, T, oT, ts, he, hc, hd, h1, T0, TH, r⟩ := fly
  exact fly_xe I' ⟨older _ x0, xH, oe, vs, T, oT, ts, he, hc, hd, h1, older _ T0, TH, r⟩ hE
end
end L2
namespace L2
open PySem PySem.Spec PyProof.Rows
section
variable {P : Program} {w : World} {K : PySem.W.Frag} {mg : Str → Option Value} {base : Heap} {N : List Str} {qual : Str} {scope : Scope} {f : Addr} {cd : Value} {A : Around} {outer : List Env} {s : Shared} {H : Hp} {E : XK}
theorem made_xe {pins : List (Addr × Obj)} {σ : St} {H1 : Hp} {s1 : Shared} {x C : Addr} {vs : List Value} {h' : Heap} (I0 : Inv (cxOf (CX1 P w) P w K mg base N qual scope f cd A outer s H E) pins σ H1 s1) (hx : Heap.MadeExcOf s1.heap h' x (.ref C) vs) (hE : E (.ref C) none H1) :
    (cxOf (CX1 P w) P w K mg base N qual scope f cd A outer s H E).xe (.ref x) { s1 with heap := h' } := by
  have nex : ∀ b : Addr, b ∉ (cxOf (CX1 P w) P w K mg base N qual scope f cd A outer s H E).ex := fun b z => absurd (show b ∈ ([] : List Addr) from z) (by simp)
  have fsE : frs (cxOf (CX1 P w) P w K mg base N qual scope f cd A outer s H E).stack = s.heap.objs.size :: frs outer := rfl
  have I : Inv (cxOf (CX1 P w) P w K mg base N qual scope f cd A outer s H E) pins σ H1 { s1 with heap := h' } := I0.kept (t' := s1.toks) (h' := h') hx.keeps
  obtain ⟨t, he, _, _⟩ := hx.there
  have x0 : s.heap.get? x = none := by
    cases q : s.heap.get? x with
    | none => rfl
    | some o =>
      obtain ⟨o', e1⟩ := I0.base.there x o q (nex x)
      rw [hx.new] at e1; cases e1
  have xH : H1 x = none := by
    cases q : H1 x with
    | none => rfl
    | some o =>
      obtain ⟨o', e1⟩ := (I0.hok x o q).there
      rw [hx.new] at e1; cases e1
  refine made_leaves (b0 := base) (h0 := s.heap) (H := H1) I.ok.frames I.stack rfl he rfl rfl rfl rfl x0 xH (fun b o e => I.base.there b o e (nex b)) I.stkFree (fun b o e => (I.hok b o e).there) fun h'' ⟨k1, k2, k3⟩ fly2 => ?_
  have old : ∀ b o, s.heap.get? b = some o → b ≠ s.heap.objs.size := fun b o e => Nat.ne_of_lt (Heap.lt_size e)
  have off : ∀ b o, s.heap.get? b = some o → b ∉ frs outer → b ∉ frs (cxOf (CX1 P w) P w K mg base N qual scope f cd A outer s H E).stack := fun b o e n z => by
    rw [fsE] at z
    rcases List.mem_cons.mp z with z | z
    · exact old b o e z
    · exact n z
  refine ⟨x, C, _, H1, rfl, I.os, I.bare, ⟨fun b o e n nb _ => ?_, fun b o e n hb _ => ?_, fun b o e n _ => I.base.free b o e n (nex b), fun b o e _ => ?_, I.base.tups, I.base.frzs, I.base.tbls⟩, fun b o e => ?_, fly2, hE⟩
  · exact k1 b o (I.base.keep b o e n nb (nex b)) (off b o e nb) (.inl (by rw [e]; exact fun z => by cases z))
  · obtain ⟨sl, e1⟩ := I.base.slot b o e n hb (nex b)
    obtain ⟨sl2, e2⟩ := k2 b _ e1 (show b ∈ s.heap.objs.size :: frs outer from List.mem_cons_of_mem _ hb)
    exact ⟨sl2, e2⟩
  · obtain ⟨o', e1⟩ := I.base.there b o e (nex b)
    exact k3 b o' (by rw [e]; exact fun z => by cases z) e1
  · refine (I.hok b o e).stay (fun c u hc q => ?_) (fun _ q => q) fun _ _ q => q
    have hcn : H1 c ≠ none := by
      rcases hc with hc | hc
      · rw [hc, e]; exact fun z => by cases z
      · rw [hc]; exact fun z => by cases z
    exact k1 c u q (fun z => hcn (I.stkFree c z)) (.inr hcn)
structure OwnE (base : Heap) (C : Addr) (newId initId B : String) (bmB : List Value) : Prop where
  fb : ExcBaseFacts B newId initId bmB
  ob : ∃ bm N nm q bs hdct sn sub ab col dd k0 k1 k2 k3 k5 mN, base.get? C = some (excClassObj nm q C N bs bm hdct sn sub ab col dd k0 k1 k2 k3 k5 newId) ∧ base.Ns N mN ∧ mN "__init__" = none ∧ OwnTail base bmB bm
noncomputable def tRaise (E : XK) (C : Addr) (te : TE) : TS := fun _ σ H => te σ H fun _ H1 => E (.ref C) none H1
theorem ps_raise {x : Str} {C : Addr} {newId initId B : String} {bmB : List Value} {e : Expr} {te : TE} {np cpos pos : Pos} (O : OwnE base C newId initId B bmB) (hg : Gl (cxOf (CX1 P w) P w K mg base N qual scope f cd A outer s H E) x) (hm : mg x = some (.ref C))
    (he : PE (cxOf (CX1 P w) P w K mg base N qual scope f cd A outer s H E) e te) (hd : (x == ("__debug__" : Str)) = false := by decide)
    (hs : starEach [e] (cxOf (CX1 P w) P w K mg base N qual scope f cd A outer s H E).env = [(false, eval e (cxOf (CX1 P w) P w K mg base N qual scope f cd A outer s H E).env)] := by rfl) :
    PS (cxOf (CX1 P w) P w K mg base N qual scope f cd A outer s H E) (.Raise (some (.Call (.Name x np) [e] [] cpos)) none pos) (tRaise E C te) := by
  intro pins s1 σ H1 D I h
  obtain ⟨bm, Nc, nm, q, bs, hdct, sn, sub, ab, col, dd, k0, k1, k2, k3, k5, mN, hC, hN, hni, T⟩ := O.ob
  refine wpAny_Raise_call_subT (C := C) (nm := nm) (q := q) (N := Nc) (bs := bs) (bm := bm) (hdct := hdct) (sn := sn) (sub := sub) (ab := ab) (col := col) (dd := dd) (k0 := k0) (k1 := k1) (k2 := k2) (k3 := k3) (k5 := k5) O.fb (mN := mN) (T.hasType O.fb.hasBase) (I.ok.hd rfl) (by rw [hs]; rfl) hni ?_
  refine ld_glob I hg hm ⟨rfl, ?_⟩ hd
  rw [hs]
  refine Calls.evalArgs_plain (Calls.spliced_cons (thn (he pins s1 σ H1 _ I h) fun v s2 ⟨y, H2, I2, ry, q2⟩ => Calls.spliced_nil ?_))
  exact ⟨rfl, Nat.le_trans (show 1 ≤ 1000 by decide) (by decide), I2.bk _ _ hC, hN.keeps I2.bk, T.keeps I2.bk, fun h' e hx => made_xe I2 hx q2⟩
end
end L2
namespace L2
open PySem PySem.Spec PyProof.Rows
section
variable {P : Program} {w : World} {K : PySem.W.Frag} {mg : Str → Option Value} {base : Heap}
theorem Fun.ok1 {x qual : Str} {st : Stmt} {f : Addr} {fd : FuncData} {N ps : List Str} {k : Nat} {sp : Sp} (F : Fun K x qual st f fd) (S : FnScope N ps (defScope st)) (len : ∀ vs H Q E, sp vs H Q E → vs.length = ps.length)
    (hbody : ∀ (cdv : Value) (A : Around) (outer : List Env) (s : Shared) (H : Hp) (vs : List V) (Q : VK) (E : XK), Room k (A.deeper (envOfC qual (defScope st) s.heap.objs.size f cdv)) → sp vs H Q E →
      ∃ t, PSs (cxOf (CX1 P w) P w K mg base N qual (defScope st) f cdv A outer s H E) (defBody st) t ∧ t { nx := fun _ H' => Q .non H', rt := Q } (start N vs) H) : FnOk P w K mg base (CX1 P w) (k + 1) f fd ps sp := by
  obtain ⟨oc, od, kV, doc, pm, an, cdv, ct, osl, rfl, lk, hcd⟩ := F.ex
  exact fn_of lk hcd S len fun A outer s H vs Q E hr hsp => hbody cdv A outer s H vs Q E hr hsp
theorem FnOk.up {k : Nat} {f : Addr} {fd : FuncData} {ps : List Str} {sp : Sp} (F : FnOk P w K mg base CX0 k f fd ps sp) : FnOk P w K mg base (CX1 P w) k f fd ps sp :=
  ⟨F.len, fun A outer s H args us vs Q E hr he hb hv hs => codeAny_mono (F.run A outer s H args us vs Q E hr he hb hv hs) fun r s' hq => by
    cases r with
    | error e => exact False.elim hq
    | ok fl => cases fl <;> exact hq⟩
theorem exc_obj {C : Addr} {newId : String} {bmB : List Value} (X : K.In base) (q : PySem.W.excIn K C bmB newId = true) : ∃ (nm qn : Str) (N : Addr) (bs bm : List Value) (hdct : Bool) (sn : List Str) (sub : List Value) (ab : Bool) (col : Option Bool) (dd : Option Addr) (k0 k1 k2 k3 k5 : Option Value) (cd : ClassData),
    base.get? C = some (excClassObj nm qn C N bs bm hdct sn sub ab col dd k0 k1 k2 k3 k5 newId) ∧ PySem.W.clsIn K C = some cd ∧ cd.mro = .ref C :: bm ∧ PySem.W.nsOkIn K N = true ∧ PySem.W.nsIn K N "__init__" = some none ∧ PySem.W.tailIn K bmB bm = true := by
  unfold PySem.W.excIn at q
  split at q
  · rename_i odict cl sl look
    split at q
    · rename_i C' bm k0 k1 k2 k3 n k5 hm hs
      simp only [beq_iff_eq, Bool.and_eq_true, Bool.not_eq_true'] at q
      have ⟨⟨⟨⟨⟨eC, eN⟩, noDel⟩, ht⟩, hok⟩, hni⟩ := q
      subst eC eN
      cases cl with
      | mk nm bs mro ns qn hd sn sub ab col del =>
      have em : mro = .ref C' :: bm := hm
      have ed : del = false := noDel
      subst em ed
      have hsl : sl = #[k0, k1, k2, k3, some (.builtin n), k5] := by
        cases sl with
        | mk l => exact congrArg Array.mk hs
      subst hsl
      have ec : PySem.W.clsIn K C' = some ⟨nm, bs, .ref C' :: bm, ns, qn, hd, sn, sub, ab, col, false⟩ := by
        unfold PySem.W.clsIn
        rw [look]
      exact ⟨nm, qn, ns, bs, bm, hd, sn, sub, ab, col, odict, k0, k1, k2, k3, k5, ⟨nm, bs, .ref C' :: bm, ns, qn, hd, sn, sub, ab, col, false⟩, X _ _ look, ec, rfl, hok, hni, ht⟩
    · cases q
  · cases q
theorem own_e {C : Addr} {newId initId B : String} {bmB : List Value} (fb : ExcBaseFacts B newId initId bmB) (X : K.In base) (q : PySem.W.excIn K C bmB newId = true) : OwnE base C newId initId B bmB := by
  obtain ⟨nm, qn, ns, bs, bm, hd, sn, sub, ab, col, odict, k0, k1, k2, k3, k5, cd, a1, _, _, hok, hni, ht⟩ := exc_obj X q
  exact ⟨fb, bm, ns, nm, qn, bs, hd, sn, sub, ab, col, odict, k0, k1, k2, k3, k5, base.nsMap ns, a1, .of_isNs (PySem.W.isNs_of_in X hok), PySem.W.nsMap_none_of_in X hok hni, PySem.W.tail_of_in X ht⟩
end
end L2
namespace L2
open PySem PySem.Spec PyProof.Rows
noncomputable def XP (X : Cx) (pins : List (Addr × Obj)) (R : St → Addr → Hp → Prop) (e : Value) (s' : Shared) : Prop :=
  ∃ (x C : Addr) (a0 : Value) (σ : St) (H1 H' : Hp) (s1 : Shared), e = .ref x ∧ Inv X pins σ H1 s1 ∧ s'.os = s1.os ∧ AllBare s'.gens ∧ Un (frs X.stack) [] H1 H' s1.heap s'.heap ∧ HOk X.prog X.w H' s'.heap ∧ Fly s1.heap H' s'.heap x (.ref C) a0 ∧ R σ C H'
noncomputable abbrev TX := Ends → (St → Addr → Hp → Prop) → St → Hp → Prop
noncomputable def PX (X : Cx) (st : Stmt) (t : TX) : Prop :=
  ∀ (pins : List (Addr × Obj)) (s : Shared) (σ : St) (H : Hp) (D : Ends) (R : St → Addr → Hp → Prop), Inv X pins σ H s → t D R σ H → wpAny (model X.prog X.w) X.A (exec st X.env) (SP X pins D) (XP X pins R) s
noncomputable def PXs (X : Cx) (st : List Stmt) (t : TX) : Prop :=
  ∀ (pins : List (Addr × Obj)) (s : Shared) (σ : St) (H : Hp) (D : Ends) (R : St → Addr → Hp → Prop), Inv X pins σ H s → t D R σ H → wpAny (model X.prog X.w) X.A (execs st X.env) (SP X pins D) (XP X pins R) s
section
variable {X : Cx} {k : Nat} {f : Addr} {fd : FuncData} {ps : List Str} {sp : Sp} {x : Str} {p pos epos : Pos} {e : Expr} {es : List Expr} {t : TA}
noncomputable def xCall (sp : Sp) (t : TA) : TX := fun D R σ H => t σ H fun vs H1 => sp vs H1 (fun _ H2 => D.nx σ H2) (fun C _ H2 => ∃ A, C = .ref A ∧ R σ A H2)
theorem px_call (F : FnOk X.prog X.w X.K X.mg X.base (CX1 X.prog X.w) k f fd ps sp) (hr : Room k X.A) (hg : Gl X x) (hm : X.mg x = some (.ref f)) (hk : PySem.W.keepIn X.K (.ref f) = true) (hb : Binds X.K fd ps [])
    (ha : PA X.nox (e :: es) t) (hdb : (x == ("__debug__" : Str)) = false := by decide) (he : starEach (e :: es) X.env = (false, eval e X.env) :: starEach es X.env := by rfl) (hpl : (backTo pos (starEach es X.env)).any (·.1) = false := by rfl)
    (hs : swapsWith (.Call (.Name x p) (e :: es) [] pos) none epos.line X.env = pure false := by rfl) : PX X (.Expr (.Call (.Name x p) (e :: es) [] pos) epos) (xCall sp t) := by
  intro pins s σ H D R I h
  refine wpAny_Expr_any (wpAny_Call_Name_kw (ld_glob I hg hm ?_ hdb)) I.quiet hs
  have hA : wpAny (model X.prog X.w) X.A (spliced (backTo pos (starEach (e :: es) X.env))) (AP X pins σ fun vs H1 => sp vs H1 (fun _ H2 => D.nx σ H2) (fun C _ H2 => ∃ A, C = .ref A ∧ R σ A H2)) (XP X pins R) s :=
    wpAny_mono (ha pos pins s σ H _ (I.wish _) h) (fun us s1 ⟨vs, H1, I1, r, q⟩ => ⟨vs, H1, I1.unwish, r, q⟩) fun _ _ z => False.elim z
  refine PySem.W.callWith_K (h₀ := X.base) I.ok.mod.kin hk (thn hA fun us s1 ⟨vs, H1, I1, r, q⟩ => ⟨I1.kIn, ?_⟩) he hpl
  have hl : (us ++ []).length = ps.length := by rw [List.append_nil, ← r.length]; exact F.len _ _ _ _ q
  have hbb := hb s1 us I1.kIn hl
  rw [List.append_nil] at hbb
  refine wpAny_call (codeAny_mono (F.run X.A X.stack s1 H1 ⟨us, []⟩ us vs _ _ hr I1.env0 hbb r q) fun rs s' hq => ?_)
  cases rs with
  | error er =>
    obtain ⟨y, C, a0, H', ey, os, bare, un, hok, fly, A0, eA, hR⟩ := hq
    cases eA
    exact ⟨y, C, a0, σ, H1, H', s1, ey, I1, os, bare, un, hok, fly, hR⟩
  | ok fl =>
    cases fl with
    | ret u =>
      obtain ⟨v, H', I', rv, q'⟩ := I1.after hq
      exact ⟨σ, H', I', q'⟩
    | next => exact False.elim hq
    | brk => exact False.elim hq
    | cont => exact False.elim hq
noncomputable def xIf (tc : TT) (t u : TX) : TX := fun D R σ H => tc σ H fun c H1 => if c = true then t D R σ H1 else u D R σ H1
theorem px_if {c : Expr} {a b : List Stmt} {tc : TT} {ta tb : TX} (hc : PT X.nox c tc) (ha : PXs X a ta) (hb : PXs X b tb) : PX X (.If c a b pos) (xIf tc ta tb) := by
  intro pins s σ H D R I h
  have hT : wpAny (model X.prog X.w) X.A (isTrue c X.env (eval c X.env)) (TP X pins σ fun d H1 => if d = true then ta D R σ H1 else tb D R σ H1) (XP X pins R) s :=
    wpAny_mono (hc pins s σ H _ (I.wish _) h) (fun d s1 ⟨H1, I1, q⟩ => ⟨H1, I1.unwish, q⟩) fun _ _ z => False.elim z
  refine wpAny_If (thn hT fun d s1 ⟨H1, I1, q1⟩ => ?_)
  cases d with
  | true => exact ha pins s1 σ H1 D R I1 q1
  | false => exact hb pins s1 σ H1 D R I1 q1
theorem pxs_one {st : Stmt} {tx : TX} (h : PX X st tx) : PXs X [st] tx := fun pins s σ H D R I hw => by
  refine wpAny_execs_cons (thn (h pins s σ H D R I hw) fun fl s1 q => ?_)
  cases fl with
  | next => exact wpAny_execs_nil q
  | brk => exact q
  | cont => exact q
  | ret u => exact q
end
end L2
namespace L2
open PySem PySem.Spec PyProof.Rows
section
variable {X : Cx} {pins : List (Addr × Obj)} {σ : St} {H1 H' : Hp} {s1 : Shared} {h h2 : Heap}
theorem near_un (un : Un (frs X.stack) [] H1 H' s1.heap h) (nr : Near s1.heap H' (frs X.stack) h h2) : Un (frs X.stack) [] H1 H' s1.heap h2 :=
  ⟨fun b o e n nb nx => nr.keep b o (un.keep b o e n nb nx) nb (.inl (by rw [e]; exact fun z => by cases z)),
   fun b o e n hb nx => by
     obtain ⟨sl, e1⟩ := un.slot b o e n hb nx
     obtain ⟨sl2, e2⟩ := nr.slot b _ e1 hb
     exact ⟨sl2, e2⟩,
   un.free, fun b o e nx => by
     obtain ⟨o', e1⟩ := un.there b o e nx
     exact nr.there b o' (by rw [e]; exact fun z => by cases z) e1, un.tups, un.frzs, un.tbls⟩
theorem near_hok {P : Program} {w : World} {h0 : Heap} {fs : List Addr} (hok : HOk P w H' h) (nr : Near h0 H' fs h h2) (hfs : ∀ b ∈ fs, H' b = none) : HOk P w H' h2 := fun b o e => by
  refine (hok b o e).stay (fun c u hc q => ?_) (fun _ q => q) fun _ _ q => q
  have hcn : H' c ≠ none := by
    rcases hc with hc | hc
    · rw [hc, e]; exact fun z => by cases z
    · rw [hc]; exact fun z => by cases z
  exact nr.keep c u q (fun z => hcn (hfs c z)) (.inr hcn)
end
section
variable {X : Cx} {pins : List (Addr × Obj)} {σ : St} {H : Hp} {s : Shared}
theorem unbind_ok {M : Model} {A : Around} {E : Value → Shared → Prop} {i : Nat} {x : Str} {v : V} {Q : Unit → Shared → Prop} (I : Inv X pins σ H s) (hN : X.N.Nodup) (hi : X.N[i]? = some x) (hk : X.env.scope.names.lookup x = some .local) (hv : σ[i]? = some (some v)) (hvis : Vis X.env.scope x)
    (hko : X.env.kindOf x = some .local) (h : ∀ s', Inv X pins (σ.set i none) H s' → Q () s') : wpAny M A (unbindName X.env x) Q E s := by
  obtain ⟨m, hn, hl⟩ := id I.loc
  have hcls : (X.env.scope.kind == .class || (X.env.scope.kind == .module && X.env.locals != X.env.globals)) = false := by rw [I.ok.kind]; rfl
  have hiσ : i < σ.length := by rw [I.len]; exact (List.getElem?_eq_some_iff.mp hi).1
  have cne := I.cne
  obtain ⟨u0, r0, lk⟩ := hl i x v hi hv hvis
  have hm : m x = some u0 := by
    rcases lk with ⟨_, e⟩ | ⟨k, _⟩
    · exact e
    · rcases k with k | k
      · rw [hko] at k; cases k
      · rw [hko] at k; cases k
  refine wpAny_unbindName_local hko hn hm hcls fun h' u hn' hs => ?_
  obtain ⟨oL, _, _, hoL, _⟩ := id hn
  have far : ∀ b o, X.s₀.heap.get? b = some o → b ≠ X.env.locals := fun b o e => Nat.ne_of_lt (Nat.lt_of_lt_of_le (Heap.lt_size e) I.ok.above)
  refine h _ ⟨I.ok, I.os, I.bare, ⟨fun b o e n hb hx => (hs.2 b (far b o e)).trans (I.base.keep b o e n hb hx), fun b o e n hb hx => ?_, I.base.free, fun b o e hx => ?_, I.base.tups, I.base.frzs, I.base.tbls⟩, ⟨_, hn', fun j y v' e1 e2 e3 => ?_⟩, fun y c e => ?_, I.free, I.freeC, fun p hp => ?_, fun b ob e => ?_, by simpa using I.len⟩
  · obtain ⟨sl, e1⟩ := I.base.slot b o e n hb hx
    exact ⟨sl, (hs.2 b (far b o e)).trans e1⟩
  · obtain ⟨o', e1⟩ := I.base.there b o e hx
    exact ⟨o', (hs.2 b (far b o e)).trans e1⟩
  · by_cases hj : j = i
    · subst hj
      rw [List.getElem?_set_self hiσ] at e2
      cases e2
    · rw [List.getElem?_set_ne (Ne.symm hj)] at e2
      obtain ⟨u', r', q⟩ := hl j y v' e1 e2 e3
      refine ⟨u', r', ?_⟩
      rcases q with ⟨k, e⟩ | ⟨k, c, e, z⟩
      · have ny : y ≠ x := fun e => hj (nodup_ix hN e1 (e ▸ hi))
        exact .inl ⟨k, by show (if y = x then u else m y) = some u'; rw [if_neg ny]; exact e⟩
      · exact .inr ⟨k, c, e, z.sameBut hs (cne y c e)⟩
  · obtain ⟨w', z⟩ := I.cell y c e
    exact ⟨w', z.sameBut hs (cne y c e)⟩
  · obtain ⟨e, n, ne, nf, d⟩ := I.pin p hp
    exact ⟨(hs.2 p.1 ne).trans e, n, ne, nf, d⟩
  · refine (I.hok b ob e).stay (fun c w' hc q => (hs.2 c fun z => ?_).trans q) (fun _ q => q) fun _ _ q => q
    have hf := I.free
    rw [← z] at hf
    rcases hc with hc | hc
    · rw [← hc, hf] at e; cases e
    · rw [hf] at hc; cases hc
end
section
variable {M : Model} {A : Around} {E : Value → Shared → Prop}
noncomputable def Up (K : PySem.W.Frag) (C B : Addr) : Prop := PySem.W.mroIn K C (.ref B) = some true ∧ PySem.W.mroIn K B (.type "BaseException") = some true ∧ PySem.W.typeIn K (.ref B) = some (.type "type")
theorem matches_up {K : PySem.W.Frag} {h : Heap} {g : Array GenState} {d : Drawn} {t : Nat} {os : OsState} {e C B : Addr} {oe : Obj} {Q : Bool → Shared → Prop} (X : K.In h) (u : Up K C B) (he : h.get? e = some oe) (hcls : oe.cls = .ref C) (hq : Q true ⟨h, g, d, t, os⟩) : wpAny M A (excMatches (.ref e) (.ref B)) Q E ⟨h, g, d, t, os⟩ := by
  have L1 := PySem.W.looks_mroIn (M := M) X u.1
  have L2 := PySem.W.looks_mroIn (M := M) X u.2.1
  obtain ⟨od, cd, sl, hB⟩ : ∃ od cd sl, h.get? B = some ⟨.type "type", od, .cls cd, sl⟩ := by
    have z := u.2.1
    have y := u.2.2
    unfold PySem.W.mroIn PySem.W.clsIn at z
    split at z
    · rename_i look
      unfold PySem.W.typeIn at y
      simp only [look] at y
      cases y
      exact ⟨_, _, _, X _ _ look⟩
    · cases z
  have f := tc_notTuple
  unfold excMatches
  repeat (first | (with_reducible refine wpAny_loadPart_at he ?_; rw [hcls]) | with_reducible refine wpAny_loadPart_at hB ?_ | with_reducible refine L2.at ?_ | with_reducible refine L1.at ?_ | wp_step)
  exact hq
end
end L2
namespace L2
open PySem PySem.Spec PyProof.Rows
noncomputable abbrev Cx.marked (X : Cx) (v : Option Value) : Cx := { X with A := X.A.mark v, calm := false }
section
variable {X : Cx} {pins : List (Addr × Obj)} {σ : St} {H : Hp} {s : Shared} {v : Option Value}
theorem Inv.mark (I : Inv X pins σ H s) (v : Option Value) : Inv (X.marked v) pins σ H s :=
  ⟨⟨I.ok.mod, I.ok.kind, I.ok.glob, I.ok.blt, I.ok.above, I.ok.inj, I.ok.has, I.ok.cab, (fun z => by cases z), I.ok.frames, I.ok.stk, I.ok.exf, I.ok.bs, I.ok.bsz, I.ok.noex, I.ok.exfs, I.ok.funs, I.ok.frf⟩, I.os, I.bare, I.base, I.loc, I.cell, I.free, I.freeC, I.pin, I.hok, I.len⟩
theorem Inv.unmark (ok : X.Ok) (I : Inv (X.marked v) pins σ H s) : Inv X pins σ H s := ⟨ok, I.os, I.bare, I.base, I.loc, I.cell, I.free, I.freeC, I.pin, I.hok, I.len⟩
noncomputable def excO (x C : Addr) : HO := .ext fun h => ∃ o, h.get? x = some o ∧ o.cls = .ref C ∧ o.dict = none ∧ ∃ vs, o.data = .fields vs
theorem inv_track {x : Addr} {o : HO} (I : Inv X pins σ H s) (hx : H x = none) (x0 : X.s₀.heap.get? x = none) (xl : x ≠ X.env.locals) (xc : ∀ y c, X.env.cells.lookup y = some c → c ≠ x) (xp : ∀ p ∈ X.pn ++ pins, p.1 ≠ x) (ok : ObjOk X.prog X.w (upd H x o) s.heap x o) : Inv X pins σ (upd H x o) s := by
  have ne : ∀ b u, H b = some u → b ≠ x := fun b u e z => by rw [z, hx] at e; cases e
  have n0 : ∀ b u, X.s₀.heap.get? b = some u → b ≠ x := fun b u e z => by rw [z, x0] at e; cases e
  refine ⟨I.ok, I.os, I.bare, ⟨I.base.keep, I.base.slot, fun b u e n hx' => ?_, I.base.there, fun b xs e => ?_, fun b u xs e => ?_, fun b ps e => ?_⟩, I.loc, I.cell, by rw [upd_ne xl.symm]; exact I.free, fun y c e => by rw [upd_ne (xc y c e)]; exact I.freeC y c e, fun p hp => ?_, fun b u e => ?_, I.len⟩
  · rw [upd_ne (n0 b u e)]; exact I.base.free b u e n hx'
  · have e1 := I.base.tups b xs e
    rw [upd_ne (ne b _ e1)]; exact e1
  · have e1 := I.base.frzs b u xs e
    rw [upd_ne (ne b _ e1)]; exact e1
  · obtain ⟨more, e1⟩ := I.base.tbls b ps e
    exact ⟨more, by rw [upd_ne (ne b _ e1)]; exact e1⟩
  · obtain ⟨a1, a2, a3, a4, a5⟩ := I.pin p hp
    exact ⟨a1, by rw [upd_ne (xp p hp)]; exact a2, a3, a4, a5⟩
  · by_cases z : b = x
    · subst z
      rw [upd_same] at e
      cases e
      exact ok
    · rw [upd_ne z] at e
      exact (I.hok b u e).stay (fun _ _ _ q => q) (fun c q => by rw [upd_ne (ne c _ q)]; exact q) fun c xs q => by rw [upd_ne (ne c _ q)]; exact q
end
noncomputable def tTry (K : PySem.W.Frag) (B : Addr) (ie : Nat) (tb : TX) (ts : TS) : TS := fun D σ H => tb D (fun σ' C H' => Up K C B ∧ ∀ x, H' x = none → ts { nx := fun σ2 H2 => D.nx (σ2.set ie none) H2, rt := fun _ _ => False } (σ'.set ie (some (.ref x))) (upd H' x (excO x C))) σ H
theorem ps_try {X : Cx} {body suite : List Stmt} {b₀ : Stmt} {cx n : Str} {cp hp pos : Pos} {B : Addr} {ie : Nat} {tb : TX} {ts : TS} (hb : PXs X body tb) (hex : X.ex = []) (hst : X.stack = X.env :: X.outer) (hfrm : X.env.frame = some X.env.locals) (hN : X.N.Nodup) (hi : X.N[ie]? = some n)
    (hloc : Loc X.env.scope n) (hk : X.env.scope.names.lookup n = some .local) (hko : X.env.kindOf n = some .local) (hvis : Vis X.env.scope n) (hg : Gl X cx) (hm : X.mg cx = some (.ref B)) (hs : ∀ v, PSs (X.marked v).nox (b₀ :: suite) ts) (hd : (cx == ("__debug__" : Str)) = false := by decide) :
    PS X (.Try body [.ExceptHandler (some (.Name cx cp)) (some n) (b₀ :: suite) hp] [] [] pos) (tTry X.K B ie tb ts) := by
  intro pins s σ H D I h
  refine wpAny_Try_except (wpAny_mono (hb pins s σ H D _ I h) (fun f s1 q => ?_) fun e s1 q => ?_)
  · cases f with
    | next => exact wpAny_execs_nil q
    | brk => exact q
    | cont => exact q
    | ret u => exact q
  obtain ⟨x, C, a0, σ1, H1, H', sc, rfl, Ic, os, bare, un, hok, fly, up, hR⟩ := q
  have nil : ∀ (P : Addr → Prop), ∀ b ∈ ([] : List Addr), P b := fun _ b z => absurd z (by simp)
  have I1 : Inv X pins σ1 H' s1 := Ic.call' os un hok bare (nil _)
  have fsE : frs (X.env :: X.outer) = frs X.stack := by rw [hst]
  refine fly_noted (h0 := sc.heap) (H := H') (by rw [← hst]; exact Ic.ok.frames) (by rw [← hst]; exact I1.stack) hfrm fly (fun b o e => un.there b o e (by simp)) (fun b o e => (hok b o e).there) fun h2 nr2 fa => ?_
  rw [fsE] at nr2
  have un2 := near_un un nr2
  have hok2 := near_hok hok nr2 (fun b hb => I1.stkFree b hb)
  have I2 : Inv X pins σ1 H' { s1 with heap := h2 } := Ic.call' (s' := { s1 with heap := h2 }) os un2 hok2 bare (nil _)
  refine fly_lands (h0 := sc.heap) (H := H') (l := X.stack) I2.stack fa (fun b o e => un2.there b o e (by simp)) (fun b o e => (hok2 b o e).there) fun h3 nr3 fly3 => ?_
  have un3 := near_un un2 nr3
  have hok3 := near_hok hok2 nr3 (fun b hb => I2.stkFree b hb)
  have I3 : Inv X pins σ1 H' { s1 with heap := h3 } := Ic.call' (s' := { s1 with heap := h3 }) os un3 hok3 bare (nil _)
  obtain ⟨ox, hxo, hxc⟩ : ∃ o, h3.get? x = some o ∧ o.cls = .ref C := by
    obtain ⟨_, _, oe, _, _, _, _, e1, e2, _⟩ := fly3
    exact ⟨oe, e1, e2.1⟩
  refine wpAny_handleBy_cons (codeAny_handlers_test (ld_glob (X := X.marked (some (.ref x))) (I3.mark (some (.ref x))) hg hm ?_ hd)) (by intro z; cases z)
  refine matches_up I3.kIn up hxo hxc ?_
  refine codeAny_handlers_suite_as ?_
  refine fly_lands (h0 := sc.heap) (H := H') (l := X.stack) (fl := .none) I3.stack fly3 (fun b o e => un3.there b o e (by simp)) (fun b o e => (hok3 b o e).there) fun h4 nr4 fly4 => ?_
  have un4 := near_un un3 nr4
  have hok4 := near_hok hok3 nr4 (fun b hb => I3.stkFree b hb)
  have I4 : Inv X pins σ1 H' { s1 with heap := h4 } := Ic.call' (s' := { s1 with heap := h4 }) os un4 hok4 bare (nil _)
  obtain ⟨x0, xH, oe4, vs4, _, _, _, e4, c4, d4, _⟩ := fly4
  have old : ∀ b o, sc.heap.get? b = some o → b ≠ x := fun b o e z => by rw [z, x0] at e; cases e
  have I5 : Inv X pins σ1 (upd H' x (excO x C)) { s1 with heap := h4 } := by
    refine inv_track I4 xH ?_ ?_ ?_ ?_ ⟨⟨oe4, e4, c4.1, c4.2.2, vs4, d4⟩, ⟨oe4, e4⟩, fun g1 g2 ⟨o, a1, a2⟩ k => ⟨o, k o a1, a2⟩⟩
    · cases z : X.s₀.heap.get? x with
      | none => rfl
      | some o =>
        obtain ⟨o', e'⟩ := Ic.base.there x o z (by rw [hex]; simp)
        exact absurd rfl (old x o' e')
    · obtain ⟨m, ⟨o, _, _, ho, _⟩, _⟩ := id Ic.loc
      exact (old _ o ho).symm
    · intro y c e
      obtain ⟨w', o, ho, _⟩ := Ic.cell y c e
      exact old _ o ho
    · intro p hp'
      exact old _ _ (Ic.pin p hp').1
  refine store_ok I5 hN hi hloc (v := .ref x) rfl (fun s6 I6 => ?_) (.inr hk)
  refine wpAny_mono (hs (some (.ref x)) pins s6 _ _ _ ((I6.mark (some (.ref x))).wish _) (hR x xH)) (fun f s7 q7 => ?_) fun _ _ z => False.elim z
  cases f with
  | brk => obtain ⟨_, _, _, z⟩ := q7; exact z.elim
  | cont => obtain ⟨_, _, _, z⟩ := q7; exact z.elim
  | ret u => obtain ⟨_, _, _, _, _, z⟩ := q7; exact z.elim
  | next =>
    obtain ⟨σ7, H7, I7w, q8⟩ := q7
    have I7 : Inv X pins σ7 H7 s7 := Inv.unmark Ic.ok I7w.unwish
    have hlen : ie < σ7.length := by rw [I7.len]; exact (List.getElem?_eq_some_iff.mp hi).1
    show wpAny _ _ (bindName X.env n .none >>= fun _ => unbindBehindTheSuite X.env n hp) _ _ s7
    refine wpAny_bind (wpAny_bindName (store_ok I7 hN hi hloc (v := .non) rfl (fun s8 I8 => ?_) (.inr hk)))
    unfold unbindBehindTheSuite
    refine wpAny_onRaise (unbind_ok I8 hN hi hk (v := .non) (List.getElem?_set_self hlen) hvis hko fun s9 I9 => ?_)
    rw [List.set_set] at I9
    exact ⟨_, H7, I9, q8⟩
end L2
namespace L2
open PySem PySem.Spec PyProof.Rows PySem.W
structure ClsE (K : Frag) (C : Addr) : Prop where
  hg : findIn K (.ref C) "__getattribute__" = some (some (.builtin "BaseException.__getattribute__"))
  hh : findIn K (.ref C) "__getattr__" = some none
  fo : findObj K C none "__class__" = some (.bind (.builtin "getset_descriptor.__get__") (.builtin "object.__class__"))
  hm : mroIn K C (.type "object") = some true
  hb : mroIn K C (.type "BaseException") = some true
section
variable {prog : Program} {w : World} {A : Around} {E : Value → Shared → Prop} {s : Shared} {K : Frag} {x C : Addr} {ox : Obj}
theorem cls_some {v : Value} {b : Bool} (h : mroIn K C v = some b) : ∃ cd, clsIn K C = some cd := by
  unfold mroIn at h
  cases e : clsIn K C with
  | none => rw [e] at h; cases h
  | some cd => exact ⟨cd, rfl⟩
theorem err_entry {tk : Tok} {Q : Fin → Shared → Prop} (c : ClsE K C) (X : K.In s.heap) (I : PySem.W.InstAt s.heap x ox C none) (h : Q (.done (.ret (.ref C))) s) : wpAny (model prog w) A (Builtin.«object.__getattribute__» ⟨[.ref x, .str "__class__" tk], []⟩) Q E s := by
  have L0 := I.type (M := model prog w)
  have L1 := looks_find (M := model prog w) X I c.fo
  obtain ⟨hh, gg, d, t, os⟩ := s
  refine wpAny_bind (wpAny_pure (wpAny_bind (wpAny_pure (wpAny_bind (L0.at (wpAny_bind (L1.at ?_)))))))
  show wpAny _ _ (holding [_] (call _ _) >>= ret) _ _ _
  refine wpAny_bind (wpAny_holding (wpAny_call (class_get (s := ⟨hh, gg, d, t, os⟩) (ox := ox) (od := none) X I c.hm ?_)))
  exact wpAny_pure h
theorem err_call {tk : Tok} {R : Result → Shared → Prop} (c : ClsE K C) (X : K.In s.heap) (I : PySem.W.InstAt s.heap x ox C none) (h : R (.ok (.ret (.ref C))) s) : codeAny (model prog w) A (.call (.builtin "BaseException.__getattribute__") ⟨[.ref x, .str "__class__" tk], []⟩) R s := by
  have L0 := I.type (M := model prog w)
  have L1 := looks_mroIn (M := model prog w) X c.hb
  have LI : Looks (model prog w) s.heap (isInstance (.ref x) (.type "BaseException")) true := L0.andThen L1
  obtain ⟨hh, gg, d, t, os⟩ := s
  refine codeAny_call_builtin F.excAttr_ValueError.ga.plain F.entry_bexc_ga ?_
  have hk : builtinKind "BaseException.__getattribute__" = some .slot := by decide +kernel
  have hsplit : splitId "BaseException.__getattribute__" = some ("BaseException", "__getattribute__") := by decide +kernel
  have ha := F.args_bexc_ga (.ref x) (.str "__class__" tk)
  simp only [checkBuiltinCall, hk, hsplit]
  refine wpAny_bind (LI.at ?_)
  simp only [Bool.not_true, Bool.false_eq_true, if_false]
  unfold argsOk at ha
  generalize Manifest.signature? "BaseException.__getattribute__" = o at ha ⊢
  cases o with
  | none => exact wpAny_pure (err_entry (s := ⟨hh, gg, d, t, os⟩) c X I h)
  | some sig =>
    have ha' : Bind.checkArgs "BaseException.__getattribute__" sig ⟨[.ref x, .str "__class__" tk], []⟩ = pure () := ha
    show wpAny _ _ (Bind.checkArgs "BaseException.__getattribute__" sig ⟨[.ref x, .str "__class__" tk], []⟩) _ _ _
    rw [ha']
    exact wpAny_pure (err_entry (s := ⟨hh, gg, d, t, os⟩) c X I h)
theorem err_class {Q : Option Value → Shared → Prop} (c : ClsE K C) (X : K.In s.heap) (I : PySem.W.InstAt s.heap x ox C none) (h : Q (some (.ref C)) { s with toks := s.toks + 1 }) : wpAny (model prog w) A (getAttr? (.ref x) "__class__") Q E s := by
  obtain ⟨hh, gg, d, t, os⟩ := s
  have L0 := I.type (M := model prog w)
  have L1 := looks_findIn (M := model prog w) X c.hg
  have L2 := looks_findIn (M := model prog w) X c.hh
  unfold getAttr? getAttrBy? getAttrBy
  refine wpAny_bind (wpAny_mkText (wpAny_bind (wpAny_attempt (wpAny_holding (wpAny_bind (L0.at (wpAny_bind (L1.at ?_))))))))
  have hx2 : (Value.builtin "BaseException.__getattribute__" == Value.builtin "object.__getattribute__") = false := by decide +kernel
  have hx1 : (onTheHeap (Value.ref C) && Value.builtin "BaseException.__getattribute__" == Value.builtin "object.__getattribute__") = false := by rw [hx2]; rfl
  simp only [hx1, Bool.false_eq_true, if_false]
  unfold getAttrByItsOwn hookBefore callGetattribute boundAndCalled
  simp only [onTheHeap, if_true, Bool.false_and, Bool.false_eq_true, if_false]
  refine wpAny_bind (L2.at (wpAny_bind (wpAny_attempt (wpAny_holding ?_))))
  rw [F.excAttr_ValueError.ga.bind (.ref x)]
  refine wpAny_bind (wpAny_pure (wpAny_call (err_call (s := ⟨hh, gg, d, t + 1, os⟩) c X I ?_)))
  exact handed_on rfl (wpAny_pure h)
theorem kitx_err (c : ClsE K C) : KitX K (.ref x) (.ref C) (fun h => ∃ ox, PySem.W.InstAt h x ox C none) where
  ty := fun _ _ _ ⟨_, I⟩ => I.type
  it := fun _ _ X _ => by
    obtain ⟨cd, q⟩ := cls_some c.hm
    unfold clsIn at q
    split at q
    · rename_i a1 a2 a3 a4 look
      intro A' Q' E' s' keep z
      unfold isType loadHead
      exact wpAny_bind (wpAny_loadPart (keep _ _ (X _ _ look)) (wpAny_pure z))
    · cases q
  ne := fun h tp dd its n sl X htp => by
    obtain ⟨cd, q⟩ := cls_some c.hm
    refine Bool.eq_false_iff.mpr fun same => ?_
    have e : C = tp := Value.ref.inj (beq_iff_eq.mp same)
    subst e
    unfold clsIn at q
    split at q
    · rename_i a1 a2 a3 a4 look
      cases (X _ _ look).symm.trans htp
    · cases q
  ca := fun X ⟨_, I⟩ k => err_class c X I k
end
section
variable {X : Cx}
theorem exc_at {P : Program} {w : World} {H : Hp} {h : Heap} {x C : Addr} (ok : HOk P w H h) (e : H x = some (excO x C)) : ∃ ox, PySem.W.InstAt h x ox C none := by
  obtain ⟨⟨o, a1, a2, a3, vs, a4⟩, _⟩ := (show ObjOk P w H h x (excO x C) from ok x _ e)
  refine ⟨o, a1, a2, ?_, ?_⟩
  · unfold notCls
    rw [a4]
  · rw [a3]; exact trivial
theorem call_isiE : CallR X (.builtin "isinstance") (fun xs H Q => ∃ x C b, ∃ d : V, ∃ dv : Value, xs = [.ref x, d] ∧ H x = some (excO x C) ∧ ClsE X.K C ∧ (∀ u, RelV d u → u = dv) ∧ kitOne X.K (.ref C) dv = some b ∧ Q (.bl b) H) := by
  intro pins s σ H xs us Q I r h
  obtain ⟨x, C, b, d, dv, rfl, hx, c, hdv, e, q⟩ := h
  obtain ⟨u, v, rfl, rx, ry⟩ := vals2 r
  cases (show u = Value.ref x from rx)
  cases hdv v ry
  exact kia_one (kitx_err c) I.kIn (exc_at I.hok hx) e (fun z => nomatch z) fun tk => ⟨.bl b, H, I.tok tk, rfl, q⟩
end
end L2
namespace L2
open PySem PySem.Spec PyProof.Rows
noncomputable def spOr (a b : Sp) : Sp := fun vs H Q E => a vs H Q E ∨ b vs H Q E
section
variable {P : Program} {w : World} {K : PySem.W.Frag} {mg : Str → Option Value} {base : Heap} {CX : CXT} {k : Nat} {f : Addr} {fd : FuncData} {ps : List Str} {sp sp' : Sp} {x : Str}
theorem FnOk.or (F : FnOk P w K mg base CX k f fd ps sp) (G : FnOk P w K mg base CX k f fd ps sp') : FnOk P w K mg base CX k f fd ps (spOr sp sp') :=
  ⟨fun vs H Q E h => h.elim (F.len vs H Q E) (G.len vs H Q E), fun A outer s H args us vs Q E hr he hb hv hs => hs.elim (F.run A outer s H args us vs Q E hr he hb hv) (G.run A outer s H args us vs Q E hr he hb hv)⟩
theorem FnOk.less (F : FnOk P w K mg base CX k f fd ps sp) (h : ∀ vs H Q E, sp' vs H Q E → sp vs H Q E) : FnOk P w K mg base CX k f fd ps sp' :=
  ⟨fun vs H Q E z => F.len vs H Q E (h vs H Q E z), fun A outer s H args us vs Q E hr he hb hv hs => F.run A outer s H args us vs Q E hr he hb hv (h vs H Q E hs)⟩
structure Def1 (P : Program) (w : World) (K : PySem.W.Frag) (mg : Str → Option Value) (base : Heap) (k : Nat) (x : Str) (ps : List Str) (sp : Sp) : Prop where
  ex : ∃ f fd, FnOk P w K mg base (CX1 P w) k f fd ps sp ∧ mg x = some (.ref f) ∧ PySem.W.keepIn K (.ref f) = true ∧ Binds K fd ps []
theorem Def.less (D : Def P w K mg base k x ps sp) (h : ∀ vs H Q E, sp' vs H Q E → sp vs H Q E) : Def P w K mg base k x ps sp' := by
  obtain ⟨f, fd, G, r⟩ := D.ex
  exact ⟨f, fd, G.less h, r⟩
end
section
variable {P : Program} {w : World} {K : PySem.W.Frag} {mg : Str → Option Value} {base : Heap} {N : List Str} {qual : Str} {scope : Scope} {f : Addr} {cd : Value} {A : Around} {outer : List Env} {s : Shared} {H : Hp} {E : XK} {k : Nat} {x : Str} {ps : List Str} {sp : Sp} {e : Expr} {es : List Expr} {t : TA} {p pos : Pos}
theorem pe_fn1 (D : Def1 P w K mg base k x ps sp) (hr : Room k (cxOf (CX1 P w) P w K mg base N qual scope f cd A outer s H E).A) (hg : Gl (cxOf (CX1 P w) P w K mg base N qual scope f cd A outer s H E) x) (ha : PA (cxOf (CX1 P w) P w K mg base N qual scope f cd A outer s H E) (e :: es) t)
    (hdb : (x == ("__debug__" : Str)) = false := by decide) (he : starEach (e :: es) (cxOf (CX1 P w) P w K mg base N qual scope f cd A outer s H E).env = (false, eval e (cxOf (CX1 P w) P w K mg base N qual scope f cd A outer s H E).env) :: starEach es (cxOf (CX1 P w) P w K mg base N qual scope f cd A outer s H E).env := by rfl)
    (hpl : (backTo pos (starEach es (cxOf (CX1 P w) P w K mg base N qual scope f cd A outer s H E).env)).any (·.1) = false := by rfl) : PE (cxOf (CX1 P w) P w K mg base N qual scope f cd A outer s H E) (.Call (.Name x p) (e :: es) [] pos) (tCall sp [] E t) := by
  obtain ⟨f', fd, G, h1, h2, h3⟩ := D.ex
  exact pe_call G hr hg h1 h2 h3 .nil passes1 ha hdb he hpl
end
section
variable {X : Cx} {k : Nat} {x : Str} {ps : List Str} {sp : Sp} {e : Expr} {es : List Expr} {t : TA} {p pos epos : Pos}
theorem px_fn (D : Def1 X.prog X.w X.K X.mg X.base k x ps sp) (hr : Room k X.A) (hg : Gl X x) (ha : PA X.nox (e :: es) t) (hdb : (x == ("__debug__" : Str)) = false := by decide) (he : starEach (e :: es) X.env = (false, eval e X.env) :: starEach es X.env := by rfl) (hpl : (backTo pos (starEach es X.env)).any (·.1) = false := by rfl)
    (hs : swapsWith (.Call (.Name x p) (e :: es) [] pos) none epos.line X.env = pure false := by rfl) : PX X (.Expr (.Call (.Name x p) (e :: es) [] pos) epos) (xCall sp t) := by
  obtain ⟨f', fd, G, h1, h2, h3⟩ := D.ex
  exact px_call G hr hg h1 h2 h3 ha hdb he hpl hs
end
end L2
namespace Hv
open PySem L2
section
variable {P : Program} {w : World} {K : PySem.W.Frag} {mg : Str → Option Value} {base h : Heap}
noncomputable def cs (l : List Addr) : Nat → Addr := fun j => l.getD j 0
end
end Hv
namespace Hv
open PySem L2
noncomputable def top (i : Nat) : Stmt := PySem.Challenge.pw_likehalves_k27_together_refused.main.body.getD i (.Pass ⟨0, 0, 0, 0⟩)
noncomputable abbrev sWhole : Stmt := top 13
noncomputable abbrev sBetw : Stmt := top 14
noncomputable abbrev sLBetw : Stmt := top 15
noncomputable abbrev sIsFrame : Stmt := top 16
noncomputable abbrev sNeedFrame : Stmt := top 17
noncomputable abbrev sHowMany : Stmt := top 18
noncomputable abbrev sNeedNumber : Stmt := top 19
noncomputable abbrev sCut : Stmt := top 20
noncomputable abbrev sFiguresOf : Stmt := top 21
noncomputable abbrev sPartSums : Stmt := top 22
noncomputable abbrev sMissesBy : Stmt := top 23
noncomputable abbrev sIsEven : Stmt := top 24
noncomputable abbrev sNeedFrames : Stmt := top 28
noncomputable abbrev sEvenOf : Stmt := top 29
noncomputable abbrev sKeepsEach : Stmt := top 30
noncomputable abbrev sKeepsAll : Stmt := top 31
noncomputable abbrev sAllKeeping : Stmt := top 32
noncomputable abbrev sNextKeeping : Stmt := top 33
noncomputable abbrev sCell : Stmt := top 35
noncomputable abbrev sStore : Stmt := top 36
noncomputable abbrev sTake : Stmt := top 37
noncomputable abbrev sFrame : Stmt := top 38
noncomputable abbrev sCopy : Stmt := top 39
noncomputable abbrev sMany : Stmt := top 40
noncomputable abbrev sFigures : Stmt := top 41
noncomputable abbrev sSpread : Stmt := top 42
noncomputable abbrev sFrames : Stmt := top 43
noncomputable abbrev sCopies : Stmt := top 44
noncomputable abbrev sKeeps : Stmt := top 45
noncomputable abbrev sLawKind : Stmt := top 46
noncomputable abbrev sNoFrame : Stmt := top 47
noncomputable abbrev sLawNoFrames : Stmt := top 48
noncomputable abbrev sLawWord : Stmt := top 49
noncomputable abbrev sLaw : Stmt := top 50
end Hv
namespace Hv
open PySem L2
section
variable {K : PySem.W.Frag}
theorem kit_nl : PySem.W.kitOne K (.type "NoneType") (.type "list") = some false := by kernel_rfl
theorem kit_bl' : PySem.W.kitOne K (.type "bool") (.type "list") = some false := by kernel_rfl
theorem kit_il : PySem.W.kitOne K (.type "int") (.type "list") = some false := by kernel_rfl
theorem kit_sl : PySem.W.kitOne K (.type "str") (.type "list") = some false := by kernel_rfl
theorem kit_tl : PySem.W.kitOne K (.type "tuple") (.type "list") = some false := by kernel_rfl
theorem kit_dl : PySem.W.kitOne K (.type "dict") (.type "list") = some false := by kernel_rfl
theorem kit_nt : PySem.W.kitOne K (.type "NoneType") (.type "tuple") = some false := by kernel_rfl
theorem kit_bt : PySem.W.kitOne K (.type "bool") (.type "tuple") = some false := by kernel_rfl
theorem kit_it : PySem.W.kitOne K (.type "int") (.type "tuple") = some false := by kernel_rfl
theorem kit_st : PySem.W.kitOne K (.type "str") (.type "tuple") = some false := by kernel_rfl
theorem kit_lt : PySem.W.kitOne K (.type "list") (.type "tuple") = some false := by kernel_rfl
theorem kit_dt : PySem.W.kitOne K (.type "dict") (.type "tuple") = some false := by kernel_rfl
end
noncomputable def betwD (lo hi : Int) : PyData → Bool
  | .int i => decide (lo ≤ i) && decide (i ≤ hi)
  | _ => false
noncomputable def rowD (lo hi : Int) : PyData → Bool
  | .list ds => ds.all (betwD lo hi)
  | _ => false
noncomputable def lenD : PyData → Nat
  | .list ds => ds.length
  | _ => 0
noncomputable def valD : PyData → Int
  | .int i => i
  | _ => 0
noncomputable def sumD : PyData → Int
  | .list ds => (ds.map valD).sum
  | _ => 0
noncomputable def isFrameD : PyData → Bool
  | .tuple [x, y, z] => betwD 2 16 x && (rowD 1 6 y && (decide (2 ≤ lenD y) && decide (lenD y ≤ 4))) && (rowD (-9) 9 z && decide ((lenD z : Int) = sumD y))
  | _ => false
noncomputable def isL : PyData → Bool
  | .list _ => true
  | _ => false
theorem tree_thing {H : Hp} {v : V} {d : PyData} (t : Tree H v d) : Thing H v := by
  cases t with
  | non => exact .non
  | bl b => exact .bl b
  | int i => exact .int i
  | str x => exact .str x
  | lst e _ => exact .lst e
  | tup e _ => exact .tup e
  | emp e => exact .dK e
theorem tree_betw {H : Hp} {v : V} {d : PyData} {lo hi : Int} (t : Tree H v d) : betw v lo hi = betwD lo hi d := by cases t <;> rfl
theorem trees_get {H : Hp} : ∀ {xs : List V} {ds : List PyData} {i : Nat} {x : V}, Trees H xs ds → xs[i]? = some x → ∃ d, ds[i]? = some d ∧ Tree H x d
  | _, _, _, _, .nil, e => by simp at e
  | _, _, 0, _, .cons h _, e => by simp at e; subst e; exact ⟨_, rfl, h⟩
  | _, _, i + 1, q, .cons _ t, e => by
    obtain ⟨d, h1, h2⟩ := trees_get (i := i) (x := q) t (by simpa using e)
    exact ⟨d, by simpa using h1, h2⟩
theorem trees_len {H : Hp} : ∀ {xs : List V} {ds : List PyData}, Trees H xs ds → xs.length = ds.length
  | _, _, .nil => rfl
  | _, _, .cons _ t => by rw [List.length_cons, List.length_cons, trees_len t]
theorem trees_all {H : Hp} {lo hi : Int} : ∀ {xs : List V} {ds : List PyData}, Trees H xs ds → xs.all (fun x => betw x lo hi) = ds.all (betwD lo hi)
  | _, _, .nil => rfl
  | _, _, .cons h t => by rw [List.all_cons, List.all_cons, tree_betw h, trees_all t]
theorem trees_ints {H : Hp} {lo hi : Int} : ∀ {xs : List V} {ds : List PyData}, Trees H xs ds → ds.all (betwD lo hi) = true → xs = (ds.map valD).map V.int ∧ ∀ n ∈ ds.map valD, lo ≤ n ∧ n ≤ hi
  | _, _, .nil, _ => ⟨rfl, fun n hn => by simp at hn⟩
  | _, _, .cons h t, a => by
    rw [List.all_cons, Bool.and_eq_true] at a
    obtain ⟨e, b⟩ := trees_ints t a.2
    cases h with
    | int i =>
      have hi' : lo ≤ i ∧ i ≤ hi := by simpa [betwD] using a.1
      refine ⟨by rw [e]; simp [valD], fun n hn => ?_⟩
      rcases List.mem_cons.mp hn with rfl | hn
      · exact hi'
      · exact b n hn
    | _ => simp [betwD] at a
noncomputable def Sh (d : PyData) : Prop := d.weight ≤ 300000
theorem len_weight : ∀ ds : List PyData, ds.length ≤ PyData.weightAll ds
  | [] => Nat.zero_le _
  | d :: r => by have := len_weight r; simp only [PyData.weightAll, List.length_cons]; omega
theorem weight_mem : ∀ {ds : List PyData} {d : PyData}, d ∈ ds → d.weight ≤ PyData.weightAll ds
  | e :: r, d, h => by
    simp only [PyData.weightAll]
    rcases List.mem_cons.mp h with rfl | h
    · omega
    · have := weight_mem h; omega
noncomputable def spLBT : Sp := fun vs H Q _ => ∃ v d lo hi, vs = [v, .int lo, .int hi] ∧ Tree H v d ∧ Sh d ∧ ∀ H', Same H H' → Q (.bl (rowD lo hi d)) H'
noncomputable def spIFT : Sp := fun vs H Q _ => ∃ v d, vs = [v] ∧ Tree H v d ∧ Sh d ∧ ∀ H', Same H H' → Q (.bl (isFrameD d)) H'
section
variable {P : Program} {w : World} {K : PySem.W.Frag} {mg : Str → Option Value} {base : Heap}
theorem scWhole : FnScope ["thing"] ["thing"] (defScope sWhole) := ⟨rfl, rfl, rfl, by decide +kernel, rfl, by decide +kernel, by decide +kernel⟩
theorem ok_whole {f : Addr} {fd : FuncData} (F : Fun K "is_whole" "is_whole" sWhole f fd) (T : Txt mg) : FnOk P w K mg base CX0 1 f fd ["thing"] spWhole := by
  refine F.ok scWhole (fun vs H Q E h => ?_) (fun cdv A outer s H vs Q E hr h => ?_)
  · obtain ⟨v, rfl, _⟩ := h; rfl
  · obtain ⟨v, rfl, ty, k⟩ := h
    refine ⟨_, pss_one (ps_ret (pe_and (pe_callB call_isi (by rfl) T.isi boot_isinstance (pa_cons (pv 0) (pa_cons (pe_ty T.int boot_int) pa_nil)))
      (pe_one (pe_not (pe_callB call_isi (by rfl) T.isi boot_isinstance (pa_cons (pv 0) (pa_cons (pe_ty T.bool boot_bool) pa_nil))))))), ?_⟩
    cases ty with
    | non => exact ⟨_, rfl, _, _, _, _, rfl, .non, kit_ni, false, rfl, iteF k⟩
    | bl b => exact ⟨_, rfl, _, _, _, _, rfl, .bl b, kit_bi, true, rfl, iteT ⟨_, rfl, _, _, _, _, rfl, .bl b, kit_bb, true, rfl, k⟩⟩
    | int i => exact ⟨_, rfl, _, _, _, _, rfl, .int i, kit_ii, true, rfl, iteT ⟨_, rfl, _, _, _, _, rfl, .int i, kit_ib, false, rfl, k⟩⟩
    | str x => exact ⟨_, rfl, _, _, _, _, rfl, .str x, kit_si, false, rfl, iteF k⟩
    | lst e => exact ⟨_, rfl, _, _, _, _, rfl, .lst e, kit_li, false, rfl, iteF k⟩
    | tup e => exact ⟨_, rfl, _, _, _, _, rfl, .tup e, kit_ti, false, rfl, iteF k⟩
    | dK e => exact ⟨_, rfl, _, _, _, _, rfl, .dK e, kit_di, false, rfl, iteF k⟩
theorem scBetw : FnScope ["thing", "least", "greatest"] ["thing", "least", "greatest"] (defScope sBetw) := ⟨rfl, rfl, rfl, by decide +kernel, rfl, by decide +kernel, by decide +kernel⟩
theorem ok_betw {f : Addr} {fd : FuncData} (F : Fun K "is_between" "is_between" sBetw f fd) (D1 : Def P w K mg base 1 "is_whole" ["thing"] spWhole) : FnOk P w K mg base CX0 2 f fd ["thing", "least", "greatest"] spBetw := by
  refine F.ok scBetw (fun vs H Q E h => ?_) (fun cdv A outer s H vs Q E hr h => ?_)
  · obtain ⟨v, lo, hi, rfl, _⟩ := h; rfl
  · obtain ⟨v, lo, hi, rfl, ty, k⟩ := h
    refine ⟨_, pss_one (ps_ret (pe_and (pe_fn D1 hr (by rfl) (pa_cons (pv 0) pa_nil)) (pe_one (pe_chain op_le op_le (pv 1) (pv 0) (pv 2))))), ?_⟩
    refine ⟨_, rfl, v, rfl, ty, _, rfl, ?_⟩
    cases v with
    | int i =>
      refine iteT ?_
      refine ⟨_, rfl, _, rfl, _, _, rfl, rfl, _, rfl, ?_⟩
      by_cases h1 : lo ≤ i
      · rw [decide_eq_true h1]
        refine iteT ⟨_, rfl, _, _, rfl, rfl, ?_⟩
        have e : betw (.int i) lo hi = decide (i ≤ hi) := by simp [betw, h1]
        rw [e] at k
        exact k
      · rw [decide_eq_false h1]
        refine iteF ?_
        have e : betw (.int i) lo hi = false := by simp [betw, h1]
        rw [e] at k
        exact k
    | _ => exact iteF k
theorem scLBetw : FnScope ["thing", "least", "greatest"] ["thing", "least", "greatest"] (defScope sLBetw) := ⟨rfl, rfl, rfl, by decide +kernel, rfl, by decide +kernel, by decide +kernel⟩
theorem ok_lbt {f : Addr} {fd : FuncData} (F : Fun K "is_list_between" "is_list_between" sLBetw f fd) (T : Txt mg) (D2 : Def P w K mg base 2 "is_between" ["thing", "least", "greatest"] spBetw) : FnOk P w K mg base CX0 3 f fd ["thing", "least", "greatest"] spLBT := by
  refine F.ok scLBetw (fun vs H Q E h => ?_) (fun cdv A outer s H vs Q E hr h => ?_)
  · obtain ⟨v, d, lo, hi, rfl, _⟩ := h; rfl
  · obtain ⟨v, d, lo, hi, rfl, t, hsh, k⟩ := h
    refine ⟨_, pss_one (ps_ret (pe_and (pe_callB call_isi (by rfl) T.isi boot_isinstance (pa_cons (pv 0) (pa_cons (pe_ty T.list boot_list) pa_nil)))
      (pe_one (pe_callB (call_all rfl) (by rfl) T.all boot_all (pa_cons
        (pe_cmp1 (defScope sLBetw) ["thing", "least", "greatest"] ["least", "greatest"] [1, 2] rfl (pi_list (pv 0)) (fun cl C s H fp => pf_nil) (fun cl C s H fp => pe_fn D2 hr (by rfl) (pa_cons (pv 0) (pa_cons (pv 1) (pa_cons (pv 2) pa_nil)))) (by decide +kernel)) pa_nil))))), ?_⟩
    cases t with
    | non => exact ⟨_, rfl, _, _, _, _, rfl, .non, kit_nl, false, rfl, iteF (k H (Same.refl _))⟩
    | bl b => exact ⟨_, rfl, _, _, _, _, rfl, .bl b, kit_bl', false, rfl, iteF (k H (Same.refl _))⟩
    | int i => exact ⟨_, rfl, _, _, _, _, rfl, .int i, kit_il, false, rfl, iteF (k H (Same.refl _))⟩
    | str x => exact ⟨_, rfl, _, _, _, _, rfl, .str x, kit_sl, false, rfl, iteF (k H (Same.refl _))⟩
    | tup e rs => exact ⟨_, rfl, _, _, _, _, rfl, .tup e, kit_tl, false, rfl, iteF (k H (Same.refl _))⟩
    | emp e => exact ⟨_, rfl, _, _, _, _, rfl, .dK e, kit_dl, false, rfl, iteF (k H (Same.refl _))⟩
    | lst e rs =>
      rename_i a xs ds
      have hxl : xs.length ≤ 300000 := by
        rw [trees_len rs]
        have h1 : PyData.weightAll ds ≤ 300000 := by simpa only [Sh, PyData.weight] using hsh
        exact Nat.le_trans (len_weight ds) h1
      refine ⟨_, rfl, _, _, _, _, rfl, .lst e, kit_ll, true, rfl, iteT ?_⟩
      refine ⟨_, rfl, a, rfl, ⟨_, SqL.of e⟩, comp_list (K := K) (a := a) (xs := xs) (fun i ys H2 => ys = ((xs.take i).map fun x => V.bl (betw x lo hi)) ∧ Same H H2) ⟨by simp, Same.refl _⟩ (fun i ys H2 _ p => SqL.of (p.2 _ _ e)) ?_ ?_⟩
      · rintro i x ys H2 hx ⟨rfl, s2⟩
        have hil : i < xs.length := (List.getElem?_eq_some_iff.mp hx).1
        obtain ⟨dd, _, tx⟩ := trees_get rs hx
        refine ⟨szl (by rw [List.length_map, List.length_take]; omega), ?_⟩
        refine ⟨_, rfl, _, rfl, _, rfl, x, lo, hi, rfl, (tree_thing tx).keep s2, ?_, s2⟩
        rw [List.take_add_one, hx]
        simp
      · rintro ys H2 ⟨rfl, s2⟩ D hD
        refine ⟨D, xs.map fun x => betw x lo hi, rfl, SqL.of ?_, ?_⟩
        · rw [upd_same, List.take_length, List.map_map]
          rfl
        · have e2 : (xs.map fun x => betw x lo hi).all id = ds.all (betwD lo hi) := by rw [List.all_map, ← trees_all rs]; rfl
          rw [e2]
          exact k _ (same_upd2 s2 (s2.free hD))
end
end Hv
namespace Hv
open PySem L2
theorem if_len {ds : List PyData} (h : ds.length ≠ 3) : isFrameD (.tuple ds) = false := by
  match ds, h with
  | [], _ => rfl
  | [_], _ => rfl
  | [_, _], _ => rfl
  | [_, _, _], h => exact absurd rfl h
  | _ :: _ :: _ :: _ :: _, _ => rfl
theorem row_list {lo hi : Int} {d : PyData} (h : rowD lo hi d = true) : ∃ ds, d = .list ds ∧ ds.all (betwD lo hi) = true := by
  cases d with
  | list ds => exact ⟨ds, rfl, h⟩
  | _ => simp [rowD] at h
theorem tup_case {K : PySem.W.Frag} {H : Hp} {v : V} {d : PyData} (t : Tree H v d) : (∃ ty, TyOf K H v ty ∧ PySem.W.kitOne K ty (.type "tuple") = some false ∧ isFrameD d = false) ∨ ∃ a xs ds, v = .ref a ∧ d = .tuple ds ∧ H a = some (.tup xs) ∧ Trees H xs ds := by
  cases t with
  | non => exact .inl ⟨_, .non, kit_nt, rfl⟩
  | bl b => exact .inl ⟨_, .bl b, kit_bt, rfl⟩
  | int i => exact .inl ⟨_, .int i, kit_it, rfl⟩
  | str x => exact .inl ⟨_, .str x, kit_st, rfl⟩
  | lst e rs => exact .inl ⟨_, .lst e, kit_lt, rfl⟩
  | emp e => exact .inl ⟨_, .dK e, kit_dt, rfl⟩
  | tup e rs => exact .inr ⟨_, _, _, rfl, rfl, e, rs⟩
theorem trees_cons {H : Hp} {xs : List V} {ds : List PyData} {n : Nat} (t : Trees H xs ds) (h : xs.length = n + 1) : ∃ x r d s, xs = x :: r ∧ ds = d :: s ∧ r.length = n ∧ Tree H x d ∧ Trees H r s := by
  cases t with
  | nil => cases h
  | cons a b => exact ⟨_, _, _, _, rfl, rfl, Nat.succ.inj h, a, b⟩
theorem trees3 {H : Hp} {xs : List V} {ds : List PyData} (t : Trees H xs ds) (h : xs.length = 3) : ∃ x y z dx dy dz, xs = [x, y, z] ∧ ds = [dx, dy, dz] ∧ Tree H x dx ∧ Tree H y dy ∧ Tree H z dz := by
  obtain ⟨x, r, dx, s, rfl, rfl, h, tx, t⟩ := trees_cons t h
  obtain ⟨y, r, dy, s, rfl, rfl, h, ty, t⟩ := trees_cons t h
  obtain ⟨z, r, dz, s, rfl, rfl, h, tz, t⟩ := trees_cons t h
  cases t
  · exact ⟨x, y, z, dx, dy, dz, rfl, rfl, tx, ty, tz⟩
  · cases h
theorem tree_row {H : Hp} {v : V} {d : PyData} {lo hi : Int} (t : Tree H v d) (h : rowD lo hi d = true) : ∃ b vs ys, v = .ref b ∧ d = .list ys ∧ H b = some (.lst vs) ∧ vs.length = ys.length ∧ vs = (ys.map valD).map V.int ∧ ∀ n ∈ ys.map valD, lo ≤ n ∧ n ≤ hi := by
  obtain ⟨ys, rfl, ha⟩ := row_list h
  cases t with
  | lst e r =>
    obtain ⟨ei, bi⟩ := trees_ints r ha
    exact ⟨_, _, ys, rfl, rfl, e, trees_len r, ei, bi⟩
theorem iteD {c A B : Prop} [Decidable c] (h1 : c → A) (h2 : ¬ c → B) : if decide c = true then A else B := ite2 (fun h => h1 (of_decide_eq_true h)) fun h => h2 fun z => h (decide_eq_true z)
theorem iteND {c A B : Prop} [Decidable c] (h1 : c → B) (h2 : ¬ c → A) : if (!decide c) = true then A else B := by
  by_cases h : c
  · rw [decide_eq_true h]; exact iteF (h1 h)
  · rw [decide_eq_false h]; exact iteT (h2 h)
section
variable {P : Program} {w : World} {K : PySem.W.Frag} {mg : Str → Option Value} {base : Heap}
theorem scIsFrame : FnScope ["thing"] ["thing"] (defScope sIsFrame) := ⟨rfl, rfl, rfl, by decide +kernel, rfl, by decide +kernel, by decide +kernel⟩
theorem ok_ift {f : Addr} {fd : FuncData} (F : Fun K "is_frame" "is_frame" sIsFrame f fd) (T : Txt mg) (D2 : Def P w K mg base 2 "is_between" ["thing", "least", "greatest"] spBetw) (D3 : Def P w K mg base 3 "is_list_between" ["thing", "least", "greatest"] spLBT) :
    FnOk P w K mg base CX0 4 f fd ["thing"] spIFT := by
  refine F.ok scIsFrame (fun vs H Q E h => ?_) (fun cdv A outer s H vs Q E hr h => ?_)
  · obtain ⟨v, d, rfl, _⟩ := h; rfl
  · obtain ⟨v, d, rfl, t, hsh, k⟩ := h
    refine ⟨_, pss_cons (ps_if (PW.pt (pw_or (pt_not (pt_val (pe_callB call_isi (by rfl) T.isi boot_isinstance (pa_cons (pv 0) (pa_cons (pe_ty T.tuple boot_tuple) pa_nil))))) (pw_or1 (pt_cmpR op_ne (lenS T.len (by rfl) (pv 0)) pe_int (nomark _))))) (pss_one (ps_ret pe_bl)) pss_nil)
      (pss_cons (ps_if (pt_not (pt_val (pe_fn D2 (hr.mono (by decide)) (by rfl) (pa_cons (ixt (pv 0) pe_int) (pa_cons pe_int (pa_cons pe_int pa_nil)))))) (pss_one (ps_ret pe_bl)) pss_nil)
      (pss_cons (ps_if (PW.pt (pw_or (pt_not (pt_val (pe_fn D3 hr (by rfl) (pa_cons (ixt (pv 0) pe_int) (pa_cons pe_int (pa_cons pe_int pa_nil)))))) (pw_or1 (pt_not (pt_chain op_le op_le pe_int (lenS T.len (by rfl) (ixt (pv 0) pe_int)) pe_int))))) (pss_one (ps_ret pe_bl)) pss_nil)
      (pss_one (ps_ret (pe_and (pe_fn D3 hr (by rfl) (pa_cons (ixt (pv 0) pe_int) (pa_cons (pe_un un_neg pe_int) (pa_cons pe_int pa_nil))))
        (pe_one (pe_cmpR op_eq (lenS T.len (by rfl) (ixt (pv 0) pe_int)) (pe_callB (call_sumL rfl) (by rfl) T.sum boot_sum (pa_cons (ixt (pv 0) pe_int) pa_nil)) (nomark _)))))))), ?_⟩
    rcases tup_case (K := K) t with ⟨ty, t1, k1, hf⟩ | ⟨a, xs, ds, rfl, rfl, e, rs⟩
    · rw [hf] at k
      exact ⟨_, rfl, _, _, _, _, rfl, t1, k1, false, rfl, iteT (k H (Same.refl _))⟩
    clear t
    by_cases h3 : xs.length = 3
    case neg =>
      rw [if_len (by rw [← trees_len rs]; exact h3)] at k
      refine ⟨_, rfl, _, _, _, _, rfl, .tup e, kit_tt, true, rfl, iteF ?_⟩
      refine ⟨_, rfl, a, _, rfl, .inr (SqT.of e), rfl, _, rfl, ?_⟩
      have hne : ¬ V.int (xs.length : Int) = V.int 3 := by
        intro z
        injection z with z'
        omega
      rw [decide_eq_false hne]
      exact iteT (k H (Same.refl _))
    obtain ⟨x, y, z, dx, dy, dz, rfl, rfl, tx, ty, tz⟩ := trees3 rs h3
    have shy : Sh dy := Nat.le_trans (weight_mem (ds := [dx, dy, dz]) (by simp)) (by simpa only [Sh, PyData.weight] using hsh)
    have shz : Sh dz := Nat.le_trans (weight_mem (ds := [dx, dy, dz]) (by simp)) (by simpa only [Sh, PyData.weight] using hsh)
    clear rs h3 hsh
    have no : ∀ H', Same H H' → isFrameD (.tuple [dx, dy, dz]) = false → Q (.bl false) H' := fun H' s' h => by rw [← h]; exact k H' s'
    refine ⟨_, rfl, _, _, _, _, rfl, .tup e, kit_tt, true, rfl, iteF ?_⟩
    refine ⟨_, rfl, a, _, rfl, .inr (SqT.of e), rfl, _, rfl, iteF ?_⟩
    refine ⟨_, rfl, _, _, _, _, rfl, rfl, SqT.of e, rfl, ⟨x, 2, 16, rfl, tree_thing tx, _, rfl, ?_⟩⟩
    rw [tree_betw tx]
    clear tx
    cases hb : betwD 2 16 dx with
    | false => exact iteT (no H (Same.refl _) (by simp [isFrameD, hb]))
    | true =>
    refine iteF ?_
    refine ⟨_, rfl, _, _, _, _, rfl, rfl, SqT.of e, rfl, ⟨y, dy, 1, 6, rfl, ty, shy, fun H1 s1 => ?_⟩⟩
    cases hy : rowD 1 6 dy with
    | false => exact ⟨_, rfl, iteT (no H1 s1 (by simp [isFrameD, hy]))⟩
    | true =>
    obtain ⟨b, vs, ys, rfl, edy, ey, hyl, ei, bi⟩ := tree_row ty hy
    clear ty
    refine ⟨_, rfl, iteF ?_⟩
    refine ⟨_, rfl, _, _, _, _, rfl, rfl, SqT.of (s1 _ _ e), rfl, ⟨b, _, rfl, .inl (SqL.of (s1 _ _ ey)), _, _, rfl, rfl, _, rfl, ?_⟩⟩
    refine iteD (fun h2' => ?_) (fun h2 => ⟨false, rfl, iteT (no H1 s1 (by simp [isFrameD, edy, lenD, show ¬ 2 ≤ ys.length by omega]))⟩)
    refine ⟨_, _, rfl, rfl, _, rfl, ?_⟩
    refine iteND (fun h4' => ?_) (fun h4 => no H1 s1 (by simp [isFrameD, edy, lenD, show ¬ ys.length ≤ 4 by omega]))
    have h2 : 2 ≤ ys.length := by omega
    have h4 : ys.length ≤ 4 := by omega
    clear h2' h4'
    refine ⟨_, rfl, _, _, _, _, rfl, rfl, SqT.of (s1 _ _ e), rfl, ⟨_, rfl, ⟨z, dz, -9, 9, rfl, tz.keep s1, shz, fun H2 s2 => ⟨_, rfl, ?_⟩⟩⟩⟩
    cases hz : rowD (-9) 9 dz with
    | false => exact iteF (no H2 (s1.trans s2) (by simp [isFrameD, hz]))
    | true =>
    obtain ⟨c, us, zs, rfl, edz, ez, hzl, _, _⟩ := tree_row tz hz
    have s12 := s1.trans s2
    refine iteT ?_
    refine ⟨_, rfl, _, _, _, _, rfl, rfl, SqT.of (s12 _ _ e), rfl, ⟨c, _, rfl, .inl (SqL.of (s12 _ _ ez)), ?_⟩⟩
    refine ⟨_, rfl, _, _, _, _, rfl, rfl, SqT.of (s12 _ _ e), rfl, ⟨b, ys.map valD, rfl, SqL.of (by rw [← ei]; exact s12 _ _ ey), ⟨by rw [List.length_map]; omega, fun n hn => by have := bi n hn; omega⟩, rfl, ?_⟩⟩
    have ef : decide (V.int (us.length : Int) = V.int (ys.map valD).sum) = isFrameD (.tuple [dx, dy, dz]) := by
      rw [edy] at hy ⊢
      rw [edz] at hz ⊢
      simp only [isFrameD, hb, hy, hz, lenD, sumD, decide_eq_true h2, decide_eq_true h4, Bool.and_self, Bool.true_and, ← hzl]
      by_cases q : (us.length : Int) = (ys.map valD).sum
      · rw [decide_eq_true q, decide_eq_true (by rw [q])]; simp [h2, h4]
      · rw [decide_eq_false q, decide_eq_false fun z => q (by injection z)]; simp
    rw [ef]
    exact k H2 s12
end
end Hv
namespace Hv
open PySem L2
theorem row_ints {lo hi : Int} {ns : List Int} : rowD lo hi (.list (ns.map PyData.int)) = ns.all fun n => decide (lo ≤ n) && decide (n ≤ hi) := by
  simp only [rowD, List.all_map]
  rfl
theorem frame_ints {b : Int} {ns ms : List Int} : isFrameD (.tuple [.int b, .list (ns.map .int), .list (ms.map .int)]) =
    ((decide (2 ≤ b) && decide (b ≤ 16)) && ((ns.all fun n => decide (1 ≤ n) && decide (n ≤ 6)) && (decide (2 ≤ ns.length) && decide (ns.length ≤ 4))) && ((ms.all fun n => decide (-9 ≤ n) && decide (n ≤ 9)) && decide ((ms.length : Int) = ns.sum))) := by
  simp only [isFrameD, row_ints, betwD, lenD, sumD, List.length_map, List.map_map]
  have e : (ns.map (valD ∘ PyData.int)) = ns := by
    have e0 : (valD ∘ PyData.int) = (id : Int → Int) := funext fun _ => rfl
    rw [e0, List.map_id]
  rw [e]
theorem int_weight {i : Int} (h : -1000 ≤ i ∧ i ≤ 1000) : (PyData.int i).weight ≤ 90 := by
  have hl : i.natAbs.log2 < 84 := by
    by_cases h0 : i.natAbs = 0
    · rw [h0]; decide
    · exact (Nat.log2_lt h0).mpr (Nat.lt_of_le_of_lt (show i.natAbs ≤ 1000 by omega) (by decide))
  simp only [PyData.weight]
  split <;> omega
theorem ints_weight : ∀ {ns : List Int}, (∀ n ∈ ns, -1000 ≤ n ∧ n ≤ 1000) → PyData.weightAll (ns.map PyData.int) ≤ ns.length * 91
  | [], _ => by simp [PyData.weightAll]
  | n :: r, h => by
    have h1 := int_weight (h n List.mem_cons_self)
    have h2 := ints_weight (ns := r) fun m hm => h m (List.mem_cons_of_mem _ hm)
    rw [List.map_cons]
    unfold PyData.weightAll
    rw [List.length_cons, Nat.add_mul]
    omega
theorem trees_ints' {H : Hp} : ∀ ns : List Int, Trees H (ns.map V.int) (ns.map PyData.int)
  | [] => .nil
  | n :: r => .cons (.int n) (trees_ints' r)
noncomputable def frT (b : Nat) (ps : List Nat) (ws : List Int) : PyData := .tuple [.int b, .list ((ps.map fun (p : Nat) => (p : Int)).map PyData.int), .list (ws.map PyData.int)]
theorem FrAt.tree {H : Hp} {f a c : Addr} {b : Nat} {ps : List Nat} {ws : List Int} (G : FrAt H f a c b ps ws) : Tree H (.ref f) (frT b ps ws) :=
  .tup G.tp (.cons (.int _) (.cons (.lst G.hp (by rw [natV_eq]; exact trees_ints' _)) (.cons (.lst G.hw (trees_ints' _)) .nil)))
theorem fr_sh {b : Nat} {ps : List Nat} {ws : List Int} (ok : FrOk b ps ws) : Sh (frT b ps ws) := by
  have h1 := ints_weight (ns := ps.map fun (p : Nat) => (p : Int)) fun n hn => by
    obtain ⟨p, hp, rfl⟩ := List.mem_map.mp hn
    have := ok.pr p hp
    omega
  have h2 := ints_weight (ns := ws) fun n hn => by have := ok.wr n hn; omega
  have h3 := int_weight (i := (b : Int)) (by have := ok.b16; omega)
  have l4 := ok.l4
  have hs := ok.sum
  have hw := ok.wl
  rw [List.length_map] at h1
  unfold Sh frT
  simp only [PyData.weight, PyData.weightAll] at h3 ⊢
  omega
theorem fr_isD {b : Nat} {ps : List Nat} {ws : List Int} (ok : FrOk b ps ws) : isFrameD (frT b ps ws) = true := by
  unfold frT
  rw [frame_ints]
  have e1 : ((ps.map fun (p : Nat) => (p : Int)).all fun n => decide (1 ≤ n) && decide (n ≤ 6)) = true := by
    rw [List.all_eq_true]
    intro n hn
    obtain ⟨p, hp, rfl⟩ := List.mem_map.mp hn
    have := ok.pr p hp
    simp only [Bool.and_eq_true, decide_eq_true_eq]
    omega
  have e2 : (ws.all fun n => decide (-9 ≤ n) && decide (n ≤ 9)) = true := by
    rw [List.all_eq_true]
    intro n hn
    have := ok.wr n hn
    simp only [Bool.and_eq_true, decide_eq_true_eq]
    omega
  have b2 := ok.b2
  have b16 := ok.b16
  have l2 := ok.l2
  have l4 := ok.l4
  have x1 : decide (2 ≤ (b : Int)) = true := decide_eq_true (by omega)
  have x2 : decide ((b : Int) ≤ 16) = true := decide_eq_true (by omega)
  have x3 : decide (2 ≤ ps.length) = true := decide_eq_true l2
  have x4 : decide (ps.length ≤ 4) = true := decide_eq_true l4
  have x5 : decide (((ps.sum : Nat) : Int) = ((ps.sum : Nat) : Int)) = true := decide_eq_true rfl
  rw [e1, e2, Ma.sum_cast, List.length_map, ok.wl, x1, x2, x3, x4, x5]
  rfl
end Hv
namespace Hv
open PySem L2
section
variable {P : Program} {w : World} {K : PySem.W.Frag} {mg : Str → Option Value} {base : Heap}
theorem scNeedFrame : FnScope ["thing"] ["thing"] (defScope sNeedFrame) := ⟨rfl, rfl, rfl, by decide +kernel, rfl, by decide +kernel, by decide +kernel⟩
theorem ok_needframe {f : Addr} {fd : FuncData} (F : Fun K "need_frame" "need_frame" sNeedFrame f fd) (D4 : Def P w K mg base 4 "is_frame" ["thing"] spIsFrame) : FnOk P w K mg base CX0 5 f fd ["thing"] spNeedFrame := by
  refine F.ok scNeedFrame (fun vs H Q E h => ?_) (fun cdv A outer s H vs Q E hr h => ?_)
  · obtain ⟨g, a, c, b, ps, ws, rfl, _⟩ := h; rfl
  · obtain ⟨g, a, c, b, ps, ws, rfl, G, k⟩ := h
    refine ⟨_, pss_one (ps_if (pt_not (pt_val (pe_fn D4 hr (by rfl) (pa_cons (pv 0) pa_nil)))) pss_never pss_nil), ?_⟩
    exact ⟨_, rfl, g, a, c, b, ps, ws, rfl, G, fun H1 s1 => ⟨_, rfl, iteF (k H1 s1)⟩⟩

theorem scHowMany : FnScope ["frame", "many", "place"] ["frame"] (defScope sHowMany) := ⟨rfl, rfl, rfl, by decide +kernel, rfl, by decide +kernel, by decide +kernel⟩
theorem ok_howmany {f : Addr} {fd : FuncData} (F : Fun K "how_many" "how_many" sHowMany f fd) (T : Txt mg) (D5 : Def P w K mg base 5 "need_frame" ["thing"] spNeedFrame) : FnOk P w K mg base CX0 6 f fd ["frame"] spHowMany := by
  refine F.ok scHowMany (fun vs H Q E h => ?_) (fun cdv A outer s H vs Q E hr h => ?_)
  · obtain ⟨g, a, c, b, ps, ws, rfl, _⟩ := h; rfl
  · obtain ⟨g, a, c, b, ps, ws, rfl, G, k⟩ := h
    have ok := G.ok
    have hsum := ok.sum
    refine ⟨_, pss_cons (ps_expr (pe_fn D5 hr (by rfl) (pa_cons (pv 0) pa_nil)))
      (pss_cons (ps_set (i := 1) scHowMany.nd rfl (Or.inl rfl) pe_int)
      (pss_cons (ps_for PassesOwn.never rfl (pi_range1 (by rfl) T.range (pa_cons (lenS T.len (by rfl) (ixt (pv 0) pe_int)) pa_nil)) (pg_name (i := 2) scHowMany.nd rfl (Or.inl rfl))
        (pss_one (ps_set (i := 1) scHowMany.nd rfl (Or.inl rfl) (pe_op op_mul (pv 1) (ixt (pv 0) pe_int)))))
      (pss_one (ps_ret (pv 1))))), ?_⟩
    refine ⟨_, rfl, g, a, c, b, ps, ws, rfl, G, fun H1 s1 => ?_⟩
    have G1 := G.keep s1
    refine ⟨_, rfl, _, _, _, _, rfl, rfl, SqT.of G1.tp, rfl, ⟨c, _, rfl, .inl (SqL.of G1.hw), _, rfl, (by rw [List.length_map, ok.wl]; omega), (by rw [List.length_map, ok.wl]; omega), ?_⟩⟩
    have en : ((ws.map V.int).length : Int).toNat = ps.sum := by rw [List.length_map, ok.wl]; omega
    rw [en]
    refine for_range (n := ps.sum) (fun i σ H2 => H2 = H1 ∧ ∃ v, σ = [some (.ref g), some (.int ((b ^ i : Nat) : Int)), v]) ⟨rfl, none, rfl⟩ ?_ ?_
    · rintro i σ H2 hi ⟨rfl, v, rfl⟩
      refine ⟨_, rfl, _, rfl, _, _, _, _, rfl, rfl, SqT.of G1.tp, rfl, ⟨_, _, rfl, rfl, .inr ⟨by have := ok.b16; omega, by have := ok.b16; omega⟩, rfl, some (.int (0 + (i : Int))), ?_⟩⟩
      rw [Nat.pow_succ]
      push_cast
      rfl
    · rintro σ H2 ⟨rfl, v, rfl⟩
      exact ⟨_, rfl, k _ s1⟩

theorem scNeedNumber : FnScope ["frame", "thing"] ["frame", "thing"] (defScope sNeedNumber) := ⟨rfl, rfl, rfl, by decide +kernel, rfl, by decide +kernel, by decide +kernel⟩
theorem ok_neednumber {f : Addr} {fd : FuncData} (F : Fun K "need_number" "need_number" sNeedNumber f fd) (D2 : Def P w K mg base 2 "is_between" ["thing", "least", "greatest"] spBetw) (D6 : Def P w K mg base 6 "how_many" ["frame"] spHowMany) :
    FnOk P w K mg base CX0 7 f fd ["frame", "thing"] spNeedNumber := by
  refine F.ok scNeedNumber (fun vs H Q E h => ?_) (fun cdv A outer s H vs Q E hr h => ?_)
  · obtain ⟨g, a, c, b, ps, ws, n, rfl, _⟩ := h; rfl
  · obtain ⟨g, a, c, b, ps, ws, n, rfl, G, hn, k⟩ := h
    refine ⟨_, pss_one (ps_if (pt_not (pt_val (pe_fn D2 (hr.mono (by decide)) (by rfl) (pa_cons (pv 1) (pa_cons pe_int (pa_cons (pe_op op_sub (pe_fn D6 hr (by rfl) (pa_cons (pv 0) pa_nil)) pe_int) pa_nil)))))) pss_never pss_nil), ?_⟩
    refine ⟨_, rfl, _, rfl, g, a, c, b, ps, ws, rfl, G, fun H1 s1 => ⟨_, _, rfl, rfl, .int n, 0, _, rfl, .int _, _, rfl, ?_⟩⟩
    have e : betw (.int (n : Int)) 0 (((b ^ ps.sum : Nat) : Int) - 1) = true := by
      simp only [betw, Bool.and_eq_true, decide_eq_true_eq]
      omega
    rw [e]
    exact iteF (k H1 s1)

theorem scFiguresOf : FnScope ["frame", "n", "figures", "rest", "place"] ["frame", "n"] (defScope sFiguresOf) := ⟨rfl, rfl, rfl, by decide +kernel, rfl, by decide +kernel, by decide +kernel⟩
theorem ok_figuresof {f : Addr} {fd : FuncData} (F : Fun K "figures_of" "figures_of" sFiguresOf f fd) (T : Txt mg) (D5 : Def P w K mg base 5 "need_frame" ["thing"] spNeedFrame) (D7 : Def P w K mg base 7 "need_number" ["frame", "thing"] spNeedNumber) :
    FnOk P w K mg base CX0 8 f fd ["frame", "n"] spFigures := by
  refine F.ok scFiguresOf (fun vs H Q E h => ?_) (fun cdv A outer s H vs Q E hr h => ?_)
  · obtain ⟨g, a, c, b, ps, ws, n, rfl, _⟩ := h; rfl
  · obtain ⟨g, a, c, b, ps, ws, n, rfl, G, hn, k⟩ := h
    have ok := G.ok
    have hsum := ok.sum
    have b2 := ok.b2
    have b16 := ok.b16
    refine ⟨_, pss_cons (ps_expr (pe_fn D5 (hr.mono (by decide)) (by rfl) (pa_cons (pv 0) pa_nil)))
      (pss_cons (ps_expr (pe_fn D7 hr (by rfl) (pa_cons (pv 0) (pa_cons (pv 1) pa_nil))))
      (pss_cons (ps_set (i := 2) scFiguresOf.nd rfl (Or.inl rfl) (pe_lst pa_nil))
      (pss_cons (ps_set (i := 3) scFiguresOf.nd rfl (Or.inl rfl) (pv 1))
      (pss_cons (ps_for PassesOwn.never rfl (pi_range1 (by rfl) T.range (pa_cons (lenS T.len (by rfl) (ixt (pv 0) pe_int)) pa_nil)) (pg_name (i := 4) scFiguresOf.nd rfl (Or.inl rfl))
        (pss_cons (ps_expr (pe_bm PySem.F.plainAttrs_list PySem.F.slot_list_append PySem.F.type_list_append mt_append (pv 2) (pa_cons (pe_op op_mod (pv 3) (ixt (pv 0) pe_int)) pa_nil)))
        (pss_one (ps_set (i := 3) scFiguresOf.nd rfl (Or.inl rfl) (pe_op op_fdiv (pv 3) (ixt (pv 0) pe_int))))))
      (pss_one (ps_ret (pe_lrev rfl T.list T.rev (by rfl) (by rfl) (pv 2)))))))), ?_⟩
    refine ⟨_, rfl, g, a, c, b, ps, ws, rfl, G, fun H1 s1 => ?_⟩
    have G1 := G.keep s1
    refine ⟨_, rfl, _, rfl, g, a, c, b, ps, ws, n, rfl, G1, hn, fun H2 s2 => ?_⟩
    have G2 := G1.keep s2
    refine ⟨sz (by decide), fun l hl => ?_⟩
    have s3 : Same H2 (upd H2 l (.lst [])) := same_upd hl
    have G3 := G2.keep s3
    refine ⟨_, rfl, _, rfl, _, _, _, _, rfl, rfl, SqT.of G3.tp, rfl, ⟨c, _, rfl, .inl (SqL.of G3.hw), _, rfl, (by rw [List.length_map, ok.wl]; omega), (by rw [List.length_map, ok.wl]; omega), ?_⟩⟩
    have en : ((ws.map V.int).length : Int).toNat = ps.sum := by rw [List.length_map, ok.wl]; omega
    rw [en]
    refine for_range (n := ps.sum) (fun i σ H4 => ∃ v, σ = [some (.ref g), some (.int n), some (.ref l), some (.int ((n / b ^ i : Nat) : Int)), v] ∧ Same H2 H4 ∧ H4 l = some (.lst (natV (Ma.ups b n i)))) ⟨none, (by rw [Nat.pow_zero, Nat.div_one]; rfl), s3, upd_same⟩ ?_ ?_
    · rintro i σ H4 hi ⟨v, rfl, s4, h4⟩
      have G4 := G2.keep s4
      refine ⟨_, rfl, .inl ⟨rfl, _, SqL.of h4⟩, _, rfl, _, rfl, _, _, _, _, rfl, rfl, SqT.of G4.tp, rfl, ⟨_, _, rfl, rfl, (by show (0 : Int) < b; omega), l, _, _, rfl, rfl, h4, szl (by simp [natV, Ma.ups_len]; omega), ?_⟩⟩
      have s5 : Same H2 (upd H4 l (.lst (natV (Ma.ups b n i) ++ [V.int (((n / b ^ i : Nat) : Int) % (b : Int))]))) := same_upd2 s4 hl
      refine ⟨_, rfl, _, rfl, _, _, _, _, rfl, rfl, SqT.of (G2.keep s5).tp, rfl, ⟨_, _, rfl, rfl, ⟨by show (0 : Int) < b; omega, by show (b : Int) < 1073741824; omega⟩, some (.int (0 + (i : Int))), ?_, s5, ?_⟩⟩
      · rw [← Ma.div_up]
        push_cast
        rfl
      · rw [upd_same, Ma.ups_succ]
        simp [natV]
    · rintro σ H4 ⟨v, rfl, s4, h4⟩
      refine ⟨_, rfl, l, _, rfl, SqL.of h4, fun r hr' => ?_⟩
      refine k r _ ?_ ((s1.trans s2).trans (same_upd2 s4 (s4.free hr'))) ?_
      · exact (s1.trans (s2.trans s4)).free hr'
      · rw [upd_same, ← Ma.ups_rev]
        simp [natV]
end
end Hv
namespace Hv
open PySem L2
noncomputable abbrev RowsAt (H : Hp) (qs : List Addr) (rows : List (List Int)) : Prop := Paired (fun q row => H q = some (.lst (row.map V.int))) qs rows
theorem RowsAt.keepOn {H H' : Hp} {qs : List Addr} {rows : List (List Int)} (s : ∀ b ∈ qs, ∀ row : List Int, H b = some (.lst (row.map V.int)) → H' b = some (.lst (row.map V.int))) (h : RowsAt H qs rows) : RowsAt H' qs rows := by
  induction h with
  | nil => exact .nil
  | cons h _ ih => exact .cons (s _ (by simp) _ h) (ih fun b hb => s b (List.mem_cons_of_mem _ hb))
theorem rows_get {F : Addr → List Int → Prop} : ∀ {qs : List Addr} {rows : List (List Int)} {i : Nat} {q : Addr}, Paired F qs rows → qs[i]? = some q → ∃ row, rows[i]? = some row ∧ F q row
  | _, _, _, _, .nil, e => by simp at e
  | _, _, 0, _, .cons h _, e => by simp at e; subst e; exact ⟨_, rfl, h⟩
  | _, _, i + 1, q, .cons _ t, e => by
    obtain ⟨row, h1, h2⟩ := rows_get (i := i) (q := q) t (by simpa using e)
    exact ⟨row, by simpa using h1, h2⟩
noncomputable def spCut : Sp := fun vs H Q _ => ∃ f a c b ps ws, ∃ (r : Addr) (xs : List Int), vs = [.ref f, .ref r] ∧ FrAt H f a c b ps ws ∧ H r = some (.lst (xs.map V.int)) ∧
  ∀ p qs H', Same H H' → H' p = some (.lst (qs.map V.ref)) → RowsAt H' qs (Ma.cuts ps xs) → Q (.ref p) H'
noncomputable def spSums : Sp := fun vs H Q _ => ∃ f a c b ps ws, ∃ n : Nat, vs = [.ref f, .int n] ∧ FrAt H f a c b ps ws ∧ n < b ^ ps.sum ∧
  ∀ r H', H r = none → Same H H' → H' r = some (.lst ((Ma.psums ps (Ma.wts b n ps.sum ws)).map V.int)) → Q (.ref r) H'
theorem cut_mid {xs : List V} {i k : Nat} : cutV xs (some (i : Int)) (some ((i : Int) + (k : Int))) = (xs.drop i).take k := by
  have e : (i : Int) + (k : Int) = ((i + k : Nat) : Int) := by omega
  unfold cutV
  rw [e, HT.sIx_nat, HT.sIx_nat]
  rcases Nat.le_total i xs.length with h | h
  · rw [Nat.min_eq_left h]
    rcases Nat.le_total (i + k) xs.length with h2 | h2
    · rw [Nat.min_eq_left h2, Nat.add_sub_cancel_left]
    · rw [Nat.min_eq_right h2, List.take_of_length_le (by rw [List.length_drop]; omega), List.take_of_length_le (by rw [List.length_drop]; omega)]
  · rw [Nat.min_eq_right h, List.drop_of_length_le (Nat.le_refl _), List.drop_of_length_le h]
    simp
section
variable {P : Program} {w : World} {K : PySem.W.Frag} {mg : Str → Option Value} {base : Heap}
theorem scCut : FnScope ["frame", "row", "pieces", "start", "length"] ["frame", "row"] (defScope sCut) := ⟨rfl, rfl, rfl, by decide +kernel, rfl, by decide +kernel, by decide +kernel⟩
theorem ok_cut {f : Addr} {fd : FuncData} (F : Fun K "cut_by_parts" "cut_by_parts" sCut f fd) : FnOk P w K mg base CX0 1 f fd ["frame", "row"] spCut := by
  refine F.ok scCut (fun vs H Q E h => ?_) (fun cdv A outer s H vs Q E hr h => ?_)
  · obtain ⟨g, a, c, b, ps, ws, r, xs, rfl, _⟩ := h; rfl
  · obtain ⟨g, a, c, b, ps, ws, r, xs, rfl, G, hrow, k⟩ := h
    have nd := scCut.nd
    have l4 := G.ok.l4
    refine ⟨_, pss_cons (ps_set (i := 2) nd rfl (Or.inl rfl) (pe_lst pa_nil))
      (pss_cons (ps_set (i := 3) nd rfl (Or.inl rfl) pe_int)
      (pss_cons (ps_for PassesOwn.never rfl (pi_list (ixt (pv 0) pe_int)) (pg_name (i := 4) nd rfl (Or.inl rfl))
        (pss_cons (ps_expr (pe_bm PySem.F.plainAttrs_list PySem.F.slot_list_append PySem.F.type_list_append mt_append (pv 2) (pa_cons (pe_slice sl_list (pv 1) (po_some (pv 3)) (po_some (pe_op op_add (pv 3) (pv 4)))) pa_nil)))
        (pss_one (ps_set (i := 3) nd rfl (Or.inl rfl) (pe_op op_add (pv 3) (pv 4))))))
      (pss_one (ps_ret (pv 2))))), ?_⟩
    refine ⟨sz (by decide), fun p hp => ?_⟩
    have s1 : Same H (upd H p (.lst [])) := same_upd hp
    have G1 := G.keep s1
    refine ⟨_, rfl, _, _, _, _, rfl, rfl, SqT.of G1.tp, rfl, a, rfl, ⟨_, SqL.of G1.hp⟩, for_list (K := K) (a := a) (xs := natV ps) (fun i σ H2 => ∃ (qs : List Addr) (v4 : Option V), σ = [some (.ref g), some (.ref r), some (.ref p), some (.int (((ps.take i).sum : Nat) : Int)), v4] ∧
      Same H H2 ∧ H2 p = some (.lst (qs.map V.ref)) ∧ qs.length = i ∧ RowsAt H2 qs ((Ma.cuts ps xs).take i)) ⟨[], none, rfl, s1, upd_same, rfl, .nil⟩ (fun i σ H2 _ h => by obtain ⟨_, _, _, s2, _⟩ := h; exact SqL.of (s2 _ _ G.hp)) ?_ ?_⟩
    · rintro i x σ H2 hx ⟨qs, v4, rfl, s2, hp2, hl2, rows⟩
      have hi : i < ps.length := by
        have := (List.getElem?_eq_some_iff.mp hx).1
        simpa [natV] using this
      have e : ps[i]? = some ps[i] := by simp [hi]
      have ex : x = V.int ((ps[i] : Nat) : Int) := by
        have : (natV ps)[i]? = some (V.int ((ps[i] : Nat) : Int)) := by simp [natV, hi]
        rw [this] at hx
        exact (Option.some.inj hx).symm
      subst ex
      have pr : p ≠ r := Ne.symm (ne_of_none hrow hp)
      refine ⟨_, rfl, .inl ⟨rfl, _, SqL.of hp2⟩, _, rfl, _, rfl, _, rfl, _, rfl, _, rfl, _, _, rfl, rfl, _, rfl, r, _, rfl, SqL.of (s2 _ _ hrow), fun q hq => ?_⟩
      have pq : p ≠ q := ne_of_none hp2 hq
      refine ⟨p, _, _, rfl, rfl, (by rw [upd_ne pq]; exact hp2), szl (by rw [List.length_map]; omega), ?_⟩
      refine ⟨_, rfl, _, rfl, _, _, rfl, rfl, qs ++ [q], some (.int ((ps[i] : Nat) : Int)), ?_, same_upd2 (same_upd2 s2 (s2.free hq)) hp, ?_, by simp [hl2], ?_⟩
      · rw [List.take_add_one, e, List.sum_append]
        show [some (V.ref g), some (.ref r), some (.ref p), some (.int (((ps.take i).sum : Nat) + ((ps[i] : Nat) : Int))), _] = _
        simp
      · rw [upd_same]; simp
      · rw [List.take_add_one, Ma.cuts_get ps xs i ps[i] e]
        refine Paired.snoc (RowsAt.keepOn (H := H2) (fun bb hb row z => ?_) rows) ?_
        · have bp : bb ≠ p := ne_of z hp2 (by
            intro e
            have e' : row.map V.int = qs.map V.ref := by injection e
            have m1 : V.ref bb ∈ row.map V.int := by rw [e']; exact List.mem_map.mpr ⟨bb, hb, rfl⟩
            obtain ⟨_, _, m2⟩ := List.mem_map.mp m1
            cases m2)
          rw [upd_ne bp, upd_ne (ne_of_none z hq)]
          exact z
        · rw [upd_ne pq.symm, upd_same, cut_mid, ← List.map_drop, ← List.map_take]
    · rintro σ H2 ⟨qs, v4, rfl, s2, hp2, hl2, rows⟩
      refine ⟨_, rfl, k p qs H2 s2 hp2 ?_⟩
      have e : (natV ps).length = (Ma.cuts ps xs).length := by rw [Ma.cuts_len]; simp [natV]
      rw [e, List.take_length] at rows
      exact rows
end
end Hv
namespace Hv
open PySem L2
section
variable {P : Program} {w : World} {K : PySem.W.Frag} {mg : Str → Option Value} {base : Heap}
theorem scPartSums : FnScope ["frame", "n", "figures", "weighted"] ["frame", "n"] (defScope sPartSums) := ⟨rfl, rfl, rfl, by decide +kernel, rfl, by decide +kernel, by decide +kernel⟩
theorem ok_partsums {f : Addr} {fd : FuncData} (F : Fun K "part_sums" "part_sums" sPartSums f fd) (T : Txt mg) (D8 : Def P w K mg base 8 "figures_of" ["frame", "n"] spFigures) (DC : Def P w K mg base 1 "cut_by_parts" ["frame", "row"] spCut) : FnOk P w K mg base CX0 9 f fd ["frame", "n"] spSums := by
  refine F.ok scPartSums (fun vs H Q E h => ?_) (fun cdv A outer s H vs Q E hr h => ?_)
  · obtain ⟨g, a, c, b, ps, ws, n, rfl, _⟩ := h; rfl
  · obtain ⟨g, a, c, b, ps, ws, n, rfl, G, hn, k⟩ := h
    have nd := scPartSums.nd
    have ok := G.ok
    have hsum := ok.sum
    have b2 := ok.b2
    have b16 := ok.b16
    have l4 := ok.l4
    have nd2 : List.Nodup (["figure", "weight"] : List Str) := by decide +kernel
    have hsmall := Ma.wts_small (n := n) (L := ps.sum) (by omega : 0 < b) b16 ok.wr
    refine ⟨_, pss_cons (ps_set (i := 2) nd rfl (Or.inl rfl) (pe_fn D8 hr (by rfl) (pa_cons (pv 0) (pa_cons (pv 1) pa_nil))))
      (pss_cons (ps_comp (i := 3) (N := ["figure", "weight"]) (k := 2) (fr := []) nd rfl (Or.inl rfl) (cmpS (sc := defScope sPartSums) (NX := ["frame", "n", "figures", "weighted"]) (k := 2) (fr := []) rfl rfl (by decide +kernel))
        (cmpF (sc := defScope sPartSums) (NX := ["frame", "n", "figures", "weighted"]) rfl (by decide +kernel)) rfl (pi_zip (by rfl) T.zip (pv 2) (ixt (pv 0) pe_int))
        (fun cl C s H fp => pg_tupK K rfl rfl (pgs_cons (pg_name (i := 0) nd2 rfl (Or.inl rfl)) (pgs_cons (pg_name (i := 1) nd2 rfl (Or.inl rfl)) pgs_nil))) gk_two (fun cl C s H fp => pf_nil) (fun cl C s H fp => pe_op op_mul (pv 0) (pv 1)) (by rfl))
      (pss_one (ps_ret (pe_cmp1 (defScope sPartSums) ["frame", "n", "figures", "weighted"] [] [] rfl (pi_list (pe_fn DC (hr.mono (by decide)) (by rfl) (pa_cons (pv 0) (pa_cons (pv 3) pa_nil)))) (fun cl C s H fp => pf_nil)
        (fun cl C s H fp => pe_callB (call_sumLK K rfl rfl) (by rfl) T.sum boot_sum (pa_cons (pv 0) pa_nil)) (by decide +kernel))))), ?_⟩
    refine ⟨_, rfl, _, rfl, g, a, c, b, ps, ws, n, rfl, G, hn, fun r H1 hr1 s1 h1 => ?_⟩
    have G1 := G.keep s1
    -- weighted
    refine ⟨_, rfl, _, rfl, _, _, _, _, rfl, rfl, SqT.of G1.tp, rfl, r, c, rfl, rfl, ⟨_, SqL.of h1⟩, ⟨_, SqL.of G1.hw⟩, comp_zip (K := K) (a := r) (b := c) (xs := natV (Ma.dws b n ps.sum ps.sum)) (ys := ws.map V.int)
      (fun i zs H' => zs = ((Ma.wts b n ps.sum ws).take i).map V.int ∧ Same H1 H') (by simp [natV, Ma.dws_len, ok.wl]) ⟨by simp, Same.refl _⟩ (fun i zs H' _ p => ⟨SqL.of (p.2 _ _ h1), SqL.of (p.2 _ _ G1.hw)⟩)
      (fun i zs H' hi p => szl (by rw [p.1, List.length_map, List.length_take]; simp [natV, Ma.dws_len] at hi; omega)) ?_ ?_⟩
    · rintro i x y zs H' t hx hy ⟨rfl, s2⟩ ht
      obtain ⟨d, hd, rfl⟩ : ∃ d : Nat, (Ma.dws b n ps.sum ps.sum)[i]? = some d ∧ x = .int d := by
        rw [natV, List.getElem?_map] at hx
        cases e : (Ma.dws b n ps.sum ps.sum)[i]? with
        | none => rw [e] at hx; cases hx
        | some d => rw [e] at hx; exact ⟨d, rfl, (Option.some.inj hx).symm⟩
      obtain ⟨x, hw, rfl⟩ : ∃ x : Int, ws[i]? = some x ∧ y = .int x := by
        rw [List.getElem?_map] at hy
        cases e : ws[i]? with
        | none => rw [e] at hy; cases hy
        | some d => rw [e] at hy; exact ⟨d, rfl, (Option.some.inj hy).symm⟩
      have hx9 := ok.wr x (List.mem_of_getElem? hw)
      refine ⟨t, _, rfl, SqT.of upd_same, rfl, _, _, rfl, _, _, rfl, rfl, _, rfl, _, rfl, _, _, rfl, rfl, .inr ⟨by omega, by omega⟩, ?_, same_upd2 s2 (s2.free ht)⟩
      rw [List.take_add_one, Ma.wts_get hd hw]
      simp
    rintro zs H' ⟨rfl, s2⟩ wl hwl
    have e1 : (natV (Ma.dws b n ps.sum ps.sum)).length = (Ma.wts b n ps.sum ws).length := by rw [Ma.wts_len _ _ _ _ ok.wl]; simp [natV, Ma.dws_len]
    rw [e1, List.take_length]
    have s3 : Same H1 (upd H' wl (.lst ((Ma.wts b n ps.sum ws).map V.int))) := same_upd2 s2 (s2.free hwl)
    have G3 := G1.keep s3
    -- the sums of the pieces
    refine ⟨_, rfl, _, rfl, g, a, c, b, ps, ws, wl, Ma.wts b n ps.sum ws, rfl, G3, upd_same, fun pl qs H4 s4 hpl rows => ⟨pl, rfl, ⟨_, SqL.of hpl⟩, comp_list (K := K) (a := pl) (xs := qs.map V.ref)
      (fun i ys H5 => ys = ((Ma.psums ps (Ma.wts b n ps.sum ws)).take i).map V.int ∧ H4 = H5) ⟨by simp, rfl⟩ (fun i ys H5 _ p => by rw [← p.2]; exact SqL.of hpl) ?_ ?_⟩⟩
    · rintro i x ys H5 hx ⟨rfl, rfl⟩
      obtain ⟨q, hq, rfl⟩ : ∃ q, qs[i]? = some q ∧ x = .ref q := by
        rw [List.getElem?_map] at hx
        cases e : qs[i]? with
        | none => rw [e] at hx; cases hx
        | some d => rw [e] at hx; exact ⟨d, rfl, (Option.some.inj hx).symm⟩
      obtain ⟨row, hrow, hq4⟩ := rows_get rows hq
      have hm := List.mem_of_getElem? hrow
      have hlen := Paired.length rows
      have hil := (List.getElem?_eq_some_iff.mp hq).1
      rw [Ma.cuts_len] at hlen
      refine ⟨szl (by rw [List.length_map, List.length_take]; omega), _, rfl, q, row, rfl, SqL.of hq4, ⟨?_, fun z hz => ?_⟩, ?_, rfl⟩
      · have := Ma.cuts_short (fun p hp => (ok.pr p hp).2) hm
        omega
      · have := hsmall z (Ma.cuts_mem hm z hz)
        omega
      · have e : (Ma.psums ps (Ma.wts b n ps.sum ws))[i]? = some row.sum := by unfold Ma.psums; rw [List.getElem?_map, hrow]; rfl
        rw [List.take_add_one, e]
        simp
    · rintro ys H5 ⟨rfl, rfl⟩ r2 hr2
      have hlen := Paired.length rows
      have e : (qs.map V.ref).length = (Ma.psums ps (Ma.wts b n ps.sum ws)).length := by rw [Ma.psums_len, List.length_map, hlen, Ma.cuts_len]
      rw [e, List.take_length]
      have S := (s1.trans s3).trans s4
      exact k r2 _ (S.free hr2) (same_upd2 S (S.free hr2)) upd_same
end
end Hv
namespace Hv
open PySem L2
noncomputable def spread (zs : List Int) : Int := Ma.maxL zs - Ma.minL zs
noncomputable abbrev sumsOf (b n : Nat) (ps : List Nat) (ws : List Int) : List Int := Ma.psums ps (Ma.wts b n ps.sum ws)
theorem sums_pos {b n : Nat} {ps : List Nat} {ws : List Int} (ok : FrOk b ps ws) : 0 < (sumsOf b n ps ws).length := by
  have := ok.l2
  rw [Ma.psums_len]; omega
noncomputable def spMisses : Sp := fun vs H Q _ => ∃ f a c b ps ws, ∃ n : Nat, vs = [.ref f, .int n] ∧ FrAt H f a c b ps ws ∧ n < b ^ ps.sum ∧ ∀ H', Same H H' → Q (.int (spread (sumsOf b n ps ws))) H'
noncomputable def spEven : Sp := fun vs H Q _ => ∃ f a c b ps ws, ∃ n : Nat, vs = [.ref f, .int n] ∧ FrAt H f a c b ps ws ∧ n < b ^ ps.sum ∧ ∀ H', Same H H' → Q (.bl (decide (spread (sumsOf b n ps ws) = 0))) H'
section
variable {P : Program} {w : World} {K : PySem.W.Frag} {mg : Str → Option Value} {base : Heap}
theorem scMissesBy : FnScope ["frame", "n", "totals"] ["frame", "n"] (defScope sMissesBy) := ⟨rfl, rfl, rfl, by decide +kernel, rfl, by decide +kernel, by decide +kernel⟩
theorem ok_misses {f : Addr} {fd : FuncData} (F : Fun K "misses_by" "misses_by" sMissesBy f fd) (T : Txt mg) (DP : Def P w K mg base 9 "part_sums" ["frame", "n"] spSums) : FnOk P w K mg base CX0 10 f fd ["frame", "n"] spMisses := by
  refine F.ok scMissesBy (fun vs H Q E h => ?_) (fun cdv A outer s H vs Q E hr h => ?_)
  · obtain ⟨g, a, c, b, ps, ws, n, rfl, _⟩ := h; rfl
  · obtain ⟨g, a, c, b, ps, ws, n, rfl, G, hn, k⟩ := h
    refine ⟨_, pss_cons (ps_set (i := 2) scMissesBy.nd rfl (Or.inl rfl) (pe_fn DP hr (by rfl) (pa_cons (pv 0) (pa_cons (pv 1) pa_nil))))
      (pss_one (ps_ret (pe_op op_sub (pe_callB (call_maxL rfl) (by rfl) T.max boot_max (pa_cons (pv 2) pa_nil)) (pe_callB (call_minL rfl) (by rfl) T.min boot_min (pa_cons (pv 2) pa_nil))))), ?_⟩
    refine ⟨_, rfl, _, rfl, g, a, c, b, ps, ws, n, rfl, G, hn, fun r H1 _ s1 h1 => ?_⟩
    exact ⟨_, rfl, r, _, rfl, SqL.of h1, sums_pos G.ok, _, rfl, r, _, rfl, SqL.of h1, sums_pos G.ok, _, _, rfl, rfl, k H1 s1⟩
theorem scIsEven : FnScope ["frame", "n"] ["frame", "n"] (defScope sIsEven) := ⟨rfl, rfl, rfl, by decide +kernel, rfl, by decide +kernel, by decide +kernel⟩
theorem ok_even {f : Addr} {fd : FuncData} (F : Fun K "is_even" "is_even" sIsEven f fd) (DM : Def P w K mg base 10 "misses_by" ["frame", "n"] spMisses) : FnOk P w K mg base CX0 11 f fd ["frame", "n"] spEven := by
  refine F.ok scIsEven (fun vs H Q E h => ?_) (fun cdv A outer s H vs Q E hr h => ?_)
  · obtain ⟨g, a, c, b, ps, ws, n, rfl, _⟩ := h; rfl
  · obtain ⟨g, a, c, b, ps, ws, n, rfl, G, hn, k⟩ := h
    refine ⟨_, pss_one (ps_ret (pe_cmpR op_eq (pe_fn DM hr (by rfl) (pa_cons (pv 0) (pa_cons (pv 1) pa_nil))) pe_int (nomark _))), ?_⟩
    refine ⟨_, rfl, _, rfl, g, a, c, b, ps, ws, n, rfl, G, hn, fun H1 s1 => ⟨rfl, ?_⟩⟩
    have e : decide (V.int (spread (sumsOf b n ps ws)) = V.int 0) = decide (spread (sumsOf b n ps ws) = 0) := by
      by_cases h : spread (sumsOf b n ps ws) = 0
      · rw [h]; simp
      · rw [decide_eq_false h, decide_eq_false (fun z => h (by injection z))]
    rw [e]
    exact k H1 s1
end
end Hv
namespace Hv
open PySem L2
theorem iteAny {c A B : Prop} [Decidable c] (h1 : A) (h2 : B) : if c then A else B := ite2 (fun _ => h1) fun _ => h2
theorem if_tail {c A : Prop} [Decidable c] {nx : St → Hp → Prop} {σ : St} {H : Hp} (Good : St → Hp → Prop) (h : ∀ σ H, Good σ H → nx σ H) (hA : (∀ σ H, Good σ H → nx σ H) → A) (hB : Good σ H) : if c then A else nx σ H := iteAny (hA h) (h _ _ hB)
theorem cut_to {xs : List V} {k : Nat} : cutV xs none (some (k : Int)) = xs.take k := by
  unfold cutV
  rw [HT.sIx_none, HT.sIx_nat, List.drop_zero, Nat.sub_zero]
  rcases Nat.le_total k xs.length with h | h
  · rw [Nat.min_eq_left h]
  · rw [Nat.min_eq_right h, List.take_of_length_le (Nat.le_refl _), List.take_of_length_le h]
theorem at_ints {ns : List Int} {i : Int} {Pr : Int → Prop} (h0 : 0 ≤ i) (h1 : i < ns.length) (h : ∀ n ∈ ns, Pr n) : ∃ n, atI (ns.map V.int) i = some (.int n) ∧ Pr n := by
  obtain ⟨v, e, n, rfl, hn⟩ := at_all (xs := ns.map V.int) (Pr := fun v => ∃ n, v = .int n ∧ Pr n) h0 (by rw [List.length_map]; exact h1) (fun x hx => by
    obtain ⟨n, hn, rfl⟩ := List.mem_map.mp hx
    exact ⟨n, rfl, h n hn⟩)
  exact ⟨n, e, hn⟩
theorem rep_nat {n x : Nat} : (List.replicate n [V.int (x : Int)]).flatten = natV (List.replicate n x) := by
  induction n with
  | zero => rfl
  | succ n ih => rw [List.replicate_succ, List.flatten_cons, ih, List.replicate_succ]; rfl
theorem nats_sum {ps : List Nat} (h : ∀ p ∈ ps, 1 ≤ p ∧ p ≤ 6) : ∀ n ∈ ps.map fun (p : Nat) => (p : Int), -1000000000 ≤ n ∧ n ≤ 1000000000 := fun n hn => by
  obtain ⟨p, hp, rfl⟩ := List.mem_map.mp hn
  have := h p hp
  omega
theorem b01 (k : Bool) : CMul j (if k = true then 1 else 0) := .inr (by cases k <;> decide)

noncomputable def Store (H : Hp) (s : Addr) : Prop := ∃ g c k : Int, H s = some (.lst [.int g, .int c, .int k])
theorem Store.keep {H H' : Hp} {s : Addr} (h : Store H s) (t : Same H H') : Store H' s := let ⟨g, c, k, e⟩ := h; ⟨g, c, k, t _ _ e⟩
theorem Store.off {H : Hp} {s l : Addr} (h : Store H s) (e : H l = none) : l ≠ s := fun z => by
  obtain ⟨g, c, k, q⟩ := h
  rw [z, q] at e; cases e
theorem Store.off1 {H : Hp} {s l : Addr} (h : Store H s) (e : H l = none) : l ∉ [s] := fun z => h.off e (by simpa using z)
theorem Store.upd {H : Hp} {s l : Addr} {o : HO} (h : Store H s) (n : l ≠ s) : Store (L2.upd H l o) s := let ⟨g, c, k, e⟩ := h; ⟨g, c, k, by rw [upd_ne n.symm]; exact e⟩
noncomputable def spCell (K : PySem.W.Frag) : Sp := fun vs H Q _ => ∃ (a : Addr) (ns : List Int) (k : Nat), vs = [.ref a, .int k] ∧ SqL K H a (ns.map V.int) ∧ k ≤ 1000 ∧ ∀ c : Int, Q (.int c) H
noncomputable def spStore : Sp := fun vs H Q _ => ∃ c : Int, vs = [.int c] ∧ ∀ s H', H s = none → Same H H' → Store H' s → Q (.ref s) H'
noncomputable def spTake : Sp := fun vs H Q _ => ∃ (s : Addr) (m : Int), vs = [.ref s, .int m] ∧ Store H s ∧ 0 < m ∧ m < 1073741824 ∧ ∀ (r : Int) (H' : Hp), 0 ≤ r → r < m → Store H' s → Kp [s] H H' → Q (.int r) H'
noncomputable def spFrame : Sp := fun vs H Q _ => ∃ (s : Addr) (L : Int), vs = [.ref s, .int L] ∧ Store H s ∧ 1 ≤ L ∧ L ≤ 6 ∧
  ∀ f a c b ps ws H', Store H' s → Kp [s] H H' → FrAt H' f a c b ps ws → H f = none → H a = none → H c = none → Q (.ref f) H'
section
variable {P : Program} {w : World} {K : PySem.W.Frag} {mg : Str → Option Value} {base : Heap}
theorem scCell : FnScope ["script", "k"] ["script", "k"] (defScope sCell) := ⟨rfl, rfl, rfl, by decide +kernel, rfl, by decide +kernel, by decide +kernel⟩
theorem ok_cell {f : Addr} {fd : FuncData} (F : Fun K "_law_cell" "_law_cell" sCell f fd) (T : Txt mg) : FnOk P w K mg base CX0 1 f fd ["script", "k"] (spCell K) := by
  refine F.ok scCell (fun vs H Q E h => ?_) (fun cdv A outer s H vs Q E hr h => ?_)
  · obtain ⟨a, ns, j, rfl, _⟩ := h; rfl
  · obtain ⟨a, ns, j, rfl, hS, hj, k⟩ := h
    refine ⟨_, pss_cons (ps_if (pt_cmpR op_lt (pv 1) (lenS T.len (by rfl) (pv 0)) (nomark _)) (pss_one (ps_ret (ixl (pv 0) (pv 1)))) pss_nil)
      (pss_one (ps_ret (pe_op op_add (pe_op op_add (pe_op op_mul (pe_op op_mul pe_int (pv 1)) (pv 1)) (pe_op op_mul pe_int (pv 1))) pe_int))), ?_⟩
    refine ⟨_, rfl, _, rfl, a, _, rfl, .inl hS, _, _, rfl, rfl, _, rfl, ite2 (fun h => ?_) (fun _ => ?_)⟩
    · have h' : j < ns.length := by
        have := of_decide_eq_true h
        rw [List.length_map] at this
        omega
      exact ⟨_, rfl, _, rfl, a, _, _, _, rfl, rfl, hS, atI_nat (v := V.int ns[j]) (by simp [h']), k _⟩
    · exact ⟨_, rfl, _, _, rfl, rfl, .inl ⟨by decide, by decide⟩, _, rfl, _, _, rfl, rfl, .inr ⟨by omega, by omega⟩, _, rfl, _, _, rfl, rfl, .inl ⟨by decide, by decide⟩, _, _, rfl, rfl, _, _, rfl, rfl, k _⟩
theorem scStore : FnScope ["cell", "great"] ["cell"] (defScope sStore) := ⟨rfl, rfl, rfl, by decide +kernel, rfl, by decide +kernel, by decide +kernel⟩
theorem ok_store {f : Addr} {fd : FuncData} (F : Fun K "_law_store" "_law_store" sStore f fd) : FnOk P w K mg base CX0 1 f fd ["cell"] spStore := by
  refine F.ok scStore (fun vs H Q E h => ?_) (fun cdv A outer s H vs Q E hr h => ?_)
  · obtain ⟨c, rfl, _⟩ := h; rfl
  · obtain ⟨c, rfl, k⟩ := h
    refine ⟨_, pss_cons (ps_set (i := 1) scStore.nd rfl (Or.inl rfl) pe_int)
      (pss_cons (ps_if (pt_cmpR op_ge (pv 0) (pe_op op_pow pe_int pe_int) (nomark _)) (pss_one (ps_set (i := 1) scStore.nd rfl (Or.inl rfl) (pv 0))) pss_nil)
      (pss_one (ps_ret (pe_lst (pa_cons (pv 1) (pa_cons (pe_op op_mod (pv 0) pe_int) (pa_cons pe_int pa_nil))))))), ?_⟩
    refine ⟨_, rfl, _, _, rfl, rfl, ⟨by decide, by decide, by decide⟩, _, _, rfl, rfl, _, rfl, ?_⟩
    refine if_tail (fun σ H' => H = H' ∧ ∃ g : Int, σ = [some (.int c), some (.int g)]) ?_ (fun hT => ⟨_, rfl, hT _ _ ⟨rfl, _, rfl⟩⟩) ⟨rfl, _, rfl⟩
    rintro σ H' ⟨rfl, g, rfl⟩
    exact ⟨_, rfl, _, rfl, _, _, rfl, rfl, (by show (0 : Int) < 2147483629; decide), sz (by simp), fun l hl => k l _ hl (same_upd hl) ⟨_, _, _, upd_same⟩⟩
theorem scTake : FnScope ["store", "many", "told", "one"] ["store", "many"] (defScope sTake) := ⟨rfl, rfl, rfl, by decide +kernel, rfl, by decide +kernel, by decide +kernel⟩
theorem ok_take {f : Addr} {fd : FuncData} (F : Fun K "_law_take" "_law_take" sTake f fd) : FnOk P w K mg base CX0 1 f fd ["store", "many"] spTake := by
  refine F.ok scTake (fun vs H Q E h => ?_) (fun cdv A outer s H vs Q E hr h => ?_)
  · obtain ⟨s, m, rfl, _⟩ := h; rfl
  · obtain ⟨q, m, rfl, ⟨g, c, j, hc⟩, m0, m1, k⟩ := h
    have nd := scTake.nd
    refine ⟨_, pss_cons (ps_if (pt_cmpR op_gt (ixl (pv 0) pe_int) pe_int (nomark _))
        (pss_cons (ps_set (i := 2) nd rfl (Or.inl rfl) (pe_op op_mod (ixl (pv 0) pe_int) (pv 1)))
        (pss_cons (ps_asg (pe_op op_fdiv (ixl (pv 0) pe_int) (pv 1)) (pg_sub (pv 0) pe_int set_list))
        (pss_one (ps_ret (pv 2))))) pss_nil)
      (pss_cons (ps_asg (pe_op op_add (ixl (pv 0) pe_int) pe_int) (pg_sub (pv 0) pe_int set_list))
      (pss_cons (ps_set (i := 3) nd rfl (Or.inl rfl) (pe_op op_mod (pe_op op_mul (pe_op op_add (ixl (pv 0) pe_int) (pe_op op_mul pe_int (ixl (pv 0) pe_int))) pe_int) pe_int))
      (pss_cons (ps_set (i := 3) nd rfl (Or.inl rfl) (pe_op op_mod (pe_op op_mul (pv 3) (pv 3)) pe_int))
      (pss_cons (ps_set (i := 3) nd rfl (Or.inl rfl) (pe_op op_mod (pe_op op_mul (pe_op op_add (pv 3) (pe_op op_mul pe_int (ixl (pv 0) pe_int))) pe_int) pe_int))
      (pss_one (ps_ret (pe_op op_mod (pe_op op_fdiv (pv 3) pe_int) (pv 1)))))))), ?_⟩
    have fin : ∀ (c' e' j' : Int) (r : Int), 0 ≤ r → r < m → Q (.int r) (upd H q (.lst [.int c', .int e', .int j'])) := fun c' e' j' r r0 r1 => k r _ r0 r1 ⟨c', e', j', upd_same⟩ (kp_upd Kp.refl (.inl (by simp)))
    refine ⟨_, rfl, _, _, _, _, rfl, rfl, SqL.of hc, rfl, ⟨_, _, rfl, rfl, _, rfl, iteAny ?way1 ?way2⟩⟩
    case way1 =>
      refine ⟨_, rfl, _, _, _, _, rfl, rfl, SqL.of hc, rfl, ⟨_, rfl, _, _, rfl, rfl, m0, ?_⟩⟩
      refine ⟨_, rfl, _, _, _, _, rfl, rfl, SqL.of hc, rfl, ⟨_, rfl, _, _, rfl, rfl, ⟨m0, m1⟩, _, rfl, q, _, _, _, rfl, rfl, hc, rfl, ?_⟩⟩
      exact ⟨_, rfl, fin (g / m) c j (g % m) (Int.emod_nonneg _ (by omega)) (Int.emod_lt_of_pos _ m0)⟩
    case way2 =>
      refine ⟨_, rfl, _, _, _, _, rfl, rfl, SqL.of hc, rfl, ⟨_, _, rfl, rfl, _, rfl, q, _, _, _, rfl, rfl, hc, rfl, ?_⟩⟩
      refine ⟨_, rfl, _, _, _, _, rfl, rfl, SqL.of upd_same, rfl, ⟨_, rfl, _, _, _, _, rfl, rfl, SqL.of upd_same, rfl, ⟨_, _, rfl, rfl, .inl ⟨by decide, by decide⟩, _, _, rfl, rfl, _, _, rfl, rfl, .inr ⟨by decide, by decide⟩, _, _, rfl, rfl, (by show (0 : Int) < 2147483647; decide), ?_⟩⟩⟩
      refine ⟨_, rfl, _, rfl, _, _, rfl, rfl, .inl ⟨by omega, by omega⟩, _, _, rfl, rfl, (by show (0 : Int) < 2147483629; decide), ?_⟩
      refine ⟨_, rfl, _, rfl, _, _, _, _, rfl, rfl, SqL.of upd_same, rfl, ⟨_, _, rfl, rfl, .inl ⟨by decide, by decide⟩, _, _, rfl, rfl, _, _, rfl, rfl, .inr ⟨by decide, by decide⟩, _, _, rfl, rfl, (by show (0 : Int) < 2147483587; decide), ?_⟩⟩
      refine ⟨_, rfl, _, _, rfl, rfl, ⟨by decide, by decide⟩, _, rfl, _, _, rfl, rfl, m0, ?_⟩
      exact fin g c (j + 1) _ (Int.emod_nonneg _ (by omega)) (Int.emod_lt_of_pos _ m0)
end
end Hv
namespace Hv
open PySem L2
section
variable {P : Program} {w : World} {K : PySem.W.Frag} {mg : Str → Option Value} {base : Heap}
theorem scFrame : FnScope ["store", "longest", "base", "parts", "way", "one", "weights", "k", "any_one", "some"] ["store", "longest"] (defScope sFrame) := ⟨rfl, rfl, rfl, by decide +kernel, rfl, by decide +kernel, by decide +kernel⟩
theorem ok_frame {f : Addr} {fd : FuncData} (F : Fun K "_law_frame" "_law_frame" sFrame f fd) (T : Txt mg) (D1 : Def P w K mg base 1 "_law_take" ["store", "many"] spTake) : FnOk P w K mg base CX0 2 f fd ["store", "longest"] spFrame := by
  refine F.ok scFrame (fun vs H Q E h => ?_) (fun cdv A outer s H vs Q E hr h => ?_)
  · obtain ⟨d, L, rfl, _⟩ := h; rfl
  · obtain ⟨d, L, rfl, D, L1, L6, k⟩ := h
    have nd := scFrame.nd
    refine ⟨_, pss_cons (ps_set (i := 2) nd rfl (Or.inl rfl) (ixl (pe_lst (pa_cons pe_int (pa_cons pe_int (pa_cons pe_int (pa_cons pe_int (pa_cons (pe_op op_add pe_int (pe_fn D1 hr (by rfl) (pa_cons (pv 0) (pa_cons pe_int pa_nil)))) pa_nil)))))) (pe_fn D1 hr (by rfl) (pa_cons (pv 0) (pa_cons pe_int pa_nil)))))
      (pss_cons (ps_cmp1 (defScope sFrame) ["store", "longest", "base", "parts", "way", "one", "weights", "k", "any_one", "some"] ["store", "longest"] [0, 1] (i := 3) nd rfl (Or.inl rfl) rfl
        (pi_range1 (by rfl) T.range (pa_cons (ixl (pe_lst (pa_cons pe_int (pa_cons pe_int (pa_cons pe_int (pa_cons pe_int pa_nil))))) (pe_fn D1 hr (by rfl) (pa_cons (pv 0) (pa_cons pe_int pa_nil)))) pa_nil))
        (fun cl C s H fp => pf_nil) (fun cl C s H fp => pe_op op_add pe_int (pe_fn D1 hr (by rfl) (pa_cons (pv 1) (pa_cons (pv 2) pa_nil)))) (by decide +kernel) (by rfl))
      (pss_cons (ps_if (pt_cmpR op_eq (pe_fn D1 hr (by rfl) (pa_cons (pv 0) (pa_cons pe_int pa_nil))) pe_int (nomark _)) (pss_one (ps_set (i := 3) nd rfl (Or.inl rfl) (pe_op op_rep (pe_slice sl_list (pv 3) po_none (po_some pe_int)) (lenS T.len (by rfl) (pv 3))))) pss_nil)
      (pss_cons (ps_set (i := 4) nd rfl (Or.inl rfl) (pe_fn D1 hr (by rfl) (pa_cons (pv 0) (pa_cons pe_int pa_nil))))
      (pss_cons (ps_set (i := 5) nd rfl (Or.inl rfl) (pe_op op_sub (pe_fn D1 hr (by rfl) (pa_cons (pv 0) (pa_cons pe_int pa_nil))) pe_int))
      (pss_cons (ps_set (i := 6) nd rfl (Or.inl rfl) (pe_lst pa_nil))
      (pss_cons (ps_for PassesOwn.never rfl (pi_range1 (by rfl) T.range (pa_cons (pe_callB (call_sumL rfl) (by rfl) T.sum boot_sum (pa_cons (pv 3) pa_nil)) pa_nil)) (pg_name (i := 7) nd rfl (Or.inl rfl))
        (pss_cons (ps_set (i := 8) nd rfl (Or.inl rfl) (pe_op op_sub (pe_fn D1 hr (by rfl) (pa_cons (pv 0) (pa_cons pe_int pa_nil))) pe_int))
        (pss_cons (ps_set (i := 9) nd rfl (Or.inl rfl) (pe_lst (pa_cons pe_int (pa_cons (pv 5) (pa_cons (pe_op op_mod (pv 8) pe_int) (pa_cons (pv 8)
            (pa_cons (pe_op op_mul (pv 8) (pe_callTy call_int1 (by rfl) T.int boot_int (pa_cons (pe_cmpR op_eq (pe_fn D1 hr (by rfl) (pa_cons (pv 0) (pa_cons pe_int pa_nil))) pe_int (nomark _)) pa_nil)))
            (pa_cons (pe_op op_add (pe_op op_mod (pv 7) (ixl (pv 3) pe_int)) pe_int) pa_nil))))))))
        (pss_one (ps_expr (pe_bm PySem.F.plainAttrs_list PySem.F.slot_list_append PySem.F.type_list_append mt_append (pv 6) (pa_cons (ixl (pv 9) (pv 4)) pa_nil)))))))
      (pss_one (ps_ret (pe_tup (pa_cons (pv 2) (pa_cons (pv 3) (pa_cons (pv 6) pa_nil)))))))))))), ?_⟩
    -- base
    refine ⟨_, rfl, d, 15, rfl, D, by decide, by decide, fun r1 H1 a1 b1 E1 k1 => ⟨_, _, rfl, rfl, sz (by simp), fun l1 hl1 => ?_⟩⟩
    refine ⟨_, rfl, d, 5, rfl, E1.keep (same_upd hl1), by decide, by decide, fun r2 H2 a2 b2 E2 k2 => ?_⟩
    obtain ⟨bi, eb, hb⟩ := at_ints (ns := [2, 3, 10, 16, 2 + r1]) (Pr := fun n => 2 ≤ n ∧ n ≤ 16) a2 b2 (by simp; omega)
    obtain ⟨b, rfl⟩ : ∃ b : Nat, bi = b := ⟨bi.toNat, by omega⟩
    refine r_ixl (k2 l1 _ upd_same (E1.off1 hl1)) eb ?_
    have K2 : Kp [d] H H2 := k1.trans ((Kp.of (same_upd hl1)).trans k2)
    -- parts
    refine ⟨sz (by simp), fun l3 hl3 => ⟨_, rfl, d, 4, rfl, E2.keep (same_upd hl3), by decide, by decide, fun r5 H5 a5 b5 E5 k5 => ?_⟩⟩
    obtain ⟨np, en, hnp⟩ := at_ints (ns := [2, 2, 3, 4]) (Pr := fun n => 2 ≤ n ∧ n ≤ 4) a5 b5 (by simp)
    have K5 : Kp [d] H H5 := K2.trans ((Kp.of (same_upd hl3)).trans k5)
    refine r_ixl (k5 l3 _ upd_same (E2.off1 hl3)) en ⟨_, rfl, by omega, by omega, comp_range (lo := 0) (n := np.toNat) (fun i ys H6 => ∃ ps : List Nat, ys = natV ps ∧ ps.length = i ∧ (∀ x ∈ ps, 1 ≤ x ∧ x ≤ 6) ∧ Store H6 d ∧ Kp [d] H H6)
      ⟨[], rfl, rfl, fun x hx => by simp at hx, E5, K5⟩ ?_ ?_⟩
    · rintro i ys H6 hi ⟨ps, rfl, hl, hp, E6, K6⟩
      refine ⟨szl (by simp [natV]; omega), ?_⟩
      refine ⟨_, rfl, _, rfl, d, L, rfl, E6, by omega, by omega, fun r H7 a7 b7 E7 k7 => ⟨_, _, rfl, rfl, ps ++ [(1 + r).toNat], ?_, by simp [hl], fun x hx => ?_, E7, K6.trans k7⟩⟩
      · have e : (((1 + r).toNat : Nat) : Int) = 1 + r := by omega
        simp [natV]
        omega
      · rcases List.mem_append.mp hx with hx | hx
        · exact hp x hx
        · have : x = (1 + r).toNat := by simpa using hx
          omega
    rintro ys H6 ⟨ps, rfl, hl, hp, E6, K6⟩ a ha
    have hna : a ∉ [d] := E6.off1 ha
    refine ⟨_, rfl, d, 3, rfl, E6.keep (same_upd ha), by decide, by decide, fun r6 H7 a6 b6 E7 k7 => ⟨rfl, _, rfl, ?_⟩⟩
    have K7 : Kp [d] H H7 := K6.trans ((Kp.of (same_upd ha)).trans k7)
    have h7 : H7 a = some (.lst (natV ps)) := k7 a _ upd_same hna
    refine if_tail (fun σ H' => ∃ (a' : Addr) (ps' : List Nat), σ = [some (.ref d), some (.int L), some (.int b), some (.ref a'), none, none, none, none, none, none] ∧ Store H' d ∧ Kp [d] H H' ∧ H' a' = some (.lst (natV ps')) ∧ a' ∉ [d] ∧
      H a' = none ∧ 2 ≤ ps'.length ∧ ps'.length ≤ 4 ∧ ∀ x ∈ ps', 1 ≤ x ∧ x ≤ 6) ?tail (fun hT => ?thn) ⟨a, ps, rfl, E7, K7, h7, hna, K6.free ha hna, by omega, by omega, hp⟩
    case thn =>
      refine ⟨_, rfl, _, rfl, a, _, rfl, SqL.of h7, fun l5 hl5 => ?_⟩
      have s5 : Same H7 (upd H7 l5 (.lst (cutV (natV ps) none (some 1)))) := same_upd hl5
      obtain ⟨x0, rr, ee⟩ : ∃ x0 rr, ps = x0 :: rr := by
        cases ps with
        | nil => simp at hl; omega
        | cons x0 rr => exact ⟨x0, rr, rfl⟩
      have ec : cutV (natV ps) none (some 1) = [V.int (x0 : Int)] := by
        rw [show (1 : Int) = ((1 : Nat) : Int) from rfl, cut_to, ee]
        rfl
      refine ⟨_, rfl, a, _, rfl, .inl (SqL.of (s5 _ _ h7)), l5, _, _, rfl, rfl, upd_same, by omega, ?_, ?_, fun l6 hl6 => hT _ _ ⟨l6, List.replicate ps.length x0, rfl, ?_, ?_, ?_, ?_, K7.free (s5.free hl6) ((E7.keep s5).off1 hl6), by simp; omega, by simp; omega, fun x hx => ?_⟩⟩
      · simp [natV]; omega
      · rw [ec]; exact sz (by simp [natV]; omega)
      · exact (E7.keep s5).keep (same_upd hl6)
      · exact K7.same (s5.trans (same_upd hl6))
      · rw [upd_same, ec]
        simp only [natV, List.length_map, Int.toNat_natCast]
        rw [rep_nat]
      · exact (E7.keep s5).off1 hl6
      · have := List.eq_of_mem_replicate hx
        rw [this]
        exact hp x0 (by rw [ee]; simp)
    case tail =>
      rintro σ H8 ⟨a', ps', rfl, E8, K8, h8, n8, f8, l2', l4', pr'⟩
      have hsum := Ma.sum_le6 ps' pr'
      obtain ⟨p0, pr, ep⟩ : ∃ x0 rr, ps' = x0 :: rr := by
        cases ps' with
        | nil => simp at l2'
        | cons x0 rr => exact ⟨x0, rr, rfl⟩
      have hp0 := pr' p0 (by rw [ep]; simp)
      have eat : atI (natV ps') 0 = some (.int (p0 : Int)) := by rw [ep]; exact atI_nat (j := 0) (by simp [natV])
      refine ⟨_, rfl, d, 6, rfl, E8, by decide, by decide, fun wv H9 w0 w1 E9 k9 => ⟨_, rfl, d, 19, rfl, E9, by decide, by decide, fun ov H9b o0 o1 E9b k9b => ⟨_, _, rfl, rfl, sz (by decide), fun l hl => ?_⟩⟩⟩
      have h9 : H9b a' = some (.lst (natV ps')) := k9b a' _ (k9 a' _ h8 n8) n8
      have s9 : Same H9b (upd H9b l (.lst [])) := same_upd hl
      have nl : l ∉ [d] := E9b.off1 hl
      have nld : l ≠ d := E9b.off hl
      have al : a' ≠ l := ne_of_none h9 hl
      have K9 : Kp [d] H H9b := (K8.trans k9).trans k9b
      refine ⟨_, rfl, a', ps'.map fun (p : Nat) => (p : Int), rfl, SqL.of (by rw [← natV_eq]; exact s9 _ _ h9), ⟨by rw [List.length_map]; omega, nats_sum pr'⟩, _, rfl, ?_⟩
      rw [Ma.sum_cast]
      refine ⟨by omega, by omega, ?_⟩
      have en' : (((ps'.sum : Nat) : Int)).toNat = ps'.sum := by omega
      rw [en']
      refine for_range (n := ps'.sum) (fun i σ H6 => ∃ (ws : List Int) (v7 v8 v9 : Option V), σ = [some (.ref d), some (.int L), some (.int b), some (.ref a'), some (.int wv), some (.int (ov - 9)), some (.ref l), v7, v8, v9] ∧ Store H6 d ∧ Kp [d] H H6 ∧ H6 a' = some (.lst (natV ps')) ∧
        H6 l = some (.lst (ws.map V.int)) ∧ ws.length = i ∧ ∀ x ∈ ws, -9 ≤ x ∧ x ≤ 9) ⟨[], none, none, none, rfl, E9b.keep s9, K9.same s9, s9 _ _ h9, upd_same, rfl, fun x hx => by simp at hx⟩ ?_ ?_
      · rintro i σ H10 hi ⟨ws, v7, v8, v9, rfl, E10, K10, h10, hl10, hw10, hr10⟩
        refine ⟨_, rfl, d, 19, rfl, E10, by decide, by decide, fun av G1 x1 y1 F1 j1 => ⟨_, _, rfl, rfl, ?_⟩⟩
        refine ⟨_, rfl, _, rfl, _, _, rfl, rfl, (by show (0 : Int) < 3; decide), _, rfl, _, rfl, _, rfl, d, 4, rfl, F1, by decide, by decide, fun r3 G3 x3 y3 F3 j3 => ?_⟩
        have J3 : Kp [d] H10 G3 := j1.trans j3
        have la : G3 a' = some (.lst (natV ps')) := J3 a' _ h10 n8
        have ll : G3 l = some (.lst (ws.map V.int)) := J3 l _ hl10 nl
        refine ⟨rfl, .inr ⟨_, rfl, _, _, rfl, rfl, b01 _, ?_⟩⟩
        refine ⟨_, rfl, _, rfl, _, _, _, _, rfl, rfl, SqL.of la, eat, ⟨_, _, rfl, rfl, (by show (0 : Int) < p0; omega), _, _, rfl, rfl, sz (by simp), fun m hm => ?_⟩⟩
        have nm : m ≠ d := F3.off hm
        have q1 := Int.emod_nonneg (0 + (i : Int)) (show (p0 : Int) ≠ 0 by omega)
        have q2 := Int.emod_lt_of_pos (0 + (i : Int)) (show (0 : Int) < p0 by omega)
        have q3 := Int.emod_nonneg (av - 9) (show (3 : Int) ≠ 0 by decide)
        have q4 := Int.emod_lt_of_pos (av - 9) (show (0 : Int) < 3 by decide)
        obtain ⟨x, ev, hx⟩ := at_ints (ns := [1, ov - 9, (av - 9) % 3, av - 9, (av - 9) * (if (decide (V.int r3 = V.int 0)) = true then 1 else 0), (0 + (i : Int)) % (p0 : Int) + 1]) (i := wv) (Pr := fun n => -9 ≤ n ∧ n ≤ 9) w0 w1 (by
          intro n hn
          simp only [List.mem_cons, List.not_mem_nil, or_false] at hn
          rcases hn with rfl | rfl | rfl | rfl | rfl | rfl
          · decide
          · omega
          · omega
          · omega
          · split <;> omega
          · omega)
        refine ⟨_, rfl, .inl ⟨rfl, _, SqL.of ((same_upd hm) _ _ ll)⟩, _, rfl, _, rfl, _, _, _, _, rfl, rfl, SqL.of upd_same, ev, ⟨l, _, _, rfl, rfl, (same_upd hm) _ _ ll, szl (by rw [List.length_map]; omega), ws ++ [x], _, _, _, rfl, ?_, ?_, ?_, ?_, by simp [hw10], fun y hy => ?_⟩⟩
        · exact (F3.keep (same_upd hm)).upd nld
        · exact kp_upd ((K10.trans J3).same (same_upd hm)) (.inr (K9.free hl nl))
        · rw [upd_ne al]; exact (same_upd hm) _ _ la
        · rw [upd_same]; simp
        · rcases List.mem_append.mp hy with hy | hy
          · exact hr10 y hy
          · have : y = x := by simpa using hy
            rw [this]; exact hx
      · rintro σ H6 ⟨ws, v7, v8, v9, rfl, E10, K10, h10, hl10, hw10, hr10⟩
        refine ⟨_, rfl, _, rfl, _, rfl, sz (by simp), fun f' hf' => ?_⟩
        have sf : Same H6 (upd H6 f' (.tup [.int b, .ref a', .ref l])) := same_upd hf'
        exact k f' a' l b ps' ws _ (E10.keep sf) (K10.same sf) ⟨upd_same, sf _ _ h10, sf _ _ hl10, ⟨by omega, by omega, l2', l4', pr', hw10, hr10⟩⟩ (K10.free hf' (E10.off1 hf')) f8 (K9.free hl nl)
end
end Hv
namespace Hv
open PySem L2
structure FD where
  b : Nat
  ps : List Nat
  ws : List Int
noncomputable abbrev A3 := Addr × Addr × Addr
noncomputable abbrev FrA (H : Hp) (x : A3) (d : FD) : Prop := FrAt H x.1 x.2.1 x.2.2 d.b d.ps d.ws
structure FrX (H0 H : Hp) (x : A3) (d : FD) : Prop where
  at' : FrA H x d
  n1 : H0 x.1 = none
  n2 : H0 x.2.1 = none
  n3 : H0 x.2.2 = none
theorem FrX.keep {H0 H H' : Hp} {x : A3} {d : FD} (F : FrX H0 H x d) (s : Same H H') : FrX H0 H' x d := ⟨F.at'.keep s, F.n1, F.n2, F.n3⟩
theorem FrX.kp {H0 H H' : Hp} {q : Addr} {x : A3} {d : FD} (F : FrX H0 H x d) (S : Store H0 q) (s : Kp [q] H H') : FrX H0 H' x d := ⟨F.at'.kp s (S.off1 F.n1) (S.off1 F.n2) (S.off1 F.n3), F.n1, F.n2, F.n3⟩
theorem FrX.upd {H0 H : Hp} {l : Addr} {o : HO} {x : A3} {d : FD} {as : List A3} (F : FrX H0 H x d) (h : H l = some (.lst (as.map fun a => V.ref a.1))) (ha : as ≠ []) : FrX H0 (L2.upd H l o) x d := by
  have ok := F.at'.ok
  have hs := ok.sum
  have hz : ∀ ns : List Int, 0 < ns.length → (HO.lst (ns.map V.int)) ≠ .lst (as.map fun a => V.ref a.1) := fun ns hn z => by
    cases ns with
    | nil => simp at hn
    | cons n r =>
      cases as with
      | nil => exact ha rfl
      | cons a t => simp at z
  refine ⟨⟨?_, ?_, ?_, ok⟩, F.n1, F.n2, F.n3⟩
  · rw [upd_ne (ne_of F.at'.tp h (by intro z; cases z))]; exact F.at'.tp
  · rw [upd_ne (ne_of F.at'.hp h (by rw [natV_eq]; exact hz _ (by rw [List.length_map]; have := ok.l2; omega)))]; exact F.at'.hp
  · rw [upd_ne (ne_of F.at'.hw h (hz _ (by rw [ok.wl]; omega)))]; exact F.at'.hw
theorem paired_map {α β : Type} {F G : α → β → Prop} (h : ∀ x y, F x y → G x y) : ∀ {xs : List α} {ys : List β}, Paired F xs ys → Paired G xs ys
  | _, _, .nil => .nil
  | _, _, .cons a t => .cons (h _ _ a) (paired_map h t)
theorem paired_mem {α β : Type} {F : α → β → Prop} : ∀ {xs : List α} {ys : List β} {i : Nat} {x : α}, Paired F xs ys → xs[i]? = some x → ∃ y, ys[i]? = some y ∧ F x y
  | _, _, _, _, .nil, e => by simp at e
  | _, _, 0, _, .cons h _, e => by simp at e; subst e; exact ⟨_, rfl, h⟩
  | _, _, i + 1, q, .cons _ t, e => by
    obtain ⟨row, h1, h2⟩ := paired_mem (i := i) (x := q) t (by simpa using e)
    exact ⟨row, by simpa using h1, h2⟩
structure FrsAt (H : Hp) (l : Addr) (as : List A3) (ds : List FD) : Prop where
  hl : H l = some (.lst (as.map fun a => V.ref a.1))
  each : Paired (FrA H) as ds
  l1 : 1 ≤ as.length
  l3 : as.length ≤ 3
theorem FrsAt.keep {H H' : Hp} {l : Addr} {as : List A3} {ds : List FD} (F : FrsAt H l as ds) (s : Same H H') : FrsAt H' l as ds := ⟨s _ _ F.hl, paired_map (fun _ _ h => FrAt.keep h s) F.each, F.l1, F.l3⟩
theorem FrsAt.len {H : Hp} {l : Addr} {as : List A3} {ds : List FD} (F : FrsAt H l as ds) : ds.length = as.length := (Paired.length F.each).symm
structure FrsX (H0 H : Hp) (l : Addr) (as : List A3) (ds : List FD) : Prop where
  hl : H l = some (.lst (as.map fun a => V.ref a.1))
  nl : H0 l = none
  each : Paired (FrX H0 H) as ds
  l1 : 1 ≤ as.length
  l3 : as.length ≤ 3
theorem FrsX.frs {H0 H : Hp} {l : Addr} {as : List A3} {ds : List FD} (F : FrsX H0 H l as ds) : FrsAt H l as ds := ⟨F.hl, paired_map (fun _ _ h => h.at') F.each, F.l1, F.l3⟩
theorem FrsX.keep {H0 H H' : Hp} {l : Addr} {as : List A3} {ds : List FD} (F : FrsX H0 H l as ds) (s : Same H H') : FrsX H0 H' l as ds := ⟨s _ _ F.hl, F.nl, paired_map (fun _ _ h => h.keep s) F.each, F.l1, F.l3⟩
theorem FrsX.kp {H0 H H' : Hp} {q l : Addr} {as : List A3} {ds : List FD} (F : FrsX H0 H l as ds) (S : Store H0 q) (s : Kp [q] H H') : FrsX H0 H' l as ds := ⟨s _ _ F.hl (S.off1 F.nl), F.nl, paired_map (fun _ _ h => h.kp S s) F.each, F.l1, F.l3⟩
theorem FrsX.snoc {H0 H : Hp} {l : Addr} {as : List A3} {ds : List FD} (F : FrsX H0 H l as ds) {x : A3} {d : FD} (h : FrX H0 H x d) (h3 : as.length < 3) : FrsX H0 (upd H l (.lst ((as.map fun a => V.ref a.1) ++ [.ref x.1]))) l (as ++ [x]) (ds ++ [d]) := by
  have ne : as ≠ [] := fun z => by have := F.l1; rw [z] at this; simp at this
  exact ⟨by rw [upd_same]; simp, F.nl, Paired.snoc (paired_map (fun _ _ z => z.upd F.hl ne) F.each) (h.upd F.hl ne), by simp, by simp; omega⟩
noncomputable def spFrames : Sp := fun vs H Q _ => ∃ s : Addr, vs = [.ref s] ∧ Store H s ∧ ∀ l as ds H', Store H' s → Kp [s] H H' → FrsX H H' l as ds → Q (.ref l) H'
theorem at3 {Pr : V → Prop} {x y z : V} {i : Int} (h0 : 0 ≤ i) (h1 : i < 3) (hx : Pr x) (hy : Pr y) (hz : Pr z) : ∃ v, atI [x, y, z] i = some v ∧ Pr v :=
  at_all h0 (by simpa using h1) (by simpa using ⟨hx, hy, hz⟩)
section
variable {P : Program} {w : World} {K : PySem.W.Frag} {mg : Str → Option Value} {base : Heap}
theorem scFrames : FnScope ["store", "first", "found", "k", "other"] ["store"] (defScope sFrames) := ⟨rfl, rfl, rfl, by decide +kernel, rfl, by decide +kernel, by decide +kernel⟩
theorem ok_frames {f : Addr} {fd : FuncData} (F : Fun K "_law_frames" "_law_frames" sFrames f fd) (T : Txt mg) (D1 : Def P w K mg base 1 "_law_take" ["store", "many"] spTake) (D2 : Def P w K mg base 2 "_law_frame" ["store", "longest"] spFrame) :
    FnOk P w K mg base CX0 3 f fd ["store"] spFrames := by
  refine F.ok scFrames (fun vs H Q E h => ?_) (fun cdv A outer s H vs Q E hr h => ?_)
  · obtain ⟨d, rfl, _⟩ := h; rfl
  · obtain ⟨d, rfl, D, k⟩ := h
    have nd := scFrames.nd
    refine ⟨_, pss_cons (ps_set (i := 1) nd rfl (Or.inl rfl) (pe_fn D2 hr (by rfl) (pa_cons (pv 0) (pa_cons pe_int pa_nil))))
      (pss_cons (ps_set (i := 2) nd rfl (Or.inl rfl) (pe_lst (pa_cons (pv 1) pa_nil)))
      (pss_cons (ps_for PassesOwn.never rfl (pi_range1 (by rfl) T.range (pa_cons (pe_fn D1 (hr.mono (by decide)) (by rfl) (pa_cons (pv 0) (pa_cons pe_int pa_nil))) pa_nil)) (pg_name (i := 3) nd rfl (Or.inl rfl))
        (pss_cons (ps_set (i := 4) nd rfl (Or.inl rfl) (pe_fn D2 hr (by rfl) (pa_cons (pv 0) (pa_cons pe_int pa_nil))))
        (pss_one (ps_expr (pe_bm PySem.F.plainAttrs_list PySem.F.slot_list_append PySem.F.type_list_append mt_append (pv 2) (pa_cons
          (ixl (pe_lst (pa_cons (pv 4) (pa_cons (pe_tup (pa_cons (ixt (pv 1) pe_int) (pa_cons (ixt (pv 4) pe_int) (pa_cons (ixt (pv 4) pe_int) pa_nil)))) (pa_cons (pv 1) pa_nil)))) (pe_fn D1 (hr.mono (by decide)) (by rfl) (pa_cons (pv 0) (pa_cons pe_int pa_nil)))) pa_nil))))))
      (pss_one (ps_ret (pv 2))))), ?_⟩
    refine ⟨_, rfl, d, 2, rfl, D, by decide, by decide, fun f1 a1 c1 b1 ps1 ws1 H1 E1 k1 G1 nf1 na1 nc1 => ⟨_, rfl, sz (by simp), fun l hl => ?_⟩⟩
    have nl : H l = none := k1.free hl (E1.off1 hl)
    have sl := same_upd (o := .lst [.ref f1]) hl
    refine ⟨_, rfl, d, 3, rfl, E1.keep sl, by decide, by decide, fun r H2 r0 r1 E2 k2 => ?_⟩
    have X0 : FrsX H (upd H1 l (.lst [.ref f1])) l [(f1, a1, c1)] [⟨b1, ps1, ws1⟩] := ⟨upd_same, nl, .cons ⟨G1.keep sl, nf1, na1, nc1⟩ .nil, by simp, by simp⟩
    have Y0 : FrX H (upd H1 l (.lst [.ref f1])) (f1, a1, c1) ⟨b1, ps1, ws1⟩ := ⟨G1.keep sl, nf1, na1, nc1⟩
    refine ⟨_, rfl, by omega, by omega, for_range (n := r.toNat) (fun i σ H3 => ∃ (as : List A3) (ds : List FD) (v3 v4 : Option V), σ = [some (.ref d), some (.ref f1), some (.ref l), v3, v4] ∧ Store H3 d ∧ Kp [d] H H3 ∧ FrsX H H3 l as ds ∧ as.length = 1 + i ∧
      FrX H H3 (f1, a1, c1) ⟨b1, ps1, ws1⟩) ⟨_, _, none, none, rfl, E2, (k1.same sl).trans k2, X0.kp D k2, rfl, Y0.kp D k2⟩ ?_ ?_⟩
    · rintro i σ H3 hi ⟨as, ds, v3, v4, rfl, E3, K3, X3, len3, Y3⟩
      refine ⟨_, rfl, d, 2, rfl, E3, by decide, by decide, fun f4 a4 c4 b4 ps4 ws4 H4 E4 k4 G4 nf4 na4 nc4 => ?_⟩
      have X4 := X3.kp D k4
      have Y4 := Y3.kp D k4
      have K4 := K3.trans k4
      have Z4 : FrX H H4 (f4, a4, c4) ⟨b4, ps4, ws4⟩ := ⟨G4, K3.free nf4 (E3.off1 nf4), K3.free na4 (E3.off1 na4), K3.free nc4 (E3.off1 nc4)⟩
      refine ⟨_, rfl, .inl ⟨rfl, _, SqL.of X4.hl⟩, _, rfl, _, rfl, _, _, _, _, rfl, rfl, SqT.of Y4.at'.tp, rfl, ⟨_, rfl, _, _, _, _, rfl, rfl, SqT.of G4.tp, rfl, ⟨_, rfl, _, _, _, _, rfl, rfl, SqT.of G4.tp, rfl, sz (by simp), fun t ht => ⟨_, rfl, sz (by simp), fun m hm => ?_⟩⟩⟩⟩
      have st := same_upd (o := .tup [.int b1, .ref a4, .ref c4]) ht
      have sm := same_upd (o := .lst [.ref f4, .ref t, .ref f1]) hm
      have W4 : FrX H (upd H4 t (.tup [.int b1, .ref a4, .ref c4])) (t, a4, c4) ⟨b1, ps4, ws4⟩ := ⟨⟨upd_same, st _ _ G4.hp, st _ _ G4.hw, ⟨G1.ok.b2, G1.ok.b16, G4.ok.l2, G4.ok.l4, G4.ok.pr, G4.ok.wl, G4.ok.wr⟩⟩, K4.free ht (E4.off1 ht), Z4.n2, Z4.n3⟩
      refine ⟨_, rfl, d, 3, rfl, (E4.keep st).keep sm, by decide, by decide, fun r5 H5 r50 r51 E5 k5 => ?_⟩
      have K5 := ((K4.same st).same sm).trans k5
      have X5 := ((X4.keep st).keep sm).kp D k5
      obtain ⟨v, ev, x, dd, rfl, hx⟩ := at3 (Pr := fun v => ∃ x dd, v = .ref x.1 ∧ FrX H H5 x dd) r50 r51 ⟨_, _, rfl, ((Z4.keep st).keep sm).kp D k5⟩ ⟨_, _, rfl, (W4.keep sm).kp D k5⟩ ⟨_, _, rfl, ((Y4.keep st).keep sm).kp D k5⟩
      refine r_ixl (k5 m _ upd_same (((E4.keep st)).off1 hm)) ev ?_
      refine ⟨l, _, _, rfl, rfl, X5.hl, szl (by rw [List.length_map]; omega), as ++ [x], ds ++ [dd], _, _, rfl, ?_, ?_, X5.snoc hx (by omega), by simp [len3]; omega, ?_⟩
      · exact E5.upd (D.off nl)
      · exact kp_upd K5 (.inr nl)
      · have ne : as ≠ [] := fun z => by have := X5.l1; rw [z] at this; simp at this
        exact (((Y4.keep st).keep sm).kp D k5).upd X5.hl ne
    · rintro σ H3 ⟨as, ds, v3, v4, rfl, E3, K3, X3, len3, Y3⟩
      exact ⟨_, rfl, k l as ds H3 E3 K3 X3⟩
end
end Hv
namespace Hv
open PySem L2
section
variable {P : Program} {w : World} {K : PySem.W.Frag} {mg : Str → Option Value} {base : Heap}
end
end Hv
namespace L2
open PySem PySem.Spec PyProof.Rows
theorem call_list_ofK {X : Cx} (K : PySem.W.Frag) (hK : X.K = K) : CallR X (.type "list") (fun xs H Q => ∃ p ys, xs = [.ref p] ∧ (SqL K H p ys ∨ SqT K H p ys) ∧ ∀ l, H l = none → Q (.ref l) (upd H l (.lst ys))) := by
  subst hK
  exact call_list_of
theorem gk_three {K : PySem.W.Frag} : GKeeps 3 (gTup K 3 (gCons (gName 0) (gCons (gName 1) (gCons (gName 2) gNil)))) := fun v σ H Q q => by
  obtain ⟨a, xs, e, h1, h2, v0, r0, e0, v1, r1, e1, v2, r2, e2, e3, q⟩ := q
  exact ⟨a, xs, e, h1, h2, v0, r0, e0, v1, r1, e1, v2, r2, e2, e3, ⟨by simp, fun i hi => by rw [List.getElem?_set_ne (by omega), List.getElem?_set_ne (by omega), List.getElem?_set_ne (by omega)]⟩, q⟩
end L2
namespace Hv
open PySem L2
noncomputable def evN (d : FD) (n : Nat) : Bool := decide (n < d.b ^ d.ps.sum) && decide (spread (sumsOf d.b n d.ps d.ws) = 0)
noncomputable def evV (d : FD) (v : V) : Bool := match v with
  | .int i => decide (0 ≤ i) && evN d i.toNat
  | _ => false
noncomputable abbrev keepsV (ds : List FD) (v : V) : Bool := ds.all fun d => evV d v
theorem keeps_not {ds : List FD} {v : V} {d : FD} (h : d ∈ ds) (hv : evV d v = false) : keepsV ds v = false := by
  rw [List.all_eq_false]
  exact ⟨d, h, by simp [hv]⟩
noncomputable def spEvenOf : Sp := fun vs H Q _ => ∃ f a c b ps ws v, vs = [.ref f, v] ∧ FrAt H f a c b ps ws ∧ Thing H v ∧ ∀ H', Same H H' → Q (.bl (evV ⟨b, ps, ws⟩ v)) H'
noncomputable def spKeepsEach : Sp := fun vs H Q _ => ∃ l as ds v, vs = [.ref l, v] ∧ FrsAt H l as ds ∧ Thing H v ∧ ∀ H', Same H H' → Q (.bl (keepsV ds v)) H'
noncomputable def spNeedFrames : Sp := fun vs H Q _ => ∃ l as ds, vs = [.ref l] ∧ FrsAt H l as ds ∧ ∀ H', Same H H' → Q .non H'
noncomputable def Apart (as : List A3) : Prop := as.Pairwise (fun x y => x.2.2 ≠ y.2.1 ∧ x.2.2 ≠ y.2.2) ∧ ∀ x ∈ as, x.2.1 ≠ x.2.2
noncomputable def spCopies : Sp := fun vs H Q _ => ∃ l as ds, vs = [.ref l] ∧ FrsAt H l as ds ∧ ∀ l' as' H', Same H H' → FrsX H H' l' as' ds → Apart as' → Q (.ref l') H'
section
variable {P : Program} {w : World} {K : PySem.W.Frag} {mg : Str → Option Value} {base : Heap}
theorem scNeedFrames : FnScope ["thing"] ["thing"] (defScope sNeedFrames) := ⟨rfl, rfl, rfl, by decide +kernel, rfl, by decide +kernel, by decide +kernel⟩
theorem ok_needframes {f : Addr} {fd : FuncData} (F : Fun K "need_frames" "need_frames" sNeedFrames f fd) (T : Txt mg) (D4 : Def P w K mg base 4 "is_frame" ["thing"] spIsFrame) : FnOk P w K mg base CX0 5 f fd ["thing"] spNeedFrames := by
  refine F.ok scNeedFrames (fun vs H Q E h => ?_) (fun cdv A outer s H vs Q E hr h => ?_)
  · obtain ⟨l, as, ds, rfl, _⟩ := h; rfl
  · obtain ⟨l, as, ds, rfl, G, k⟩ := h
    refine ⟨_, pss_one (ps_if (PW.pt (pw_or (pt_not (pt_val (pe_callB call_isi (by rfl) T.isi boot_isinstance (pa_cons (pv 0) (pa_cons (pe_ty T.list boot_list) pa_nil))))) (pw_or (pt_not (pt_chain op_le op_le pe_int (lenS T.len (by rfl) (pv 0)) pe_int))
      (pw_or1 (pt_not (pt_val (pe_callB (call_all rfl) (by rfl) T.all boot_all (pa_cons
        (pe_cmp1 (defScope sNeedFrames) ["thing"] [] [] rfl (pi_list (pv 0)) (fun cl C s H fp => pf_nil) (fun cl C s H fp => pe_fn D4 hr (by rfl) (pa_cons (pv 0) pa_nil)) (by decide +kernel)) pa_nil)))))))) pss_never pss_nil), ?_⟩
    have l1 := G.l1
    have l3 := G.l3
    refine ⟨_, rfl, _, _, _, _, rfl, .lst G.hl, kit_ll, true, rfl, iteF ?_⟩
    refine ⟨_, rfl, l, _, rfl, .inl (SqL.of G.hl), _, _, rfl, rfl, _, rfl, ?_⟩
    have el : (as.map fun a => V.ref a.1).length = as.length := List.length_map _
    refine ite2 (fun _ => ?_) (fun h => absurd (decide_eq_true (by rw [el]; omega)) h)
    refine ⟨_, _, rfl, rfl, _, rfl, iteNS (by rw [el]; omega) ?_⟩
    refine ⟨_, rfl, l, rfl, ⟨_, SqL.of G.hl⟩, comp_list (K := K) (a := l) (xs := as.map fun a => V.ref a.1) (fun i ys H2 => ys = ((List.replicate i true).map V.bl) ∧ Same H H2) ⟨by simp, Same.refl _⟩ (fun i ys H2 _ p => SqL.of (p.2 _ _ G.hl)) ?_ ?_⟩
    · rintro i x ys H2 hx ⟨rfl, s2⟩
      have hil : i < as.length := by have := (List.getElem?_eq_some_iff.mp hx).1; rw [el] at this; exact this
      obtain ⟨a, ha, rfl⟩ : ∃ a, as[i]? = some a ∧ x = .ref a.1 := by
        rw [List.getElem?_map] at hx
        cases e : as[i]? with
        | none => rw [e] at hx; cases hx
        | some d => rw [e] at hx; exact ⟨d, rfl, (Option.some.inj hx).symm⟩
      obtain ⟨d, hd, hf⟩ := paired_mem G.each ha
      refine ⟨szl (by simp; omega), _, rfl, a.1, a.2.1, a.2.2, d.b, d.ps, d.ws, rfl, hf.keep s2, fun H3 s3 => ⟨?_, s2.trans s3⟩⟩
      rw [List.replicate_succ', List.map_append]
      rfl
    · rintro ys H2 ⟨rfl, s2⟩ D hD
      refine ⟨D, List.replicate (as.map fun a => V.ref a.1).length true, rfl, SqL.of upd_same, ?_⟩
      have e : (List.replicate (as.map fun a => V.ref a.1).length true).all id = true := by simp
      rw [e]
      exact ⟨_, rfl, iteF (k _ (same_upd2 s2 (s2.free hD)))⟩
theorem scEvenOf : FnScope ["frame", "thing"] ["frame", "thing"] (defScope sEvenOf) := ⟨rfl, rfl, rfl, by decide +kernel, rfl, by decide +kernel, by decide +kernel⟩
theorem ok_evenof {f : Addr} {fd : FuncData} (F : Fun K "is_even_number_of" "is_even_number_of" sEvenOf f fd) (D2 : Def P w K mg base 2 "is_between" ["thing", "least", "greatest"] spBetw) (D6 : Def P w K mg base 6 "how_many" ["frame"] spHowMany)
    (DE : Def P w K mg base 11 "is_even" ["frame", "n"] spEven) : FnOk P w K mg base CX0 12 f fd ["frame", "thing"] spEvenOf := by
  refine F.ok scEvenOf (fun vs H Q E h => ?_) (fun cdv A outer s H vs Q E hr h => ?_)
  · obtain ⟨g, a, c, b, ps, ws, v, rfl, _⟩ := h; rfl
  · obtain ⟨g, a, c, b, ps, ws, v, rfl, G, ty, k⟩ := h
    refine ⟨_, pss_one (ps_ret (pe_and (pe_fn D2 (hr.mono (by decide)) (by rfl) (pa_cons (pv 1) (pa_cons pe_int (pa_cons (pe_op op_sub (pe_fn D6 (hr.mono (by decide)) (by rfl) (pa_cons (pv 0) pa_nil)) pe_int) pa_nil)))) (pe_one (pe_fn DE hr (by rfl) (pa_cons (pv 0) (pa_cons (pv 1) pa_nil)))))), ?_⟩
    refine ⟨_, rfl, _, rfl, g, a, c, b, ps, ws, rfl, G, fun H1 s1 => ⟨_, _, rfl, rfl, v, 0, _, rfl, ty.keep s1, _, rfl, ?_⟩⟩
    cases v with
    | int i =>
      by_cases h : 0 ≤ i ∧ i ≤ ((b ^ ps.sum : Nat) : Int) - 1
      · have e : betw (.int i) 0 (((b ^ ps.sum : Nat) : Int) - 1) = true := by simp only [betw, Bool.and_eq_true, decide_eq_true_eq]; exact h
        rw [e]
        obtain ⟨n, rfl⟩ : ∃ n : Nat, i = n := ⟨i.toNat, by omega⟩
        have hn : n < b ^ ps.sum := by omega
        refine iteT ⟨_, rfl, _, rfl, g, a, c, b, ps, ws, n, rfl, G.keep s1, hn, fun H2 s2 => ?_⟩
        have e2 : evV ⟨b, ps, ws⟩ (.int (n : Int)) = decide (spread (sumsOf b n ps ws) = 0) := by
          show (decide ((0 : Int) ≤ n) && (decide (n < b ^ ps.sum) && decide (spread (sumsOf b n ps ws) = 0))) = _
          rw [decide_eq_true h.1, decide_eq_true hn]
          rfl
        rw [← e2]
        exact k H2 (s1.trans s2)
      · have e : betw (.int i) 0 (((b ^ ps.sum : Nat) : Int) - 1) = false := by simp only [betw, Bool.and_eq_false_iff, decide_eq_false_iff_not]; omega
        rw [e]
        have e2 : evV ⟨b, ps, ws⟩ (.int i) = false := by
          show (decide (0 ≤ i) && (decide (i.toNat < b ^ ps.sum) && decide (spread (sumsOf b i.toNat ps ws) = 0))) = false
          by_cases h0 : 0 ≤ i
          · rw [decide_eq_false (show ¬ i.toNat < b ^ ps.sum by omega)]; simp
          · rw [decide_eq_false h0]; rfl
        refine iteF ?_
        rw [← e2]
        exact k H1 s1
    | _ => exact iteF (k H1 s1)
theorem scKeepsEach : FnScope ["frames", "thing", "frame"] ["frames", "thing"] (defScope sKeepsEach) := ⟨rfl, rfl, rfl, by decide +kernel, rfl, by decide +kernel, by decide +kernel⟩
theorem get_ref {as : List A3} {i : Nat} {x : V} (h : (as.map fun a => V.ref a.1)[i]? = some x) : ∃ a, as[i]? = some a ∧ x = .ref a.1 := by
  rw [List.getElem?_map] at h
  cases e : as[i]? with
  | none => rw [e] at h; cases h
  | some d => rw [e] at h; exact ⟨d, rfl, (Option.some.inj h).symm⟩
theorem keeps_take {ds : List FD} {v : V} {i : Nat} {d : FD} (hd : ds[i]? = some d) (h : keepsV (ds.take i) v = true) (he : evV d v = true) : keepsV (ds.take (i + 1)) v = true := by
  rw [List.take_add_one, hd]
  simp only [keepsV, List.all_append, Option.toList_some, List.all_cons, List.all_nil, Bool.and_true, Bool.and_eq_true]
  exact ⟨h, he⟩
theorem ok_keepseach {f : Addr} {fd : FuncData} (F : Fun K "keeps_each" "keeps_each" sKeepsEach f fd) (D : Def P w K mg base 12 "is_even_number_of" ["frame", "thing"] spEvenOf) : FnOk P w K mg base CX0 13 f fd ["frames", "thing"] spKeepsEach := by
  refine F.ok scKeepsEach (fun vs H Q E h => ?_) (fun cdv A outer s H vs Q E hr h => ?_)
  · obtain ⟨l, as, ds, v, rfl, _⟩ := h; rfl
  · obtain ⟨l, as, ds, v, rfl, G, ty, k⟩ := h
    refine ⟨_, pss_cons (ps_for PassesOwn.never rfl (pi_list (pv 0)) (pg_name (i := 2) scKeepsEach.nd rfl (Or.inl rfl))
        (pss_one (ps_if (pt_not (pt_val (pe_fn D hr (by rfl) (pa_cons (pv 2) (pa_cons (pv 1) pa_nil))))) (pss_one (ps_ret pe_bl)) pss_nil)))
      (pss_one (ps_ret pe_bl)), ?_⟩
    refine ⟨_, rfl, l, rfl, ⟨_, SqL.of G.hl⟩, for_list (K := K) (a := l) (xs := as.map fun a => V.ref a.1) (fun i σ H2 => ∃ v2, σ = [some (.ref l), some v, v2] ∧ Same H H2 ∧ keepsV (ds.take i) v = true) ⟨none, rfl, Same.refl _, by simp [keepsV]⟩ (fun i σ H2 _ h => by obtain ⟨_, _, s2, _⟩ := h; exact SqL.of (s2 _ _ G.hl)) ?_ ?_⟩
    · rintro i x σ H2 hx ⟨v2, rfl, s2, hk⟩
      obtain ⟨a, ha, rfl⟩ := get_ref hx
      obtain ⟨d, hd, hf⟩ := paired_mem G.each ha
      refine ⟨_, rfl, _, rfl, a.1, a.2.1, a.2.2, d.b, d.ps, d.ws, v, rfl, hf.keep s2, ty.keep s2, fun H3 s3 => ?_⟩
      cases he : evV d v with
      | true =>
        refine ⟨true, rfl, iteF ?_⟩
        exact ⟨_, rfl, s2.trans s3, keeps_take hd hk he⟩
      | false =>
        refine ⟨false, rfl, iteT ?_⟩
        have e := keeps_not (List.mem_of_getElem? hd) he
        rw [← e]
        exact k H3 (s2.trans s3)
    · rintro σ H2 ⟨v2, rfl, s2, hk⟩
      have e : (as.map fun a => V.ref a.1).length = ds.length := by rw [List.length_map, G.len]
      rw [e, List.take_length] at hk
      rw [← hk]
      exact k H2 s2
theorem scCopies : FnScope ["frames"] ["frames"] (defScope sCopies) := ⟨rfl, rfl, rfl, by decide +kernel, rfl, by decide +kernel, by decide +kernel⟩
theorem ok_copies {f : Addr} {fd : FuncData} (F : Fun K "_law_copies" "_law_copies" sCopies f fd) (T : Txt mg) : FnOk P w K mg base CX0 1 f fd ["frames"] spCopies := by
  refine F.ok scCopies (fun vs H Q E h => ?_) (fun cdv A outer s H vs Q E hr h => ?_)
  · obtain ⟨l, as, ds, rfl, _⟩ := h; rfl
  · obtain ⟨l, as, ds, rfl, G, k⟩ := h
    have nd3 : List.Nodup (["base", "parts", "weights"] : List Str) := by decide +kernel
    refine ⟨_, pss_one (ps_ret (pe_comp (N := ["base", "parts", "weights"]) (k := 3) (fr := []) (cmpS (sc := defScope sCopies) (NX := ["frames"]) (k := 3) (fr := []) rfl rfl (by decide +kernel)) (cmpF (sc := defScope sCopies) (NX := ["frames"]) rfl (by decide +kernel)) rfl (pi_list (pv 0))
        (fun cl C s H fp => pg_tupK K rfl rfl (pgs_cons (pg_name (i := 0) nd3 rfl (Or.inl rfl)) (pgs_cons (pg_name (i := 1) nd3 rfl (Or.inl rfl)) (pgs_cons (pg_name (i := 2) nd3 rfl (Or.inl rfl)) pgs_nil)))) gk_three (fun cl C s H fp => pf_nil)
        (fun cl C s H fp => pe_tup (pa_cons (pv 0) (pa_cons (pe_callTy (call_list_ofK K rfl) (by rfl) T.list boot_list (pa_cons (pv 1) pa_nil)) (pa_cons (pe_callTy (call_list_ofK K rfl) (by rfl) T.list boot_list (pa_cons (pv 2) pa_nil)) pa_nil)))))), ?_⟩
    have el : (as.map fun a => V.ref a.1).length = as.length := List.length_map _
    have l3 := G.l3
    refine ⟨_, rfl, l, rfl, ⟨_, SqL.of G.hl⟩, comp_list (K := K) (a := l) (xs := as.map fun a => V.ref a.1) (fun i ys H2 => ∃ as' : List A3, ys = (as'.map fun a => V.ref a.1) ∧ Same H H2 ∧ Paired (FrX H H2) as' (ds.take i) ∧ Apart as' ∧ as'.length = i)
      ⟨[], rfl, Same.refl _, .nil, ⟨.nil, fun x hx => by simp at hx⟩, rfl⟩ (fun i ys H2 _ p => by obtain ⟨_, _, s2, _⟩ := p; exact SqL.of (s2 _ _ G.hl)) ?_ ?_⟩
    · rintro i x ys H2 hx ⟨as', rfl, s2, X2, A2, len2⟩
      have hil : i < as.length := by have := (List.getElem?_eq_some_iff.mp hx).1; rw [el] at this; exact this
      obtain ⟨a, ha, rfl⟩ := get_ref hx
      obtain ⟨d, hd, hf⟩ := paired_mem G.each ha
      have hf2 := FrAt.keep hf s2
      refine ⟨szl (by rw [List.length_map]; omega), a.1, _, rfl, SqT.of hf2.tp, rfl, _, _, rfl, _, _, rfl, _, _, rfl, rfl, ?_⟩
      refine ⟨_, rfl, _, rfl, a.2.1, _, rfl, .inl (SqL.of hf2.hp), fun a' ha' => ?_⟩
      have s1 : Same H2 (upd H2 a' (.lst (natV d.ps))) := same_upd ha'
      refine ⟨_, rfl, a.2.2, _, rfl, .inl (SqL.of (s1 _ _ hf2.hw)), fun c' hc' => ⟨sz (by simp), fun f' hf' => ?_⟩⟩
      have s4 : Same (upd H2 a' (.lst (natV d.ps))) (upd (upd H2 a' (.lst (natV d.ps))) c' (.lst (d.ws.map V.int))) := same_upd hc'
      have s5 := same_upd (o := .tup [.int d.b, .ref a', .ref c']) hf'
      have S := s1.trans (s4.trans s5)
      refine ⟨as' ++ [(f', a', c')], by simp, s2.trans S, ?_, ⟨?_, ?_⟩, by simp [len2]⟩
      · rw [List.take_add_one, hd]
        refine Paired.snoc (paired_map (fun _ _ h => h.keep S) X2) ⟨⟨upd_same, s5 _ _ (s4 _ _ upd_same), s5 _ _ upd_same, hf.ok⟩, ?_, s2.free ha', s2.free (s1.free hc')⟩
        exact s2.free (s1.free (s4.free hf'))
      · rw [List.pairwise_append]
        refine ⟨A2.1, by simp, fun x hx y hy => ?_⟩
        have ey : y = (f', a', c') := by simpa using hy
        subst ey
        obtain ⟨j, hj⟩ := List.getElem?_of_mem hx
        obtain ⟨dd, _, hq⟩ := paired_mem X2 hj
        exact ⟨ne_of_none hq.at'.hw ha', ne_of_none hq.at'.hw (s1.free hc')⟩
      · intro x hx
        rcases List.mem_append.mp hx with hx | hx
        · exact A2.2 x hx
        · have ey : x = (f', a', c') := by simpa using hx
          subst ey
          exact ne_of_none (show (upd H2 a' (.lst (natV d.ps))) a' = some _ from upd_same) hc'
    · rintro ys H2 ⟨as', rfl, s2, X2, A2, len2⟩ D hD
      have sD := same_upd (o := .lst (as'.map fun a => V.ref a.1)) hD
      have e : ds.take (as.map fun a => V.ref a.1).length = ds := List.take_of_length_le (by rw [el, G.len]; omega)
      rw [e] at X2
      have l1 := G.l1
      exact k D as' _ (s2.trans sD) ⟨upd_same, s2.free hD, paired_map (fun _ _ h => h.keep sD) X2, by omega, by omega⟩ A2
end
end Hv
namespace Hv
open PySem L2
noncomputable def spLaw (K : PySem.W.Frag) : Sp := fun vs H Q _ => ∃ (a : Addr) (ns : List Int), vs = [.ref a] ∧ SqL K H a (ns.map V.int) ∧ ns.length ≤ 63 ∧ ∀ H', Q (.bl true) H'
noncomputable def frD (b : Nat) (ps : List Nat) (ws : List Int) : PyData := .tuple [.int b, .list ((ps.map fun (p : Nat) => (p : Int)).map PyData.int), .list (ws.map PyData.int)]
theorem frD_lay (b : Nat) (ps : List Nat) (ws : List Int) : (frD b ps ws).canLay0 = true := by
  simp only [frD, PyData.canLay0, PyData.canLayAll0, lays, Bool.and_self]
theorem frD_depth (b : Nat) (ps : List Nat) (ws : List Int) : (frD b ps ws).depth ≤ 10 := by
  simp only [frD, PyData.depth, PyData.depthAll, depths]
  decide
theorem FrAt.dat {P : Program} {w : World} {H : Hp} {f a c : Addr} {b : Nat} {ps : List Nat} {ws : List Int} (G : FrAt H f a c b ps ws) : DatV P w H (.ref f) (frD b ps ws) :=
  datT G.tp (.cons (datI _) (.cons (datL G.hp (by rw [natV_eq]; exact datIs _)) (.cons (datL G.hw (datIs _)) .nil)))
noncomputable def frsD (ds : List FD) : PyData := .list (ds.map fun d => frD d.b d.ps d.ws)
theorem frsD_lay (ds : List FD) : (frsD ds).canLay0 = true := by
  show PyData.canLayAll0 _ = true
  induction ds with
  | nil => rfl
  | cons d r ih => simp only [List.map_cons, PyData.canLayAll0, frD_lay, Bool.true_and]; exact ih
theorem frsD_depth (ds : List FD) : (frsD ds).depth ≤ 60 := by
  have h : PyData.depthAll (ds.map fun d => frD d.b d.ps d.ws) ≤ 10 := by
    induction ds with
    | nil => decide
    | cons d r ih =>
      simp only [List.map_cons, PyData.depthAll]
      have := frD_depth d.b d.ps d.ws
      omega
  show PyData.depthAll _ + 1 ≤ 60
  omega
theorem frs_dats {P : Program} {w : World} {H : Hp} : ∀ {as : List A3} {ds : List FD}, Paired (FrA H) as ds → Paired (DatV P w H) (as.map fun a => V.ref a.1) (ds.map fun d => frD d.b d.ps d.ws)
  | _, _, .nil => .nil
  | _, _, .cons h t => .cons (FrAt.dat h) (frs_dats t)
theorem FrsAt.dat {P : Program} {w : World} {H : Hp} {l : Addr} {as : List A3} {ds : List FD} (G : FrsAt H l as ds) : DatV P w H (.ref l) (frsD ds) := datL G.hl (frs_dats G.each)
theorem same_kp {H H2 H3 : Hp} {q : Addr} (s : Same H H2) (h : H q = none) (k : Kp [q] H2 H3) : Same H H3 := fun b o e => k b o (s b o e) (fun z => by
  have z' : b = q := by simpa using z
  rw [z', h] at e; cases e)
noncomputable abbrev keepsN (ds : List FD) (n : Nat) : Bool := keepsV ds (.int (n : Int))
theorem range_filter_len {f : Nat → Bool} {i : Nat} : ((List.range i).filter f).length ≤ i := by
  have := List.length_filter_le f (List.range i)
  simpa using this
theorem range_filter_succ {f : Nat → Bool} {i : Nat} : (List.range (i + 1)).filter f = (List.range i).filter f ++ (if f i = true then [i] else []) := by
  rw [List.range_succ, List.filter_append]
  congr 1
  by_cases h : f i = true
  · rw [if_pos h, List.filter_cons_of_pos h]; rfl
  · rw [if_neg h, List.filter_cons_of_neg h]; rfl
end Hv
namespace Hv
open PySem L2
noncomputable abbrev spKeepsAll : Sp := spKeepsEach
noncomputable def spAllKeeping : Sp := fun vs H Q _ => ∃ l as ds, ∃ n : Nat, vs = [.ref l, .int n] ∧ FrsAt H l as ds ∧ n ≤ 3000 ∧ ∀ r H', H r = none → Same H H' → H' r = some (.lst (natV ((List.range n).filter (keepsN ds)))) → Q (.ref r) H'
noncomputable def nextV (ds : List FD) (n : Nat) : V := match (List.range 1000).find? (fun j => keepsN ds (n + j)) with
  | some j => .int ((n + j : Nat) : Int)
  | none => .non
theorem next_some {ds : List FD} {n i : Nat} (hi : i < 1000) (h : ∀ j, j < i → keepsN ds (n + j) = false) (he : keepsN ds (n + i) = true) : nextV ds n = .int ((n + i : Nat) : Int) := by
  unfold nextV
  have e : (List.range 1000).find? (fun j => keepsN ds (n + j)) = some i := List.find?_range_eq_some.mpr ⟨he, List.mem_range.mpr hi, fun j hj => by rw [h j hj]; rfl⟩
  rw [e]
theorem next_none {ds : List FD} {n : Nat} (h : ∀ j, j < 1000 → keepsN ds (n + j) = false) : nextV ds n = .non := by
  unfold nextV
  have e : (List.range 1000).find? (fun j => keepsN ds (n + j)) = none := List.find?_range_eq_none.mpr fun j hj => by rw [h j hj]; rfl
  rw [e]
noncomputable def spNextKeeping : Sp := fun vs H Q _ => ∃ l as ds, ∃ n : Nat, vs = [.ref l, .int n] ∧ FrsAt H l as ds ∧ ∀ H', Same H H' → Q (nextV ds n) H'
noncomputable abbrev spNext : Sp := spNextKeeping
section
variable {P : Program} {w : World} {K : PySem.W.Frag} {mg : Str → Option Value} {base : Heap}
theorem scKeepsAll : FnScope ["frames", "thing"] ["frames", "thing"] (defScope sKeepsAll) := ⟨rfl, rfl, rfl, by decide +kernel, rfl, by decide +kernel, by decide +kernel⟩
theorem ok_keepsall {f : Addr} {fd : FuncData} (F : Fun K "keeps_all" "keeps_all" sKeepsAll f fd) (DN : Def P w K mg base 5 "need_frames" ["thing"] spNeedFrames) (DK : Def P w K mg base 13 "keeps_each" ["frames", "thing"] spKeepsEach) : FnOk P w K mg base CX0 14 f fd ["frames", "thing"] spKeepsAll := by
  refine F.ok scKeepsAll (fun vs H Q E h => ?_) (fun cdv A outer s H vs Q E hr h => ?_)
  · obtain ⟨l, as, ds, v, rfl, _⟩ := h; rfl
  · obtain ⟨l, as, ds, v, rfl, G, ty, k⟩ := h
    refine ⟨_, pss_cons (ps_expr (pe_fn DN (hr.mono (by decide)) (by rfl) (pa_cons (pv 0) pa_nil))) (pss_one (ps_ret (pe_fn DK hr (by rfl) (pa_cons (pv 0) (pa_cons (pv 1) pa_nil))))), ?_⟩
    exact ⟨_, rfl, l, as, ds, rfl, G, fun H1 s1 => ⟨_, rfl, _, rfl, l, as, ds, v, rfl, G.keep s1, ty.keep s1, fun H2 s2 => k H2 (s1.trans s2)⟩⟩
theorem scAllKeeping : FnScope ["frames", "n"] ["frames", "n"] (defScope sAllKeeping) := ⟨rfl, rfl, rfl, by decide +kernel, rfl, by decide +kernel, by decide +kernel⟩
theorem ok_allkeeping {f : Addr} {fd : FuncData} (F : Fun K "all_keeping" "all_keeping" sAllKeeping f fd) (T : Txt mg) (GB : ∃ t, mg "GREATEST_BOUND" = some (.int 3000 t)) (D2 : Def P w K mg base 2 "is_between" ["thing", "least", "greatest"] spBetw) (DN : Def P w K mg base 5 "need_frames" ["thing"] spNeedFrames)
    (DK : Def P w K mg base 13 "keeps_each" ["frames", "thing"] spKeepsEach) : FnOk P w K mg base CX0 14 f fd ["frames", "n"] spAllKeeping := by
  obtain ⟨tg, hgb⟩ := GB
  refine F.ok scAllKeeping (fun vs H Q E h => ?_) (fun cdv A outer s H vs Q E hr h => ?_)
  · obtain ⟨l, as, ds, n, rfl, _⟩ := h; rfl
  · obtain ⟨l, as, ds, n, rfl, G, hn, k⟩ := h
    refine ⟨_, pss_cons (ps_expr (pe_fn DN (hr.mono (by decide)) (by rfl) (pa_cons (pv 0) pa_nil)))
      (pss_cons (ps_if (pt_not (pt_val (pe_fn D2 (hr.mono (by decide)) (by rfl) (pa_cons (pv 1) (pa_cons pe_int (pa_cons (pe_glob (v := .int 3000) (by rfl) hgb ⟨tg, rfl⟩) pa_nil)))))) pss_never pss_nil)
      (pss_one (ps_ret (pe_cmp1 (defScope sAllKeeping) ["frames", "n"] ["frames"] [0] rfl (pi_range1 (by rfl) T.range (pa_cons (pv 1) pa_nil)) (fun cl C s H fp => pf_one (pt_val (pe_fn DK hr (by rfl) (pa_cons (pv 1) (pa_cons (pv 0) pa_nil)))))
        (fun cl C s H fp => pv 0) (by decide +kernel))))), ?_⟩
    refine ⟨_, rfl, l, as, ds, rfl, G, fun H1 s1 => ?_⟩
    refine ⟨_, rfl, .int n, 0, 3000, rfl, .int _, _, rfl, ?_⟩
    have e : betw (.int (n : Int)) 0 3000 = true := by simp only [betw, Bool.and_eq_true, decide_eq_true_eq]; omega
    rw [e]
    refine iteF ?_
    refine ⟨_, rfl, _, rfl, by omega, by omega, comp_range (lo := 0) (n := (n : Int).toNat) (fun i ys H2 => ys = natV ((List.range i).filter (keepsN ds)) ∧ Same H1 H2) ⟨rfl, Same.refl _⟩ ?_ ?_⟩
    · rintro i ys H2 hi ⟨rfl, s2⟩
      have hlen : ((List.range i).filter (keepsN ds)).length ≤ i := range_filter_len
      have ez : (0 : Int) + (i : Int) = (i : Int) := Int.zero_add _
      rw [ez]
      refine ⟨szl (by simp only [natV, List.length_map]; omega), _, rfl, _, rfl, l, as, ds, _, rfl, (G.keep s1).keep s2, .int _, fun H3 s3 => ?_⟩
      cases he : keepsV ds (.int (i : Int)) with
      | true =>
        refine ⟨true, rfl, ?_⟩
        refine ⟨_, rfl, ?_, s2.trans s3⟩
        rw [range_filter_succ, if_pos (show keepsN ds i = true from he)]
        simp [natV]
      | false =>
        refine ⟨false, rfl, ?_⟩
        refine ⟨?_, s2.trans s3⟩
        rw [range_filter_succ, if_neg (by rw [show keepsN ds i = false from he]; decide), List.append_nil]
    · rintro ys H2 ⟨rfl, s2⟩ D hD
      have en : (n : Int).toNat = n := by omega
      rw [en]
      exact k D _ (s1.free (s2.free hD)) (s1.trans (same_upd2 s2 (s2.free hD))) upd_same
theorem scNextKeeping : FnScope ["frames", "n", "number"] ["frames", "n"] (defScope sNextKeeping) := ⟨rfl, rfl, rfl, by decide +kernel, rfl, by decide +kernel, by decide +kernel⟩
theorem ok_nextkeeping {f : Addr} {fd : FuncData} (F : Fun K "next_keeping" "next_keeping" sNextKeeping f fd) (T : Txt mg) (GB : ∃ t, mg "LOOKED_THROUGH" = some (.int 1000 t)) (D1 : Def P w K mg base 1 "is_whole" ["thing"] spWhole) (DN : Def P w K mg base 5 "need_frames" ["thing"] spNeedFrames)
    (DK : Def P w K mg base 13 "keeps_each" ["frames", "thing"] spKeepsEach) : FnOk P w K mg base CX0 14 f fd ["frames", "n"] spNextKeeping := by
  obtain ⟨tg, hgb⟩ := GB
  refine F.ok scNextKeeping (fun vs H Q E h => ?_) (fun cdv A outer s H vs Q E hr h => ?_)
  · obtain ⟨l, as, ds, n, rfl, _⟩ := h; rfl
  · obtain ⟨l, as, ds, n, rfl, G, k⟩ := h
    have nd := scNextKeeping.nd
    refine ⟨_, pss_cons (ps_expr (pe_fn DN (hr.mono (by decide)) (by rfl) (pa_cons (pv 0) pa_nil)))
      (pss_cons (ps_if (PW.pt (pw_or (pt_not (pt_val (pe_fn D1 (hr.mono (by decide)) (by rfl) (pa_cons (pv 1) pa_nil)))) (pw_or1 (pt_cmpR op_lt (pv 1) pe_int (nomark _))))) pss_never pss_nil)
      (pss_cons (ps_for PassesOwn.never rfl (pi_rangeA (by rfl) T.range (pa_cons (pv 1) (pa_cons (pe_op op_add (pv 1) (pe_glob (v := .int 1000) (by rfl) hgb ⟨tg, rfl⟩)) pa_nil))) (pg_name (i := 2) nd rfl (Or.inl rfl))
        (pss_one (ps_if (pt_val (pe_fn DK hr (by rfl) (pa_cons (pv 0) (pa_cons (pv 2) pa_nil)))) (pss_one (ps_ret (pv 2))) pss_nil)))
      (pss_one (ps_ret pe_non)))), ?_⟩
    refine ⟨_, rfl, l, as, ds, rfl, G, fun H1 s1 => ?_⟩
    refine ⟨_, rfl, .int n, rfl, .int _, _, rfl, iteF ?_⟩
    refine ⟨_, rfl, _, _, rfl, rfl, _, rfl, ?_⟩
    rw [decide_eq_false (show ¬ ((n : Nat) : Int) < 0 by omega)]
    refine iteF ?_
    refine ⟨_, rfl, _, rfl, _, _, rfl, rfl, (n : Int), (n : Int) + 1000, rfl, for_range (lo := (n : Int)) (n := ((n : Int) + 1000 - (n : Int)).toNat) (fun i σ H2 => ∃ v, σ = [some (.ref l), some (.int (n : Int)), v] ∧ Same H1 H2 ∧ ∀ j, j < i → keepsN ds (n + j) = false) ⟨none, rfl, Same.refl _, fun j hj => absurd hj (Nat.not_lt_zero _)⟩ ?_ ?_⟩
    · rintro i σ H2 hi ⟨v, rfl, s2, hno⟩
      have e : (n : Int) + (i : Int) = ((n + i : Nat) : Int) := by omega
      rw [e]
      refine ⟨_, rfl, _, rfl, l, as, ds, _, rfl, (G.keep s1).keep s2, .int _, fun H3 s3 => ?_⟩
      cases he : keepsV ds (.int ((n + i : Nat) : Int)) with
      | true =>
        refine ⟨true, rfl, iteT ⟨_, rfl, ?_⟩⟩
        rw [← next_some (by omega) hno he]
        exact k H3 (s1.trans (s2.trans s3))
      | false =>
        refine ⟨false, rfl, iteF ⟨_, rfl, s2.trans s3, fun j hj => ?_⟩⟩
        rcases Nat.lt_succ_iff_lt_or_eq.mp hj with hj | rfl
        · exact hno j hj
        · exact he
    · rintro σ H2 ⟨v, rfl, s2, hno⟩
      rw [← next_none (n := n) (ds := ds) fun j hj => hno j (by omega)]
      exact k H2 (s1.trans s2)
end
end Hv
namespace Hv
open PySem L2
noncomputable def framesD : PyData → Bool
  | .list ds => (decide (1 ≤ ds.length) && decide (ds.length ≤ 3)) && ds.all isFrameD
  | _ => false
noncomputable def spNoFs (C : Addr) : Sp := fun vs H _ E => ∃ v d, vs = [v] ∧ Tree H v d ∧ Sh d ∧ framesD d = false ∧ ∀ H', Same H H' → E (.ref C) none H'
noncomputable def spNoFs2 (C : Addr) : Sp := fun vs H _ E => ∃ v x d, vs = [v, x] ∧ Tree H v d ∧ Sh d ∧ framesD d = false ∧ ∀ H', Same H H' → E (.ref C) none H'
noncomputable def spNoNf (C : Addr) (bad : V → Prop) : Sp := fun vs H _ E => ∃ l as ds x, vs = [.ref l, x] ∧ FrsAt H l as ds ∧ Thing H x ∧ bad x ∧ ∀ H', Same H H' → E (.ref C) none H'
noncomputable def badB (x : V) : Prop := betw x 0 3000 = false
noncomputable def badN (x : V) : Prop := isIntV x = false ∨ ∃ i : Int, x = .int i ∧ i < 0
theorem isf_ift : ∀ vs H Q E, spIsFrame vs H Q E → spIFT vs H Q E := fun vs H Q E ⟨f, a, c, b, ps, ws, e, G, k⟩ => ⟨_, _, e, G.tree, fr_sh G.ok, fun H' s' => by rw [fr_isD G.ok]; exact k H' s'⟩
theorem list_case {K : PySem.W.Frag} {H : Hp} {v : V} {d : PyData} (t : Tree H v d) : (∃ ty, TyOf K H v ty ∧ PySem.W.kitOne K ty (.type "list") = some false) ∨ ∃ a xs ds, v = .ref a ∧ d = .list ds ∧ H a = some (.lst xs) ∧ Trees H xs ds := by
  cases t with
  | non => exact .inl ⟨_, .non, kit_nl⟩
  | bl b => exact .inl ⟨_, .bl b, kit_bl'⟩
  | int i => exact .inl ⟨_, .int i, kit_il⟩
  | str x => exact .inl ⟨_, .str x, kit_sl⟩
  | lst e rs => exact .inr ⟨_, _, _, rfl, rfl, e, rs⟩
  | emp e => exact .inl ⟨_, .dK e, kit_dl⟩
  | tup e rs => exact .inl ⟨_, .tup e, kit_tl⟩
section
variable {P : Program} {w : World} {K : PySem.W.Frag} {mg : Str → Option Value} {base : Heap} {C CN : Addr} {newId initId B : String} {bmB : List Value}
theorem ok_needframes1 {f : Addr} {fd : FuncData} (F : Fun K "need_frames" "need_frames" sNeedFrames f fd) (T : Txt mg) (D4 : Def P w K mg base 4 "is_frame" ["thing"] spIFT) (O : OwnE base C newId initId B bmB) (hm : mg "NoFrames" = some (.ref C)) : FnOk P w K mg base (CX1 P w) 5 f fd ["thing"] (spNoFs C) := by
  refine F.ok1 scNeedFrames (fun vs H Q E h => ?_) (fun cdv A outer s H vs Q E hr h => ?_)
  · obtain ⟨v, d, rfl, _⟩ := h; rfl
  · obtain ⟨v, d, rfl, t, hsh, hd, k⟩ := h
    refine ⟨_, pss_one (ps_if (PW.pt (pw_or (pt_not (pt_val (pe_callB call_isi (by rfl) T.isi boot_isinstance (pa_cons (pv 0) (pa_cons (pe_ty T.list boot_list) pa_nil))))) (pw_or (pt_not (pt_chain op_le op_le pe_int (lenS T.len (by rfl) (pv 0)) pe_int))
      (pw_or1 (pt_not (pt_val (pe_callB (call_all rfl) (by rfl) T.all boot_all (pa_cons
        (pe_cmp1 (defScope sNeedFrames) ["thing"] [] [] rfl (pi_list (pv 0)) (fun cl C s H fp => pf_nil) (fun cl C s H fp => pe_fn D4 hr (by rfl) (pa_cons (pv 0) pa_nil)) (by decide +kernel)) pa_nil)))))))) (pss_one (ps_raise O (by rfl) hm pe_str)) pss_nil), ?_⟩
    rcases list_case (K := K) t with ⟨ty, ht, hk⟩ | ⟨a, xs, ds, rfl, rfl, e, rs⟩
    · exact ⟨_, rfl, _, _, _, _, rfl, ht, hk, false, rfl, iteT (k H (Same.refl _))⟩
    have hxl : xs.length ≤ 300000 := by
      rw [trees_len rs]
      have h1 : PyData.weightAll ds ≤ 300000 := by simpa only [Sh, PyData.weight] using hsh
      exact Nat.le_trans (len_weight ds) h1
    have hel := trees_len rs
    refine ⟨_, rfl, _, _, _, _, rfl, .lst e, kit_ll, true, rfl, iteF ?_⟩
    refine ⟨_, rfl, a, _, rfl, .inl (SqL.of e), _, _, rfl, rfl, _, rfl, ?_⟩
    refine iteD (fun h1 => ?_) (fun h1 => ⟨false, rfl, iteT (k H (Same.refl _))⟩)
    refine ⟨_, _, rfl, rfl, _, rfl, ?_⟩
    refine iteND (fun h3 => ?_) (fun h3 => k H (Same.refl _))
    refine ⟨_, rfl, a, rfl, ⟨_, SqL.of e⟩, comp_list (K := K) (a := a) (xs := xs) (fun i ys H2 => ys = ((ds.take i).map isFrameD).map V.bl ∧ Same H H2) ⟨by simp, Same.refl _⟩ (fun i ys H2 _ p => SqL.of (p.2 _ _ e)) ?_ ?_⟩
    · rintro i x ys H2 hx ⟨rfl, s2⟩
      have hil : i < xs.length := (List.getElem?_eq_some_iff.mp hx).1
      obtain ⟨dd, hdd, tx⟩ := trees_get rs hx
      have shd : Sh dd := Nat.le_trans (weight_mem (List.mem_of_getElem? hdd)) (by simpa only [Sh, PyData.weight] using hsh)
      refine ⟨szl (by simp; omega), _, rfl, x, dd, rfl, tx.keep s2, shd, fun H3 s3 => ⟨?_, s2.trans s3⟩⟩
      rw [List.take_add_one, hdd]
      simp
    · rintro ys H2 ⟨rfl, s2⟩ D hD
      refine ⟨D, ds.map isFrameD, rfl, SqL.of ?_, ?_⟩
      · rw [upd_same, hel, List.take_length]
      · have e2 : (ds.map isFrameD).all id = false := by
          rw [List.all_map]
          have : (decide (1 ≤ ds.length) && decide (ds.length ≤ 3)) = true := by
            rw [Bool.and_eq_true, decide_eq_true_eq, decide_eq_true_eq]
            omega
          simp only [framesD, this, Bool.true_and] at hd
          exact hd
        rw [e2]
        exact ⟨_, rfl, iteT (k _ (same_upd2 s2 (s2.free hD)))⟩
theorem ok_keepsall1 {f : Addr} {fd : FuncData} (F : Fun K "keeps_all" "keeps_all" sKeepsAll f fd) (D5 : Def1 P w K mg base 5 "need_frames" ["thing"] (spOr spNeedFrames (spNoFs C))) : FnOk P w K mg base (CX1 P w) 14 f fd ["frames", "thing"] (spNoFs2 C) := by
  refine F.ok1 scKeepsAll (fun vs H Q E h => ?_) (fun cdv A outer s H vs Q E hr h => ?_)
  · obtain ⟨v, x, d, rfl, _⟩ := h; rfl
  · obtain ⟨v, x, d, rfl, t, hs, hd, k⟩ := h
    refine ⟨_, pss_cons (ps_expr (pe_fn1 D5 (hr.mono (by decide)) (by rfl) (pa_cons (pv 0) pa_nil))) pss_never, ?_⟩
    exact ⟨_, rfl, .inr ⟨v, d, rfl, t, hs, hd, k⟩⟩
theorem ok_allkeeping1 {f : Addr} {fd : FuncData} (F : Fun K "all_keeping" "all_keeping" sAllKeeping f fd) (D5 : Def1 P w K mg base 5 "need_frames" ["thing"] (spOr spNeedFrames (spNoFs C))) : FnOk P w K mg base (CX1 P w) 14 f fd ["frames", "n"] (spNoFs2 C) := by
  refine F.ok1 scAllKeeping (fun vs H Q E h => ?_) (fun cdv A outer s H vs Q E hr h => ?_)
  · obtain ⟨v, x, d, rfl, _⟩ := h; rfl
  · obtain ⟨v, x, d, rfl, t, hs, hd, k⟩ := h
    refine ⟨_, pss_cons (ps_expr (pe_fn1 D5 (hr.mono (by decide)) (by rfl) (pa_cons (pv 0) pa_nil))) pss_never, ?_⟩
    exact ⟨_, rfl, .inr ⟨v, d, rfl, t, hs, hd, k⟩⟩
theorem ok_nextkeeping1 {f : Addr} {fd : FuncData} (F : Fun K "next_keeping" "next_keeping" sNextKeeping f fd) (D5 : Def1 P w K mg base 5 "need_frames" ["thing"] (spOr spNeedFrames (spNoFs C))) : FnOk P w K mg base (CX1 P w) 14 f fd ["frames", "n"] (spNoFs2 C) := by
  refine F.ok1 scNextKeeping (fun vs H Q E h => ?_) (fun cdv A outer s H vs Q E hr h => ?_)
  · obtain ⟨v, x, d, rfl, _⟩ := h; rfl
  · obtain ⟨v, x, d, rfl, t, hs, hd, k⟩ := h
    refine ⟨_, pss_cons (ps_expr (pe_fn1 D5 (hr.mono (by decide)) (by rfl) (pa_cons (pv 0) pa_nil))) pss_never, ?_⟩
    exact ⟨_, rfl, .inr ⟨v, d, rfl, t, hs, hd, k⟩⟩
theorem ok_allkeeping2 {f : Addr} {fd : FuncData} (F : Fun K "all_keeping" "all_keeping" sAllKeeping f fd) (GB : ∃ t, mg "GREATEST_BOUND" = some (.int 3000 t)) (D2 : Def P w K mg base 2 "is_between" ["thing", "least", "greatest"] spBetw) (DN : Def P w K mg base 5 "need_frames" ["thing"] spNeedFrames)
    (O : OwnE base CN newId initId B bmB) (hm : mg "NoNumber" = some (.ref CN)) : FnOk P w K mg base (CX1 P w) 14 f fd ["frames", "n"] (spNoNf CN badB) := by
  obtain ⟨tk, GB⟩ := GB
  refine F.ok1 scAllKeeping (fun vs H Q E h => ?_) (fun cdv A outer s H vs Q E hr h => ?_)
  · obtain ⟨l, as, ds, x, rfl, _⟩ := h; rfl
  · obtain ⟨l, as, ds, x, rfl, G, tx, hx, k⟩ := h
    refine ⟨_, pss_cons (ps_expr (pe_fn DN (hr.mono (by decide)) (by rfl) (pa_cons (pv 0) pa_nil)))
      (pss_cons (ps_if (pt_not (pt_val (pe_fn D2 (hr.mono (by decide)) (by rfl) (pa_cons (pv 1) (pa_cons pe_int (pa_cons (pe_glob (v := .int 3000) (by rfl) GB ⟨_, rfl⟩) pa_nil)))))) (pss_one (ps_raise O (by rfl) hm pe_str)) pss_nil) pss_never), ?_⟩
    refine ⟨_, rfl, l, as, ds, rfl, G, fun H1 s1 => ⟨_, rfl, x, 0, 3000, rfl, tx.keep s1, _, rfl, ?_⟩⟩
    rw [show betw x 0 3000 = false from hx]
    exact iteT (k H1 s1)
theorem ok_nextkeeping2 {f : Addr} {fd : FuncData} (F : Fun K "next_keeping" "next_keeping" sNextKeeping f fd) (D1 : Def P w K mg base 1 "is_whole" ["thing"] spWhole) (DN : Def P w K mg base 5 "need_frames" ["thing"] spNeedFrames)
    (O : OwnE base CN newId initId B bmB) (hm : mg "NoNumber" = some (.ref CN)) : FnOk P w K mg base (CX1 P w) 14 f fd ["frames", "n"] (spNoNf CN badN) := by
  refine F.ok1 scNextKeeping (fun vs H Q E h => ?_) (fun cdv A outer s H vs Q E hr h => ?_)
  · obtain ⟨l, as, ds, x, rfl, _⟩ := h; rfl
  · obtain ⟨l, as, ds, x, rfl, G, tx, hx, k⟩ := h
    refine ⟨_, pss_cons (ps_expr (pe_fn DN (hr.mono (by decide)) (by rfl) (pa_cons (pv 0) pa_nil)))
      (pss_cons (ps_if (PW.pt (pw_or (pt_not (pt_val (pe_fn D1 (hr.mono (by decide)) (by rfl) (pa_cons (pv 1) pa_nil)))) (pw_or1 (pt_cmpR op_lt (pv 1) pe_int (nomark _))))) (pss_one (ps_raise O (by rfl) hm pe_str)) pss_nil) pss_never), ?_⟩
    refine ⟨_, rfl, l, as, ds, rfl, G, fun H1 s1 => ⟨_, rfl, x, rfl, tx.keep s1, _, rfl, ?_⟩⟩
    rcases hx with hx | ⟨i, rfl, hi⟩
    · rw [hx]
      exact iteT (k H1 s1)
    · refine iteF ⟨_, rfl, _, _, rfl, rfl, _, rfl, ?_⟩
      have e : decide (i < 0) = true := decide_eq_true hi
      rw [e]
      exact iteT (k H1 s1)
end
end Hv
namespace Hv
open PySem L2
structure PP (D : List Addr) where
  holds : Hp → V → Prop
  per : ∀ H H' v, Kp D H H' → holds H v → holds H' v
noncomputable abbrev Le {D : List Addr} (P P' : PP D) : Prop := ∀ H v, P.holds H v → P'.holds H v
noncomputable def thP (D : List Addr) (n w : Nat) : PP D := ⟨fun H v => Th (Off D H) n w v, fun _ _ _ k h => h.keep (off_kp k)⟩
noncomputable def inP (D : List Addr) (lo hi : Int) : PP D := ⟨fun _ v => ∃ i, v = .int i ∧ lo ≤ i ∧ i ≤ hi, fun _ _ _ _ h => h⟩
noncomputable def rfP (D : List Addr) (a : Addr) : PP D := ⟨fun _ v => v = .ref a, fun _ _ _ _ h => h⟩
noncomputable def lsP {D : List Addr} (lo hi : Nat) (It : PP D) : PP D := ⟨fun H v => ∃ a xs, v = .ref a ∧ H a = some (.lst xs) ∧ a ∉ D ∧ lo ≤ xs.length ∧ xs.length ≤ hi ∧ ∀ x ∈ xs, It.holds H x,
  fun _ _ _ k ⟨a, xs, e, h, n, l1, l2, it⟩ => ⟨a, xs, e, k _ _ h n, n, l1, l2, fun x hx => It.per _ _ _ k (it x hx)⟩⟩
noncomputable def Cp {D : List Addr} (ps : List (Option (PP D))) (σ : St) (H : Hp) : Prop := Paired (fun (q : Option (PP D)) (o : Option V) => ∀ P, q = some P → ∃ v, o = some v ∧ P.holds H v) ps σ
theorem Cp.per {D : List Addr} {H H' : Hp} (k : Kp D H H') : ∀ {ps : List (Option (PP D))} {σ : St}, Cp ps σ H → Cp ps σ H'
  | _, _, .nil => .nil
  | _, _, .cons h t => .cons (fun P e => let ⟨v, a, b⟩ := h P e; ⟨v, a, P.per _ _ _ k b⟩) (Cp.per k t)
theorem Cp.get {D : List Addr} {H : Hp} : ∀ {ps : List (Option (PP D))} {σ : St} {i : Nat} {P : PP D}, Cp ps σ H → ps[i]? = some (some P) → ∃ v, σ[i]? = some (some v) ∧ P.holds H v
  | _, _, _, _, .nil, e => by simp at e
  | _, _, 0, P, .cons h _, e => by
    simp at e
    obtain ⟨v, a, b⟩ := h P e
    exact ⟨v, by simp [a], b⟩
  | _, _, i + 1, P, .cons _ t, e => by
    obtain ⟨v, a, b⟩ := Cp.get (i := i) (P := P) t (by simpa using e)
    exact ⟨v, by simpa using a, b⟩
theorem Cp.set {D : List Addr} {H : Hp} {P : PP D} {v : V} (hv : P.holds H v) : ∀ {ps : List (Option (PP D))} {σ : St} {i : Nat}, Cp ps σ H → Cp (ps.set i (some P)) (σ.set i (some v)) H
  | _, _, _, .nil => .nil
  | _, _, 0, .cons _ t => .cons (fun P' e => by cases e; exact ⟨v, rfl, hv⟩) t
  | _, _, i + 1, .cons h t => .cons h (Cp.set hv t)
section
variable {X : Cx} {d : Addr} {ps : List (Option (PP [d]))}
noncomputable def tT (d : Addr) (ps : List (Option (PP [d]))) (P : PP [d]) : TE := fun σ H Q => Cp ps σ H ∧ Store H d ∧ ∀ v H', Store H' d → Kp [d] H H' → P.holds H' v → Q v H'
noncomputable def tTs (d : Addr) (ps : List (Option (PP [d]))) (m : Nat) (It : PP [d]) : TA := fun σ H Q => Cp ps σ H ∧ Store H d ∧ ∀ vs H', Store H' d → Kp [d] H H' → vs.length = m → (∀ v ∈ vs, It.holds H' v) → Q vs H'
noncomputable def tPI (d : Addr) (ps : List (Option (PP [d]))) : TO := fun σ H Q => Cp ps σ H ∧ ∀ o, Q o H
noncomputable abbrev ET (X : Cx) (d : Addr) (ps : List (Option (PP [d]))) (e : Expr) (P : PP [d]) : Prop := PE X e (tT d ps P)
theorem weak {e : Expr} {t t' : TE} (h : PE X e t) (w : ∀ σ H Q, t' σ H Q → t σ H Q) : PE X e t' := fun pins s σ H Q I q => h pins s σ H Q I (w σ H Q q)
theorem weakT {e : Expr} {t : TE} {P : PP [d]} (h : PE X e t) (w : ∀ σ H Q, Cp ps σ H → Store H d → (∀ v H', Store H' d → Kp [d] H H' → P.holds H' v → Q v H') → t σ H Q) : ET X d ps e P := fun pins s σ H Q I q => h pins s σ H Q I (w σ H Q q.1 q.2.1 q.2.2)
theorem weakTs {es : List Expr} {t : TA} {m : Nat} {It : PP [d]} (h : PA X es t) (w : ∀ σ H Q, Cp ps σ H → Store H d → (∀ vs H', Store H' d → Kp [d] H H' → vs.length = m → (∀ v ∈ vs, It.holds H' v) → Q vs H') → t σ H Q) : PA X es (tTs d ps m It) := fun pos pins s σ H Q I q => h pos pins s σ H Q I (w σ H Q q.1 q.2.1 q.2.2)
theorem weakO {e : Option Expr} {t t' : TO} (h : PO X e t) (w : ∀ σ H Q, t' σ H Q → t σ H Q) : PO X e t' := fun pins s σ H Q I q => h pins s σ H Q I (w σ H Q q)
variable {e a b : Expr} {es : List Expr} {pos : Pos} {P P' : PP [d]}
theorem e_up (h : ET X d ps e P) (l : Le P P') : ET X d ps e P' := weakT h fun _ _ _ c k q => ⟨c, k, fun v H' D' k' hv => q v H' D' k' (l _ _ hv)⟩
theorem e_val {v : V} (h : PE X e (tC v)) (hv : ∀ H, P.holds H v) : ET X d ps e P := weakT h fun _ H _ c k q => q v H k Kp.refl (hv H)
theorem e_var (i : Nat) (h : PE X e (tVar i)) (hi : ps[i]? = some (some P) := by rfl) : ET X d ps e P := weakT h fun σ H Q c k q => by
  obtain ⟨v, e1, e2⟩ := c.get hi
  exact ⟨v, e1, q v H k Kp.refl e2⟩
theorem e_cat {It : PP [d]} {l1 h1 l2 h2 : Nat} (ha : ET X d ps a (lsP l1 h1 It)) (hb : ET X d ps b (lsP l2 h2 It)) (hz : h1 + h2 ≤ 100000 := by decide) : ET X d ps (.BinOp a .Add b pos) (lsP (l1 + l2) (h1 + h2) It) :=
  weakT (pe_op op_cat ha hb) fun σ H Q c k q => by
    refine ⟨c, k, fun v1 H1 D1 k1 p1 => ⟨c.per k1, D1, fun v2 H2 D2 k2 p2 => ?_⟩⟩
    obtain ⟨x, xs, rfl, hx, nx, a1, a2, itx⟩ := (lsP l1 h1 It).per _ _ _ k2 p1
    obtain ⟨y, ys, rfl, hy, ny, b1, b2, ity⟩ := p2
    refine ⟨x, y, xs, ys, rfl, rfl, hx, hy, sz (by omega), fun z hz' => q _ _ (D2.keep (same_upd hz')) ((k1.trans k2).same (same_upd hz')) ⟨z, xs ++ ys, rfl, upd_same, D2.off1 hz', by rw [List.length_append]; omega, by rw [List.length_append]; omega, fun u hu => ?_⟩⟩
    have kk : Kp [d] H2 (upd H2 z (.lst (xs ++ ys))) := Kp.of (same_upd hz')
    rcases List.mem_append.mp hu with hu | hu
    · exact It.per _ _ _ kk (itx u hu)
    · exact It.per _ _ _ kk (ity u hu)
theorem o_none : PO X none (tPI d ps) := weakO po_none fun _ _ _ ⟨_, q⟩ => q none
theorem o_var (i : Nat) {l1 h1 : Int} (h : PE X e (tVar i)) (hi : ps[i]? = some (some (inP _ l1 h1)) := by rfl) : PO X (some e) (tPI d ps) := weakO (po_some h) fun σ H Q ⟨c, q⟩ => by
  obtain ⟨v, e1, j, rfl, _⟩ := c.get hi
  exact ⟨_, e1, j, rfl, q _⟩
theorem o_add (i : Nat) {l1 h1 n : Int} (h : PE X a (tVar i)) (h' : PE X b (tC (.int n))) (hi : ps[i]? = some (some (inP _ l1 h1)) := by rfl) : PO X (some (.BinOp a .Add b pos)) (tPI d ps) := weakO (po_some (pe_op op_add h h')) fun σ H Q ⟨c, q⟩ => by
  obtain ⟨v, e1, j, rfl, _⟩ := c.get hi
  exact ⟨_, e1, j, n, rfl, rfl, _, rfl, q _⟩
theorem o_int {n : Int} (h : PE X e (tC (.int n))) : PO X (some e) (tPI d ps) := weakO (po_some h) fun σ H Q ⟨_, q⟩ => ⟨n, rfl, q _⟩
theorem cut_mem {xs : List V} {lo hi : Option Int} {x : V} (h : x ∈ cutV xs lo hi) : x ∈ xs := by
  unfold cutV at h
  exact List.mem_of_mem_drop (List.mem_of_mem_take h)
theorem e_slice {It : PP [d]} {l1 h1 : Nat} {lo hi : Option Expr} {p2 : Pos} (ha : ET X d ps a (lsP l1 h1 It)) (hlo : PO X lo (tPI d ps)) (hhi : PO X hi (tPI d ps)) : ET X d ps (.Subscript a (.Slice lo hi none p2) pos) (lsP 0 h1 It) :=
  weakT (pe_slice sl_list ha hlo hhi) fun σ H Q c k q => by
    refine ⟨c, k, fun v1 H1 D1 k1 p1 => ⟨c.per k1, fun o1 => ⟨c.per k1, fun o2 => ?_⟩⟩⟩
    obtain ⟨x, xs, rfl, hx, nx, a1, a2, itx⟩ := p1
    refine ⟨x, xs, rfl, SqL.of hx, fun z hz' => q _ _ (D1.keep (same_upd hz')) (k1.same (same_upd hz')) ⟨z, _, rfl, upd_same, D1.off1 hz', Nat.zero_le _, Nat.le_trans (cutV_length _ _ _) a2, fun u hu => ?_⟩⟩
    exact It.per _ _ _ (Kp.of (same_upd hz')) (itx u (cut_mem hu))
noncomputable def notStar : Expr → Bool
  | .Starred .. => false
  | _ => true
theorem star_cons {e : Expr} {es : List Expr} {env : Env} (h : notStar e = true) : starEach (e :: es) env = (false, eval e env) :: starEach es env := by
  cases e <;> first | rfl | (simp [notStar] at h)
theorem a_nil {It : PP [d]} : PA X [] (tTs d ps 0 It) := weakTs pa_nil fun _ H _ c k q => q [] H k Kp.refl rfl (fun _ h => by simp at h)
theorem a_cons {It : PP [d]} {m : Nat} (ha : ET X d ps e It) (hr : PA X es (tTs d ps m It)) (hs : starEach (e :: es) X.env = (false, eval e X.env) :: starEach es X.env := by exact star_cons rfl) : PA X (e :: es) (tTs d ps (m + 1) It) :=
  weakTs (pa_cons ha hr hs) fun σ H Q c k q => by
    refine ⟨c, k, fun v1 H1 D1 k1 p1 => ⟨c.per k1, D1, fun vs H2 D2 k2 hl p2 => q _ _ D2 (k1.trans k2) (by simp [hl]) fun v hv => ?_⟩⟩
    rcases List.mem_cons.mp hv with rfl | hv
    · exact It.per _ _ _ k2 p1
    · exact p2 v hv
theorem e_lst {It : PP [d]} {m : Nat} (h : PA X es (tTs d ps m It)) (hm : m ≤ 100000 := by decide) : ET X d ps (.List es pos) (lsP m m It) := weakT (pe_lst h) fun σ H Q c k q => by
  refine ⟨c, k, fun vs H1 D1 k1 hl p1 => ⟨sz (by omega), fun z hz' => q _ _ (D1.keep (same_upd hz')) (k1.same (same_upd hz')) ⟨z, vs, rfl, upd_same, D1.off1 hz', by omega, by omega, fun u hu => ?_⟩⟩⟩
  exact It.per _ _ _ (Kp.of (same_upd hz')) (p1 u hu)
theorem ls_th {l1 h1 n w n' w' : Nat} (hn : n + 1 ≤ n' := by decide) (hw : h1 * (w + 1) ≤ w' := by decide) : Le (D := [d]) (lsP l1 h1 (thP _ n w)) (thP _ n' w') := fun H v ⟨a, xs, e, h, na, _, l2, it⟩ => by
  subst e
  exact (Th.lst (off_at h na) it l2).mono hn hw
theorem in_th {lo hi : Int} {n w : Nat} (h1 : -10000000000000000000000000 ≤ lo := by decide) (h2 : hi ≤ 10000000000000000000000000 := by decide) (hn : 1 ≤ n := by decide) (hw : 100 ≤ w := by decide) : Le (D := [d]) (inP _ lo hi) (thP _ n w) := fun H v ⟨i, e, a, b⟩ => by
  subst e
  have e25 : (10 : Nat) ^ 25 = 10000000000000000000000000 := by decide
  exact (Th.int (by omega)).mono hn hw
theorem ls_ls {l1 h1 l2 h2 : Nat} {It It' : PP [d]} (h : Le It It') (a : l2 ≤ l1 := by decide) (b : h1 ≤ h2 := by decide) : Le (lsP l1 h1 It) (lsP l2 h2 It') := fun H v ⟨x, xs, e, hx, nx, c1, c2, it⟩ => ⟨x, xs, e, hx, nx, Nat.le_trans a c1, Nat.le_trans c2 b, fun u hu => h _ _ (it u hu)⟩
theorem e_ix {It : PP [d]} {l1 h1 : Nat} {j : Int} (ha : ET X d ps a (lsP l1 h1 It)) (hb : ET X d ps b (inP _ 0 j)) (hj : j < l1 := by decide) (hs : PlainIx b := by intro _ _; rfl) : ET X d ps (.Subscript a b pos) It :=
  weakT (ixl ha hb hs) fun σ H Q c k q => by
    refine ⟨c, k, fun v1 H1 D1 k1 p1 => ⟨c.per k1, D1, fun v2 H2 D2 k2 p2 => ?_⟩⟩
    obtain ⟨x, xs, rfl, hx, nx, a1, a2, itx⟩ := (lsP l1 h1 It).per _ _ _ k2 p1
    obtain ⟨i, rfl, i0, i1⟩ := p2
    obtain ⟨v, ev, hv⟩ := at_all (xs := xs) (Pr := It.holds H2) i0 (by omega) itx
    exact r_ixl hx ev (q _ _ D2 (k1.trans k2) hv)
theorem e_draw {x : Str} {q1 : Pos} {kl : Nat} {n : Int} (D1 : Def X.prog X.w X.K X.mg X.base kl x ["store", "many"] spTake) (hr : Room kl X.A) (hg : Gl X x) (ha : ET X d ps a (rfP _ d)) (hb : ET X d ps b (inP _ n n)) (h0 : 0 < n := by decide) (h1 : n < 1073741824 := by decide) (hdb : (x == ("__debug__" : Str)) = false := by decide)
    (hs : starEach [a, b] X.env = (false, eval a X.env) :: starEach [b] X.env := by rfl) (hs2 : starEach [b] X.env = (false, eval b X.env) :: starEach [] X.env := by rfl) (hpl : (backTo pos (starEach [b] X.env)).any (·.1) = false := by rfl) :
    ET X d ps (.Call (.Name x q1) [a, b] [] pos) (inP _ 0 (n - 1)) :=
  weakT (pe_fn D1 hr hg (pa_cons ha (pa_cons hb pa_nil hs2) hs) hdb hs hpl) fun σ H Q c k q => by
    refine ⟨c, k, fun v1 H1 D1 k1 p1 => ⟨c.per k1, D1, fun v2 H2 D2 k2 p2 => ?_⟩⟩
    obtain ⟨m, rfl, m0, m1⟩ := p2
    have em : m = n := by omega
    subst em
    cases (show v1 = .ref d from p1)
    exact ⟨d, m, rfl, D2, h0, h1, fun r H3 r0 r1 D3 k3 => q _ _ D3 ((k1.trans k2).trans k3) ⟨r, rfl, r0, by omega⟩⟩
end
end Hv
namespace Hv
open PySem L2
section
variable {X : Cx} {d : Addr} {ps : List (Option (PP [d]))} {e a b : Expr} {es : List Expr} {pos : Pos}
theorem rep_mem {α : Type} {xs : List α} {x : α} : ∀ {k : Nat}, x ∈ (List.replicate k xs).flatten → x ∈ xs
  | 0, h => by simp at h
  | k + 1, h => by
    rw [List.replicate_succ, List.flatten_cons] at h
    rcases List.mem_append.mp h with h | h
    · exact h
    · exact rep_mem h
theorem e_rep {It : PP [d]} {l1 h1 : Nat} {j : Int} (ha : ET X d ps a (lsP l1 h1 It)) (hb : ET X d ps b (inP _ 0 j)) (hz : h1 * j.toNat ≤ 100000 := by decide) (hj : j ≤ 1000 := by decide) : ET X d ps (.BinOp a .Mult b pos) (lsP 0 (h1 * j.toNat) It) :=
  weakT (pe_op op_rep ha hb) fun σ H Q c k q => by
    refine ⟨c, k, fun v1 H1 D1 k1 p1 => ⟨c.per k1, D1, fun v2 H2 D2 k2 p2 => ?_⟩⟩
    obtain ⟨x, xs, rfl, hx, nx, a1, a2, itx⟩ := (lsP l1 h1 It).per _ _ _ k2 p1
    obtain ⟨i, rfl, i0, i1⟩ := p2
    have hm : xs.length * i.toNat ≤ h1 * j.toNat := Nat.mul_le_mul a2 (by omega)
    refine ⟨x, i, xs, rfl, rfl, hx, by omega, by omega, sz (by omega), fun z hz' => q _ _ (D2.keep (same_upd hz')) ((k1.trans k2).same (same_upd hz')) ⟨z, _, rfl, upd_same, D2.off1 hz', Nat.zero_le _, ?_, fun u hu => ?_⟩⟩
    · rw [len_rep, Nat.mul_comm]; exact hm
    · exact It.per _ _ _ (Kp.of (same_upd hz')) (itx u (rep_mem hu))
theorem e_rep3 {It : PP [d]} {l1 h1 : Nat} {n : Nat} (ha : ET X d ps a (lsP l1 h1 It)) (hb : PE X b (tC (.int (n : Int)))) (hz : h1 * n ≤ 100000 := by decide) (hj : n ≤ 1000 := by decide) : ET X d ps (.BinOp a .Mult b pos) (lsP (l1 * n) (h1 * n) It) :=
  weakT (pe_op op_rep ha hb) fun σ H Q c k q => by
    refine ⟨c, k, fun v1 H1 D1 k1 p1 => ?_⟩
    obtain ⟨x, xs, rfl, hx, nx, a1, a2, itx⟩ := p1
    have hm : xs.length * n ≤ h1 * n := Nat.mul_le_mul_right _ a2
    have hm2 : l1 * n ≤ xs.length * n := Nat.mul_le_mul_right _ a1
    have en : ((n : Nat) : Int).toNat = n := by omega
    refine ⟨x, n, xs, rfl, rfl, hx, by omega, by omega, sz (by rw [en]; omega), fun z hz' => q _ _ (D1.keep (same_upd hz')) (k1.same (same_upd hz')) ⟨z, _, rfl, upd_same, D1.off1 hz', ?_, ?_, fun u hu => ?_⟩⟩
    · rw [len_rep, en, Nat.mul_comm n]; exact hm2
    · rw [len_rep, en, Nat.mul_comm n]; exact hm
    · exact It.per _ _ _ (Kp.of (same_upd hz')) (itx u (rep_mem hu))
theorem e_int {i : Int} {j : _} : ET X d ps (.Constant (.int i) j pos) (inP _ i i) := e_val pe_int fun _ => ⟨i, rfl, Int.le_refl _, Int.le_refl _⟩
theorem e_neg {i : Int} {j : _} {q1 : Pos} : ET X d ps (.UnaryOp .USub (.Constant (.int i) j q1) pos) (inP _ (-i) (-i)) := weakT (pe_un un_neg pe_int) fun σ H Q c k q => ⟨i, rfl, q _ H k Kp.refl ⟨-i, rfl, Int.le_refl _, Int.le_refl _⟩⟩
end
end Hv
namespace Hv
open PySem L2
section
variable {X : Cx} {d : Addr} {ps : List (Option (PP [d]))} {e a b : Expr} {es : List Expr} {pos : Pos}
theorem Th.int0 {H : Hp} {i : Int} (h : i.natAbs ≤ 10 ^ 25) : Th H 0 90 (.int i) := by
  obtain ⟨dd, t, g⟩ := Th.int (H := H) h
  cases t
  refine ⟨_, .int i, g.sh, g.lv, by show (0 : Nat) ≤ 0; decide, ?_⟩
  have hl : i.natAbs.log2 < 84 := by
    by_cases h0 : i.natAbs = 0
    · rw [h0]; decide
    · exact (Nat.log2_lt h0).mpr (Nat.lt_of_le_of_lt h (by decide))
  simp only [PyData.weight]
  split <;> omega
theorem in_th0 {lo hi : Int} (h1 : -10000000000000000000000000 ≤ lo := by decide) (h2 : hi ≤ 10000000000000000000000000 := by decide) : Le (D := [d]) (inP _ lo hi) (thP _ 0 90) := fun H v ⟨i, e, a, b⟩ => by
  subst e
  have e25 : (10 : Nat) ^ 25 = 10000000000000000000000000 := by decide
  exact Th.int0 (by omega)
theorem e_add {l1 h1 l2 h2 : Int} (ha : ET X d ps a (inP _ l1 h1)) (hb : ET X d ps b (inP _ l2 h2)) : ET X d ps (.BinOp a .Add b pos) (inP _ (l1 + l2) (h1 + h2)) := weakT (pe_op op_add ha hb) fun σ H Q c k q => by
  refine ⟨c, k, fun v1 H1 D1 k1 p1 => ⟨c.per k1, D1, fun v2 H2 D2 k2 p2 => ?_⟩⟩
  obtain ⟨i, rfl, x1, x2⟩ := p1
  obtain ⟨j, rfl, y1, y2⟩ := p2
  exact ⟨i, j, rfl, rfl, q _ _ D2 (k1.trans k2) ⟨_, rfl, by omega, by omega⟩⟩
theorem e_sub {l1 h1 l2 h2 : Int} (ha : ET X d ps a (inP _ l1 h1)) (hb : ET X d ps b (inP _ l2 h2)) : ET X d ps (.BinOp a .Sub b pos) (inP _ (l1 - h2) (h1 - l2)) := weakT (pe_op op_sub ha hb) fun σ H Q c k q => by
  refine ⟨c, k, fun v1 H1 D1 k1 p1 => ⟨c.per k1, D1, fun v2 H2 D2 k2 p2 => ?_⟩⟩
  obtain ⟨i, rfl, x1, x2⟩ := p1
  obtain ⟨j, rfl, y1, y2⟩ := p2
  exact ⟨i, j, rfl, rfl, q _ _ D2 (k1.trans k2) ⟨_, rfl, by omega, by omega⟩⟩
theorem e_pow25 {j1 j2 : _} {q1 q2 : Pos} : ET X d ps (.BinOp (.Constant (.int 10) j1 q1) .Pow (.Constant (.int 25) j2 q2) pos) (inP _ 10000000000000000000000000 10000000000000000000000000) := weakT (pe_op op_pow pe_int pe_int) fun σ H Q c k q =>
  ⟨10, 25, rfl, rfl, ⟨by decide, by decide, by decide⟩, q _ H k Kp.refl ⟨_, rfl, by decide, by decide⟩⟩
theorem ints_of {xs : List V} {lo hi : Int} (h : ∀ x ∈ xs, ∃ i, x = V.int i ∧ lo ≤ i ∧ i ≤ hi) : ∃ ns : List Int, xs = ns.map V.int ∧ ∀ n ∈ ns, lo ≤ n ∧ n ≤ hi := by
  induction xs with
  | nil => exact ⟨[], rfl, fun n hn => by simp at hn⟩
  | cons x r ih =>
    obtain ⟨i, rfl, h1⟩ := h x (by simp)
    obtain ⟨ns, rfl, h2⟩ := ih fun y hy => h y (List.mem_cons_of_mem _ hy)
    refine ⟨i :: ns, rfl, fun n hn => ?_⟩
    rcases List.mem_cons.mp hn with rfl | hn
    · exact h1
    · exact h2 n hn
theorem sum_le {B : Int} : ∀ {ns : List Int}, (∀ n ∈ ns, n ≤ B) → ns.sum ≤ ns.length * B
  | [], _ => by simp
  | n :: r, h => by
    have h1 := h n List.mem_cons_self
    have h2 := sum_le (ns := r) fun m hm => h m (List.mem_cons_of_mem _ hm)
    rw [List.sum_cons, List.length_cons]
    push_cast
    rw [Int.add_mul, Int.one_mul]
    omega
theorem e_maxsum {l1 h1 : Nat} {lo hi : Int} {q1 q2 q3 q4 : Pos} {j : _} (hc : X.calm = true) (hg : Gl X "sum") (hm : X.mg "sum" = none) (hg2 : Gl X "max") (hm2 : X.mg "max" = none) (ha : ET X d ps a (lsP l1 h1 (inP _ lo hi))) (hlo : -1000 ≤ lo := by decide) (hhi : 0 ≤ hi ∧ hi ≤ 1000 := by decide) (hh : h1 ≤ 100 := by decide)
    (hs : starEach [a] X.env = (false, eval a X.env) :: starEach [] X.env := by rfl)
    (hs2 : starEach [.Constant (.int 0) j q1, .Call (.Name "sum" q2) [a] [] q3] X.env = (false, eval (.Constant (.int 0) j q1) X.env) :: starEach [.Call (.Name "sum" q2) [a] [] q3] X.env := by rfl)
    (hs3 : starEach [.Call (.Name "sum" q2) [a] [] q3] X.env = (false, eval (.Call (.Name "sum" q2) [a] [] q3) X.env) :: starEach [] X.env := by rfl)
    (hp1 : (backTo q3 (starEach [] X.env)).any (·.1) = false := by rfl) (hp2 : (backTo pos (starEach [.Call (.Name "sum" q2) [a] [] q3] X.env)).any (·.1) = false := by rfl) :
    ET X d ps (.Call (.Name "max" q4) [.Constant (.int 0) j q1, .Call (.Name "sum" q2) [a] [] q3] [] pos) (inP _ 0 (h1 * hi)) :=
  weakT (pe_callB (call_max2 hc) hg2 hm2 boot_max (pa_cons pe_int (pa_cons (pe_callB (call_sumL hc) hg hm boot_sum (pa_cons ha pa_nil hs) (he := hs) (hpl := hp1)) pa_nil hs3) hs2) (he := hs2) (hpl := hp2)) fun σ H Q c k q => by
    refine ⟨c, k, fun v1 H1 D1 k1 p1 => ?_⟩
    obtain ⟨x, xs, rfl, hx, nx, a1, a2, itx⟩ := p1
    obtain ⟨ns, rfl, hns⟩ := ints_of itx
    rw [List.length_map] at a2
    have hs := sum_le (ns := ns) (B := hi) fun n hn => (hns n hn).2
    have hb : (ns.length : Int) * hi ≤ (h1 : Int) * hi := Int.mul_le_mul_of_nonneg_right (by omega) hhi.1
    have h0 : 0 ≤ (h1 : Int) * hi := Int.mul_nonneg (by omega) hhi.1
    refine ⟨x, ns, rfl, SqL.of hx, ⟨by omega, fun n hn => by have := hns n hn; omega⟩, 0, ns.sum, rfl, q _ _ D1 k1 ⟨_, rfl, ?_, ?_⟩⟩
    · split <;> omega
    · split <;> omega
end
end Hv
namespace Hv
open PySem L2
noncomputable def odP (D : List Addr) (lo hi : Int) : PP D := ⟨fun H v => Th (Off D H) 1 100 v ∧ betw v lo hi = false, fun _ _ _ k h => ⟨h.1.keep (off_kp k), h.2⟩⟩
noncomputable def hsP (D : List Addr) (L : Nat) (lo hi : Int) : PP D := ⟨fun H v => ∃ a xs, v = .ref a ∧ H a = some (.lst xs) ∧ a ∉ D ∧ xs.length ≤ L ∧ (∀ x ∈ xs, Th (Off D H) 1 100 x) ∧ ∃ x ∈ xs, betw x lo hi = false,
  fun _ _ _ k ⟨a, xs, e, h, n, l, it, z⟩ => ⟨a, xs, e, k _ _ h n, n, l, fun x hx => (it x hx).keep (off_kp k), z⟩⟩
noncomputable def ilP (D : List Addr) (L : Nat) (φ : List Int → Prop) : PP D := ⟨fun H v => ∃ a ns, v = .ref a ∧ H a = some (.lst (ns.map V.int)) ∧ a ∉ D ∧ ns.length ≤ L ∧ (∀ n ∈ ns, -1000 ≤ n ∧ n ≤ 1000) ∧ φ ns,
  fun H H' v k h => by obtain ⟨a, ns, e, h, n, r⟩ := h; exact ⟨a, ns, e, k _ _ h n, n, r⟩⟩
noncomputable def trP (D : List Addr) (n w : Nat) (φ : PyData → Prop) : PP D := ⟨fun H v => ∃ dd, Tree (Off D H) v dd ∧ GD n w dd ∧ φ dd, fun _ _ _ k ⟨dd, t, r⟩ => ⟨dd, t.keep (off_kp k), r⟩⟩
noncomputable def nzF (n : Nat) (z : PyData) : Prop := (rowD (-9) 9 z && decide ((lenD z : Int) = (n : Int))) = false
noncomputable def ybF (y : PyData) : Prop := (rowD 1 6 y && (decide (2 ≤ lenD y) && decide (lenD y ≤ 4))) = false
noncomputable def nfF (d : PyData) : Prop := isFrameD d = false
theorem _root_.L2.GD.up {n w n' w' : Nat} {d : PyData} (g : GD n w d) (h1 : n ≤ n') (h2 : w ≤ w') : GD n' w' d := ⟨g.sh, g.lv, Nat.le_trans g.dp h1, Nat.le_trans g.wt h2⟩
theorem tr_tr {D : List Addr} {n w n' w' : Nat} {φ ψ : PyData → Prop} (hn : n ≤ n') (hw : w ≤ w') (h : ∀ d, φ d → ψ d) : Le (trP D n w φ) (trP D n' w' ψ) := fun H v ⟨dd, t, g, z⟩ => ⟨dd, t, g.up hn hw, h _ z⟩
theorem ints_gd {ns : List Int} (h : ∀ n ∈ ns, -1000 ≤ n ∧ n ≤ 1000) {L : Nat} (hl : ns.length ≤ L) : GD 1 (L * 91) (.list (ns.map PyData.int)) := by
  have key : ∀ ms : List Int, (∀ n ∈ ms, -1000 ≤ n ∧ n ≤ 1000) → PyData.showableAll (ms.map PyData.int) = true ∧ PyData.leavesShortAll 40 (ms.map PyData.int) = true ∧ PyData.depthAll (ms.map PyData.int) ≤ 0 := by
    intro ms
    induction ms with
    | nil => exact fun _ => ⟨rfl, rfl, Nat.le_refl _⟩
    | cons m r ih =>
      intro hm
      obtain ⟨a1, a2, a3⟩ := ih fun n hn => hm n (List.mem_cons_of_mem _ hn)
      have hb := hm m List.mem_cons_self
      obtain ⟨dd, t, g⟩ := Th.int0 (H := fun _ => none) (i := m) (by have e25 : (10 : Nat) ^ 25 = 10000000000000000000000000 := by decide
                                                                     omega)
      cases t
      refine ⟨?_, ?_, ?_⟩
      · simp only [List.map_cons, PyData.showableAll, g.sh, a1, Bool.and_self]
      · simp only [List.map_cons, PyData.leavesShortAll, g.lv, a2, Bool.and_self]
      · simp only [List.map_cons, PyData.depthAll]; have := g.dp; omega
  obtain ⟨a1, a2, a3⟩ := key ns h
  have hw := ints_weight (ns := ns) h
  refine ⟨?_, ?_, ?_, ?_⟩
  · simpa only [PyData.showable] using a1
  · simpa only [PyData.leavesShort] using a2
  · simp only [PyData.depth]; omega
  · simp only [PyData.weight]; exact Nat.le_trans hw (Nat.mul_le_mul_right _ hl)
theorem sumD_ints (ns : List Int) : sumD (.list (ns.map PyData.int)) = ns.sum := by
  simp only [sumD, List.map_map]
  have e0 : (valD ∘ PyData.int) = (id : Int → Int) := funext fun _ => rfl
  rw [e0, List.map_id]
theorem lenD_ints (ns : List Int) : lenD (.list (ns.map PyData.int)) = ns.length := by simp [lenD]
theorem il_tr {D : List Addr} {L n' w' : Nat} {φ : List Int → Prop} {ψ : PyData → Prop} (h : ∀ ns, φ ns → ψ (.list (ns.map PyData.int))) (hn : 1 ≤ n' := by decide) (hw : L * 91 ≤ w' := by decide) : Le (ilP D L φ) (trP D n' w' ψ) := fun H v ⟨a, ns, e, ha, na, l, b, z⟩ => by
  subst e
  exact ⟨_, .lst (off_at ha na) (trees_ints' ns), (ints_gd b l).up hn hw, h ns z⟩
theorem il_th {D : List Addr} {L n' w' : Nat} {φ : List Int → Prop} (hn : 1 ≤ n' := by decide) (hw : L * 91 ≤ w' := by decide) : Le (ilP D L φ) (thP D n' w') := fun H v h => by
  obtain ⟨dd, t, g, _⟩ := il_tr (ψ := fun _ => True) (fun _ _ => trivial) hn hw H v h
  exact ⟨dd, t, g⟩
theorem il_ls {D : List Addr} {L : Nat} {φ : List Int → Prop} : Le (ilP D L φ) (lsP 0 L (thP D 1 100)) := fun H v ⟨a, ns, e, ha, na, l, b, z⟩ => ⟨a, _, e, ha, na, Nat.zero_le _, by rw [List.length_map]; exact l, fun x hx => by
  obtain ⟨n, hn, rfl⟩ := List.mem_map.mp hx
  have := b n hn
  have e25 : (10 : Nat) ^ 25 = 10000000000000000000000000 := by decide
  exact Th.int (by omega)⟩
theorem hs_tr {D : List Addr} {L n' w' : Nat} {lo hi : Int} {ψ : PyData → Prop} (h : ∀ d, rowD lo hi d = false → ψ d) (hn : 2 ≤ n' := by decide) (hw : L * 101 ≤ w' := by decide) : Le (hsP D L lo hi) (trP D n' w' ψ) := fun H v ⟨a, xs, e, ha, na, l, it, x, hx, hb⟩ => by
  subst e
  obtain ⟨ds, ts, h1, h2, h3, h4⟩ := trees_of it
  refine ⟨.list ds, .lst (off_at ha na) ts, ⟨?_, ?_, ?_, ?_⟩, h _ ?_⟩
  · simpa only [PyData.showable] using h1
  · simpa only [PyData.leavesShort] using h2
  · simp only [PyData.depth]; omega
  · simp only [PyData.weight]
    exact Nat.le_trans h4 (Nat.le_trans (Nat.mul_le_mul_right _ l) hw)
  · show ds.all (betwD lo hi) = false
    rw [← trees_all ts, List.all_eq_false]
    exact ⟨x, hx, by rw [hb]; decide⟩
theorem row_nz {n : Nat} {d : PyData} (h : rowD (-9) 9 d = false) : nzF n d := by unfold nzF; rw [h]; rfl
theorem row_yb {d : PyData} (h : rowD 1 6 d = false) : ybF d := by unfold ybF; rw [h]; rfl
theorem isL_row {lo hi : Int} {d : PyData} (h : isL d = false) : rowD lo hi d = false := by cases d <;> first | rfl | simp [isL] at h
section
variable {X : Cx} {d : Addr} {ps : List (Option (PP [d]))} {e a b c : Expr} {es : List Expr} {pos : Pos}
theorem e_nonL {j : _} : ET X d ps (.Constant .none j pos) (trP _ 3 7300 fun y => isL y = false) := e_val pe_non fun _ => ⟨_, .non, ⟨rfl, rfl, by decide, by decide⟩, rfl⟩
theorem e_empL : ET X d ps (.Dict [] [] pos) (trP _ 3 7300 fun y => isL y = false) := weakT pe_dnewK fun σ H Q c k q => fun z hz' => q _ _ (k.keep (same_upd hz')) (Kp.of (same_upd hz')) ⟨_, .emp (off_at upd_same (k.off1 hz')), ⟨by decide +kernel, by decide +kernel, by decide, by decide⟩, rfl⟩
theorem e_tupleL {L : Nat} {φ : List Int → Prop} {q1 : Pos} (hg : Gl X "tuple") (hm : X.mg "tuple" = none) (ha : ET X d ps a (ilP _ L φ)) (hL : L ≤ 60 := by decide) (hs : starEach [a] X.env = (false, eval a X.env) :: starEach [] X.env := by rfl) (hpl : (backTo pos (starEach [] X.env)).any (·.1) = false := by rfl) :
    ET X d ps (.Call (.Name "tuple" q1) [a] [] pos) (trP _ 3 7300 fun y => isL y = false) :=
  weakT (pe_callTy call_tuple_of hg hm boot_tuple (pa_cons ha pa_nil hs) (he := hs) (hpl := hpl)) fun σ H Q c k q => by
    refine ⟨c, k, fun v1 H1 D1 k1 p1 => ?_⟩
    obtain ⟨x, ns, rfl, hx, nx, l, bb, _⟩ := p1
    refine ⟨x, _, rfl, .inl ⟨SqL.of hx, fun z hz' => q _ _ (D1.keep (same_upd hz')) (k1.same (same_upd hz')) ?_⟩⟩
    have g := ints_gd bb l
    refine ⟨.tuple (ns.map PyData.int), .tup (off_at upd_same (D1.off1 hz')) (trees_ints' ns), ⟨?_, ?_, ?_, ?_⟩, rfl⟩
    · have := g.sh; simpa only [PyData.showable] using this
    · have := g.lv; simpa only [PyData.leavesShort] using this
    · have := g.dp; simp only [PyData.depth] at this ⊢; omega
    · have := g.wt; simp only [PyData.weight] at this ⊢; omega
theorem cut_ints (ns : List Int) (lo hi : Option Int) : ∃ ms : List Int, cutV (ns.map V.int) lo hi = ms.map V.int ∧ (∀ n ∈ ms, n ∈ ns) ∧ ms.length ≤ ns.length := by
  refine ⟨(ns.drop (HT.sIx (ns.map V.int).length 0 lo)).take (HT.sIx (ns.map V.int).length (ns.map V.int).length hi - HT.sIx (ns.map V.int).length 0 lo), ?_, fun n hn => List.mem_of_mem_drop (List.mem_of_mem_take hn), ?_⟩
  · unfold cutV
    rw [← List.map_drop, ← List.map_take]
  · rw [List.length_take, List.length_drop]; omega
noncomputable def cutF (φ : List Int → Prop) (ns : List Int) : Prop := ∃ xs, φ xs ∧ ∀ n ∈ ns, n ∈ xs
theorem e_sliceI {φ : List Int → Prop} {L : Nat} {lo hi : Option Expr} {p2 : Pos} (ha : ET X d ps a (ilP _ L φ)) (hlo : PO X lo (tPI d ps)) (hhi : PO X hi (tPI d ps)) : ET X d ps (.Subscript a (.Slice lo hi none p2) pos) (ilP _ L (cutF φ)) :=
  weakT (pe_slice sl_list ha hlo hhi) fun σ H Q c k q => by
    refine ⟨c, k, fun v1 H1 D1 k1 p1 => ⟨c.per k1, fun o1 => ⟨c.per k1, fun o2 => ?_⟩⟩⟩
    obtain ⟨x, ns, rfl, hx, nx, l, bb, z⟩ := p1
    obtain ⟨ms, em, h1, h2⟩ := cut_ints ns o1 o2
    refine ⟨x, _, rfl, SqL.of hx, fun y hy => q _ _ (D1.keep (same_upd hy)) (k1.same (same_upd hy)) ⟨y, ms, rfl, by rw [upd_same, em], D1.off1 hy, by omega, fun n hn => bb n (h1 n hn), ns, z, h1⟩⟩
theorem e_catI {φ ψ : List Int → Prop} {L M : Nat} (ha : ET X d ps a (ilP _ L φ)) (hb : ET X d ps b (ilP _ M ψ)) (hz : L + M ≤ 100000 := by decide) : ET X d ps (.BinOp a .Add b pos) (ilP _ (L + M) fun ns => ∃ xs ys, φ xs ∧ ψ ys ∧ ns = xs ++ ys) :=
  weakT (pe_op op_cat ha hb) fun σ H Q c k q => by
    refine ⟨c, k, fun v1 H1 D1 k1 p1 => ⟨c.per k1, D1, fun v2 H2 D2 k2 p2 => ?_⟩⟩
    obtain ⟨x, ns, rfl, hx, nx, l, bb, z⟩ := (ilP [d] L φ).per _ _ _ k2 p1
    obtain ⟨y, ms, rfl, hy, ny, l', bb', z'⟩ := p2
    refine ⟨x, y, _, _, rfl, rfl, hx, hy, sz (by rw [List.length_map, List.length_map]; omega), fun t ht => q _ _ (D2.keep (same_upd ht)) ((k1.trans k2).same (same_upd ht)) ⟨t, ns ++ ms, rfl, by rw [upd_same, List.map_append], D2.off1 ht, by rw [List.length_append]; omega, fun n hn => ?_, ns, ms, z, z', rfl⟩⟩
    rcases List.mem_append.mp hn with hn | hn
    · exact bb n hn
    · exact bb' n hn
theorem e_oneI {lo hi : Int} (ha : ET X d ps a (inP _ lo hi)) (h1 : -1000 ≤ lo := by decide) (h2 : hi ≤ 1000 := by decide) (hs : starEach [a] X.env = (false, eval a X.env) :: starEach [] X.env := by exact star_cons rfl) : ET X d ps (.List [a] pos) (ilP _ 1 fun ns => ∃ i, ns = [i] ∧ lo ≤ i ∧ i ≤ hi) :=
  weakT (pe_lst (pa_cons ha pa_nil hs)) fun σ H Q c k q => by
    refine ⟨c, k, fun v1 H1 D1 k1 p1 => ?_⟩
    obtain ⟨i, rfl, i0, i1⟩ := p1
    refine ⟨sz (by simp), fun t ht => q _ _ (D1.keep (same_upd ht)) (k1.same (same_upd ht)) ⟨t, [i], rfl, upd_same, D1.off1 ht, by simp, fun n hn => ?_, i, rfl, i0, i1⟩⟩
    have : n = i := by simpa using hn
    omega
theorem e_has3 {L M : Nat} {l1 l2 : Nat} {lo hi : Int} {q1 q2 : Pos} (ha : ET X d ps a (lsP l1 L (thP _ 1 100))) (hb : ET X d ps b (odP _ lo hi)) (hc : ET X d ps c (lsP l2 M (thP _ 1 100))) (hz : L + 1 + M ≤ 100000 := by decide)
    (hs : starEach [b] X.env = (false, eval b X.env) :: starEach [] X.env := by exact star_cons rfl) : ET X d ps (.BinOp (.BinOp a .Add (.List [b] q1) q2) .Add c pos) (hsP _ (L + 1 + M) lo hi) :=
  weakT (pe_op op_cat (pe_op op_cat ha (pe_lst (pa_cons hb pa_nil hs))) hc) fun σ H Q c k q => by
    refine ⟨c, k, fun v1 H1 D1 k1 p1 => ⟨c.per k1, D1, fun v2 H2 D2 k2 p2 => ⟨sz (by simp), fun t ht => ?_⟩⟩⟩
    have s2 := same_upd (o := .lst [v2]) ht
    have u2 : (upd H2 t (.lst [v2])) t = _ := upd_same
    have nt := D2.off1 ht
    have D3 := D2.keep s2
    have k3 := (k1.trans k2).same s2
    generalize upd H2 t (.lst [v2]) = H3 at s2 u2 D3 k3 ⊢
    obtain ⟨x, xs, rfl, hx, nx, a1, a2, itx⟩ := (lsP l1 L (thP [d] 1 100)).per _ _ _ (k2.same s2) p1
    have p2 := (odP [d] lo hi).per _ _ _ (Kp.of s2) p2
    refine ⟨x, t, xs, _, rfl, rfl, hx, u2, sz (by simp; omega), fun y hy => ?_⟩
    have s4 := same_upd (o := .lst (xs ++ [v2])) hy
    have u4 : (upd H3 y (.lst (xs ++ [v2]))) y = _ := upd_same
    have ny := D3.off1 hy
    have D4 := D3.keep s4
    generalize upd H3 y (.lst (xs ++ [v2])) = H4 at s4 u4 D4 ⊢
    refine ⟨c.per (k3.same s4), D4, fun v5 H5 D5 k5 p5 => ?_⟩
    obtain ⟨z, zs, rfl, hz5, nz, b1, b2, itz⟩ := p5
    refine ⟨y, z, _, zs, rfl, rfl, k5 _ _ u4 ny, hz5, sz (by simp; omega), fun r hr => q _ _ (D5.keep (same_upd hr)) (((k3.same s4).trans k5).same (same_upd hr)) ⟨r, xs ++ [v2] ++ zs, rfl, upd_same, D5.off1 hr, by simp; omega, fun u hu => ?_, v2, by simp, p2.2⟩⟩
    have kk : Kp [d] H3 (upd H5 r (.lst (xs ++ [v2] ++ zs))) := (((Kp.of s4).trans k5).same (same_upd hr))
    rcases List.mem_append.mp hu with hu | hu
    · rcases List.mem_append.mp hu with hu | hu
      · exact (thP [d] 1 100).per _ _ _ kk (itx u hu)
      · have : u = v2 := by simpa using hu
        subst this
        exact (thP [d] 1 100).per _ _ _ kk p2.1
    · exact (thP [d] 1 100).per _ _ _ (Kp.of (same_upd hr)) (itz u hu)
theorem e_tup3 {A B C : PP [d]} {x1} (ha : ET X d ps a A) (hb : ET X d ps b B) (hc : ET X d ps c C)
    (h : ∀ H v1 v2 v3, A.holds H v1 → B.holds H v2 → C.holds H v3 → ∃ d1 d2 d3, Tree (Off [d] H) v1 d1 ∧ Tree (Off [d] H) v2 d2 ∧ Tree (Off [d] H) v3 d3 ∧ GD 3 26000 d1 ∧ GD 3 26000 d2 ∧ GD 3 26000 d3 ∧ isFrameD (.tuple [d1, d2, d3]) = false)
    (hs : starEach [a, b, c] X.env = (false, eval a X.env) :: starEach [b, c] X.env := by exact star_cons rfl) (hs2 : starEach [b, c] X.env = (false, eval b X.env) :: starEach [c] X.env := by exact star_cons rfl) (hs3 : starEach [c] X.env = (false, eval c X.env) :: starEach [] X.env := by exact star_cons rfl) :
    ET X d ps (.Tuple [a, b, c] x1 pos) (trP _ 4 80000 nfF) := weakT (pe_tup (pa_cons ha (pa_cons hb (pa_cons hc pa_nil hs3) hs2) hs)) fun σ H Q c k q => by
  refine ⟨c, k, fun v1 H1 D1 k1 p1 => ⟨c.per k1, D1, fun v2 H2 D2 k2 p2 => ⟨(c.per k1).per k2, D2, fun v3 H3 D3 k3 p3 => ⟨sz (by simp), fun t ht => q _ _ (D3.keep (same_upd ht)) (((k1.trans k2).trans k3).same (same_upd ht)) ?_⟩⟩⟩⟩
  have kk : Kp [d] H3 (upd H3 t (.tup [v1, v2, v3])) := Kp.of (same_upd ht)
  obtain ⟨d1, d2, d3, t1, t2, t3, g1, g2, g3, hf⟩ := h _ _ _ _ (A.per _ _ _ ((k2.trans k3).trans kk) p1) (B.per _ _ _ (k3.trans kk) p2) (C.per _ _ _ kk p3)
  refine ⟨.tuple [d1, d2, d3], .tup (off_at upd_same (D3.off1 ht)) (.cons t1 (.cons t2 (.cons t3 .nil))), ⟨?_, ?_, ?_, ?_⟩, hf⟩
  · simp only [PyData.showable, PyData.showableAll, g1.sh, g2.sh, g3.sh, Bool.and_self]
  · simp only [PyData.leavesShort, PyData.leavesShortAll, g1.lv, g2.lv, g3.lv, Bool.and_self]
  · simp only [PyData.depth, PyData.depthAll]; have := g1.dp; have := g2.dp; have := g3.dp; omega
  · simp only [PyData.weight, PyData.weightAll]; have := g1.wt; have := g2.wt; have := g3.wt; omega
theorem e_tupX {m : Nat} {x1} (h : PA X es (tTs d ps m (thP _ 3 19000))) (hm : m ≤ 4 := by decide) (h3 : m ≠ 3 := by decide) : ET X d ps (.Tuple es x1 pos) (trP _ 4 80000 nfF) := weakT (pe_tup h) fun σ H Q c k q => by
  refine ⟨c, k, fun vs H1 D1 k1 hl p1 => ⟨sz (by omega), fun z hz' => q _ _ (D1.keep (same_upd hz')) (k1.same (same_upd hz')) ?_⟩⟩
  obtain ⟨ds', ts, h1, h2, h3', h4⟩ := trees_of (H := Off [d] (upd H1 z (.tup vs))) (n := 3) (w := 19000) (fun u hu => Th.keep (p1 u hu) (off_kp (Kp.of (same_upd hz'))))
  refine ⟨.tuple ds', .tup (off_at upd_same (D1.off1 hz')) ts, ⟨?_, ?_, ?_, ?_⟩, if_len (by rw [← trees_len ts, hl]; exact h3)⟩
  · simpa only [PyData.showable] using h1
  · simpa only [PyData.leavesShort] using h2
  · simp only [PyData.depth]; omega
  · simp only [PyData.weight]
    have : vs.length * (19000 + 1) ≤ 4 * (19000 + 1) := Nat.mul_le_mul_right _ (by omega)
    omega
theorem ls_nf {l1 h1 n w : Nat} (hn : n ≤ 3 := by decide) (hw : h1 * (w + 1) ≤ 80000 := by decide) : Le (D := [d]) (lsP l1 h1 (thP _ n w)) (trP _ 4 80000 nfF) := fun H v ⟨a, xs, e, h, na, _, l2, it⟩ => by
  subst e
  obtain ⟨ds', ts, a1, a2, a3, a4⟩ := trees_of it
  refine ⟨.list ds', .lst (off_at h na) ts, ⟨?_, ?_, ?_, ?_⟩, rfl⟩
  · simpa only [PyData.showable] using a1
  · simpa only [PyData.leavesShort] using a2
  · simp only [PyData.depth]; omega
  · simp only [PyData.weight]; exact Nat.le_trans a4 (Nat.le_trans (Nat.mul_le_mul_right _ l2) hw)
theorem in_nf {lo hi : Int} (h1 : -10000000000000000000000000 ≤ lo := by decide) (h2 : hi ≤ 10000000000000000000000000 := by decide) : Le (D := [d]) (inP _ lo hi) (trP _ 4 80000 nfF) := fun H v ⟨i, e, a, b⟩ => by
  subst e
  have e25 : (10 : Nat) ^ 25 = 10000000000000000000000000 := by decide
  obtain ⟨dd, t, g⟩ := Th.int (H := Off [d] H) (i := i) (by omega)
  cases t
  exact ⟨_, .int i, g.up (by decide) (by decide), rfl⟩
theorem e_blF {t : Bool} {j : _} : ET X d ps (.Constant (.bool t) j pos) (trP _ 4 80000 nfF) := e_val pe_bl fun _ => ⟨_, .bl t, ⟨rfl, rfl, Nat.zero_le _, Nat.zero_le _⟩, rfl⟩
theorem e_nonF {j : _} : ET X d ps (.Constant .none j pos) (trP _ 4 80000 nfF) := e_val pe_non fun _ => ⟨_, .non, ⟨rfl, rfl, by decide, by decide⟩, rfl⟩
theorem e_strF {x : Str} {j : _} (h : GD 1 100 (.str x)) : ET X d ps (.Constant (.str x) j pos) (trP _ 4 80000 nfF) := e_val pe_str fun _ => ⟨_, .str x, h.up (by decide) (by decide), rfl⟩
theorem e_empF : ET X d ps (.Dict [] [] pos) (trP _ 4 80000 nfF) := weakT pe_dnewK fun σ H Q c k q => fun z hz' => q _ _ (k.keep (same_upd hz')) (Kp.of (same_upd hz')) ⟨_, .emp (off_at upd_same (k.off1 hz')), ⟨by decide +kernel, by decide +kernel, by decide, by decide⟩, rfl⟩
theorem in_od {lo hi l h : Int} (h1 : -10000000000000000000000000 ≤ l) (h2 : h ≤ 10000000000000000000000000) (hh : h < lo ∨ hi < l) : Le (D := [d]) (inP _ l h) (odP _ lo hi) := fun H v ⟨i, e, a, b⟩ => by
  subst e
  have e25 : (10 : Nat) ^ 25 = 10000000000000000000000000 := by decide
  refine ⟨Th.int (by omega), ?_⟩
  simp only [betw, Bool.and_eq_false_iff, decide_eq_false_iff_not]
  omega
theorem e_lenI {L : Nat} {φ : List Int → Prop} {lo hi : Int} {q1 : Pos} (hm : X.mg "len" = none) (hg : Gl X "len") (ha : ET X d ps a (ilP _ L φ)) (h : ∀ ns, φ ns → lo ≤ ns.length ∧ (ns.length : Int) ≤ hi) (hs : starEach [a] X.env = [(false, eval a X.env)] := by rfl) : ET X d ps (.Call (.Name "len" q1) [a] [] pos) (inP _ lo hi) :=
  weakT (lenS hm hg ha hs) fun σ H Q c k q => by
    refine ⟨c, k, fun v1 H1 D1 k1 p1 => ?_⟩
    obtain ⟨x, ns, rfl, hx, nx, l, bb, z⟩ := p1
    refine ⟨x, _, rfl, .inl (SqL.of hx), q _ _ D1 k1 ⟨_, rfl, ?_⟩⟩
    rw [List.length_map]
    exact h ns z
theorem e_drawN {x : Str} {q1 : Pos} {kl : Nat} {lo hi : Int} (D1 : Def X.prog X.w X.K X.mg X.base kl x ["store", "many"] spTake) (hr : Room kl X.A) (hg : Gl X x) (ha : ET X d ps a (rfP _ d)) (hb : ET X d ps b (inP _ lo hi)) (h0 : 0 < lo := by decide) (h1 : hi < 1073741824 := by decide) (hdb : (x == ("__debug__" : Str)) = false := by decide)
    (hs : starEach [a, b] X.env = (false, eval a X.env) :: starEach [b] X.env := by rfl) (hs2 : starEach [b] X.env = (false, eval b X.env) :: starEach [] X.env := by rfl) (hpl : (backTo pos (starEach [b] X.env)).any (·.1) = false := by rfl) :
    ET X d ps (.Call (.Name x q1) [a, b] [] pos) (inP _ 0 (hi - 1)) :=
  weakT (pe_fn D1 hr hg (pa_cons ha (pa_cons hb pa_nil hs2) hs) hdb hs hpl) fun σ H Q c k q => by
    refine ⟨c, k, fun v1 H1 D1 k1 p1 => ⟨c.per k1, D1, fun v2 H2 D2 k2 p2 => ?_⟩⟩
    obtain ⟨m, rfl, m0, m1⟩ := p2
    cases (show v1 = .ref d from p1)
    exact ⟨d, m, rfl, D2, by omega, by omega, fun r H3 r0 r1 D3 k3 => q _ _ D3 ((k1.trans k2).trans k3) ⟨r, rfl, r0, by omega⟩⟩
end
end Hv
namespace Hv
open PySem L2
theorem gd_emptys : GD 1 100 (.str "") := ⟨rfl, by decide +kernel, by decide, by decide⟩
theorem gd_s1 : GD 1 100 (.str "1") := ⟨rfl, by decide +kernel, by decide, by decide⟩
noncomputable def asgVal : Stmt → Expr
  | .Assign _ e _ => e
  | .Return (some e) _ => e
  | _ => .Constant .none 0 ⟨0, 0, 0, 0⟩
noncomputable def sT (d : Addr) (ps ps' : List (Option (PP [d]))) : TS := fun D σ H => Cp ps σ H ∧ Store H d ∧ ∀ σ' H', Cp ps' σ' H' → Store H' d → Kp [d] H H' → D.nx σ' H'
noncomputable def sR (d : Addr) (ps : List (Option (PP [d]))) (R : PP [d]) : TS := fun D σ H => Cp ps σ H ∧ Store H d ∧ ∀ v H', Store H' d → Kp [d] H H' → R.holds H' v → D.rt v H'
section
variable {X : Cx} {d : Addr} {ps ps' : List (Option (PP [d]))} {e a b c : Expr} {es : List Expr} {pos : Pos} {R : PP [d]} {st : Stmt} {rest : List Stmt}
theorem weakS {t t' : TS} (h : PS X st t) (w : ∀ D σ H, t' D σ H → t D σ H) : PS X st t' := fun pins s σ H D I q => h pins s σ H D I (w D σ H q)
theorem weakSs {t t' : TS} (h : PSs X rest t) (w : ∀ D σ H, t' D σ H → t D σ H) : PSs X rest t' := fun pins s σ H D I q => h pins s σ H D I (w D σ H q)
theorem s_set {i : Nat} {x : Str} {P : PP [d]} {pos' : Pos} (hN : X.N.Nodup) (hi : X.N[i]? = some x) (hx : Loc X.env.scope x) (he : ET X d ps e P) (hs : swapsWith e (some (.Name x pos')) pos.line X.env = pure false := by rfl) (hf : X.fn x = true ∨ X.env.scope.names.lookup x = some .local := by first | exact .inl rfl | exact .inr rfl | assumption) :
    PS X (.Assign [.Name x pos'] e pos) (sT d ps (ps.set i (some P))) := weakS (ps_set hN hi hx he hs hf) fun D σ H ⟨c, k, q⟩ => ⟨c, k, fun v H' D' k' hv => q _ H' ((c.per k').set hv) D' k'⟩
theorem ss_cons (h1 : PS X st (sT d ps ps')) (h2 : PSs X rest (sR d ps' R)) : PSs X (st :: rest) (sR d ps R) := weakSs (pss_cons h1 h2) fun D σ H ⟨c, k, q⟩ => ⟨c, k, fun σ' H' c' k' kk => ⟨c', k', fun v H2 D2 k2 hv => q v H2 D2 (kk.trans k2) hv⟩⟩
theorem il_il {D : List Addr} {L M : Nat} {φ ψ : List Int → Prop} (h : ∀ ns, ns.length ≤ L → φ ns → ψ ns) (hl : L ≤ M := by decide) : Le (ilP D L φ) (ilP D M ψ) := fun H v ⟨a, ns, e, ha, na, l, b, z⟩ => ⟨a, ns, e, ha, na, Nat.le_trans l hl, b, h ns l z⟩
theorem e_twoI {l1 h1 l2 h2 : Int} (ha : ET X d ps a (inP _ l1 h1)) (hb : ET X d ps b (inP _ l2 h2)) (z1 : -1000 ≤ l1 := by decide) (z2 : h1 ≤ 1000 := by decide) (z3 : -1000 ≤ l2 := by decide) (z4 : h2 ≤ 1000 := by decide)
    (hs : starEach [a, b] X.env = (false, eval a X.env) :: starEach [b] X.env := by exact star_cons rfl) (hs2 : starEach [b] X.env = (false, eval b X.env) :: starEach [] X.env := by exact star_cons rfl) : ET X d ps (.List [a, b] pos) (ilP _ 2 fun ns => ∃ i j, ns = [i, j] ∧ (l1 ≤ i ∧ i ≤ h1) ∧ l2 ≤ j ∧ j ≤ h2) :=
  weakT (pe_lst (pa_cons ha (pa_cons hb pa_nil hs2) hs)) fun σ H Q c k q => by
    refine ⟨c, k, fun v1 H1 D1 k1 p1 => ⟨c.per k1, D1, fun v2 H2 D2 k2 p2 => ?_⟩⟩
    obtain ⟨i, rfl, i0, i1⟩ := p1
    obtain ⟨j, rfl, j0, j1⟩ := p2
    refine ⟨sz (by simp), fun t ht => q _ _ (D2.keep (same_upd ht)) ((k1.trans k2).same (same_upd ht)) ⟨t, [i, j], rfl, upd_same, D2.off1 ht, by simp, fun n hn => ?_, i, j, rfl, ⟨i0, i1⟩, j0, j1⟩⟩
    rcases List.mem_cons.mp hn with rfl | hn
    · omega
    · have : n = j := by simpa using hn
      omega
theorem in_T {lo hi : Int} {H : Hp} {v : V} (h : (inP [d] lo hi).holds H v) (h1 : -1000 ≤ lo) (h2 : hi ≤ 1000) : ∃ i, Tree (Off [d] H) v (.int i) ∧ GD 3 26000 (.int i) := by
  obtain ⟨i, rfl, a, b⟩ := h
  have e25 : (10 : Nat) ^ 25 = 10000000000000000000000000 := by decide
  obtain ⟨dd, t, g⟩ := Th.int (H := Off [d] H) (i := i) (by omega)
  cases t
  exact ⟨i, .int i, g.up (by decide) (by decide)⟩
theorem il_T {L : Nat} {φ : List Int → Prop} {H : Hp} {v : V} (h : (ilP [d] L φ).holds H v) (hL : L * 91 ≤ 26000) : ∃ ns, φ ns ∧ Tree (Off [d] H) v (.list (ns.map PyData.int)) ∧ GD 3 26000 (.list (ns.map PyData.int)) := by
  obtain ⟨a, ns, rfl, ha, na, l, b, z⟩ := h
  exact ⟨ns, z, .lst (off_at ha na) (trees_ints' ns), (ints_gd b l).up (by decide) hL⟩
end
theorem fr_y {x y z : PyData} (h : ybF y) : isFrameD (.tuple [x, y, z]) = false := by
  unfold ybF at h
  simp only [isFrameD, h, Bool.and_false, Bool.false_and]
theorem fr_nz {n : Nat} {x z : PyData} {ns : List Int} (h : nzF n z) (hl : ns.sum = (n : Int)) : isFrameD (.tuple [x, .list (ns.map .int), z]) = false := by
  unfold nzF at h
  rw [Bool.and_eq_false_iff] at h
  simp only [isFrameD]
  rcases h with h | h
  · rw [h]; simp
  · rw [sumD_ints, hl, h]; simp
theorem fr_x {x y z : PyData} (h : betwD 2 16 x = false) : isFrameD (.tuple [x, y, z]) = false := by simp only [isFrameD, h, Bool.false_and]
theorem nz_len {n : Nat} {ns : List Int} (h : ns.length ≠ n) : nzF n (.list (ns.map PyData.int)) := by
  unfold nzF
  rw [lenD_ints, decide_eq_false (fun z => h (by omega)), Bool.and_false]
theorem yb_has {ns : List Int} (h : ∃ x ∈ ns, x < 1 ∨ 6 < x) : ybF (.list (ns.map PyData.int)) := by
  refine row_yb ?_
  rw [row_ints, List.all_eq_false]
  obtain ⟨x, hx, hb⟩ := h
  refine ⟨x, hx, ?_⟩
  simp only [Bool.and_eq_true, decide_eq_true_eq]
  omega
theorem yb_len {y : PyData} (h : lenD y < 2 ∨ 4 < lenD y) : ybF y := by
  unfold ybF
  have : (decide (2 ≤ lenD y) && decide (lenD y ≤ 4)) = false := by
    rw [Bool.and_eq_false_iff, decide_eq_false_iff_not, decide_eq_false_iff_not]
    omega
  rw [this, Bool.and_false]
structure FI (pI wI : List Int) (n : Nat) : Prop where
  p1 : ∀ x ∈ pI, 1 ≤ x ∧ x ≤ 6
  l2 : 2 ≤ pI.length
  l4 : pI.length ≤ 4
  sm : pI.sum = (n : Int)
  wl : wI.length = n
  wr : ∀ x ∈ wI, -9 ≤ x ∧ x ≤ 9
  n2 : 2 ≤ n
  n24 : n ≤ 24
theorem FrOk.fi {b : Nat} {ps : List Nat} {ws : List Int} (ok : FrOk b ps ws) : FI (ps.map fun (p : Nat) => (p : Int)) ws ps.sum where
  p1 := fun x hx => by
    obtain ⟨p, hp, rfl⟩ := List.mem_map.mp hx
    have := ok.pr p hp
    omega
  l2 := by rw [List.length_map]; exact ok.l2
  l4 := by rw [List.length_map]; exact ok.l4
  sm := Ma.sum_cast ps
  wl := ok.wl
  wr := ok.wr
  n2 := ok.sum.1
  n24 := ok.sum.2
end Hv
namespace Hv
open PySem L2
noncomputable def oaP (D : List Addr) : PP D := ⟨fun H v => Th (Off D H) 1 100 v ∧ (isIntV v = false ∨ ∃ i : Int, v = .int i ∧ (i < -1000 ∨ 1000 < i)), fun _ _ _ k h => ⟨h.1.keep (off_kp k), h.2⟩⟩
noncomputable def ibP (D : List Addr) : PP D := ⟨fun _ v => ∃ i : Int, v = .int i ∧ (-1 ≤ i ∧ i ≤ 26) ∧ (i < 1 ∨ 6 < i), fun _ _ _ _ h => h⟩
theorem oa_od {D : List Addr} {lo hi : Int} (h1 : -1000 ≤ lo := by decide) (h2 : hi ≤ 1000 := by decide) : Le (oaP D) (odP D lo hi) := fun H v ⟨t, h⟩ => ⟨t, by
  rcases h with h | ⟨i, rfl, h⟩
  · cases v <;> first | rfl | simp [isIntV] at h
  · simp only [betw, Bool.and_eq_false_iff, decide_eq_false_iff_not]
    omega⟩
noncomputable def FT (ns : List Int) : Prop := (∃ x ∈ ns, x < 1 ∨ 6 < x) ∧ ∀ x ∈ ns, -1 ≤ x ∧ x ≤ 26
section
variable {X : Cx} {d : Addr} {ps : List (Option (PP [d]))} {e a b c : Expr} {es : List Expr} {pos : Pos}
theorem e_blA {t : Bool} {j : _} : ET X d ps (.Constant (.bool t) j pos) (oaP _) := e_val pe_bl fun _ => ⟨Th.bl t, .inl rfl⟩
theorem e_nonA {j : _} : ET X d ps (.Constant .none j pos) (oaP _) := e_val pe_non fun _ => ⟨Th.non, .inl rfl⟩
theorem e_strA {x : Str} {j : _} (h : GD 1 100 (.str x)) : ET X d ps (.Constant (.str x) j pos) (oaP _) := e_val pe_str fun _ => ⟨⟨_, .str x, h⟩, .inl rfl⟩
theorem e_empA : ET X d ps (.Dict [] [] pos) (oaP _) := weakT pe_dnewK fun σ H Q c k q => fun z hz' => q _ _ (k.keep (same_upd hz')) (Kp.of (same_upd hz')) ⟨Th.emp (off_at upd_same (k.off1 hz')), .inl rfl⟩
theorem ls_oa {l1 h1 : Nat} (hw : h1 ≤ 1 := by decide) : Le (D := [d]) (lsP l1 h1 (thP _ 0 90)) (oaP _) := fun H v ⟨a, xs, e, h, na, _, l2, it⟩ => by
  subst e
  exact ⟨(Th.lst (off_at h na) it l2).mono (by decide) (by omega), .inl rfl⟩
theorem e_tupA {n : Nat} {x1} (h : PA X es (tTs d ps n (thP _ 0 90))) (hm : n ≤ 1 := by decide) : ET X d ps (.Tuple es x1 pos) (oaP _) := weakT (pe_tup h) fun σ H Q c k q => by
  refine ⟨c, k, fun vs H1 D1 k1 hl p1 => ⟨sz (by omega), fun z hz' => q _ _ (D1.keep (same_upd hz')) (k1.same (same_upd hz')) ⟨?_, .inl rfl⟩⟩⟩
  exact (Th.tup (L := n) (off_at upd_same (D1.off1 hz')) (fun u hu => Th.keep (p1 u hu) (off_kp (Kp.of (same_upd hz')))) (by omega)).mono (by decide) (by omega)
theorem in_oa {lo hi : Int} (h1 : -10000000000000000000000000 ≤ lo := by decide) (h2 : hi ≤ 10000000000000000000000000 := by decide) (h : hi < -1000 ∨ 1000 < lo := by decide) : Le (D := [d]) (inP _ lo hi) (oaP _) := fun H v ⟨i, e, a, b⟩ => by
  subst e
  have e25 : (10 : Nat) ^ 25 = 10000000000000000000000000 := by decide
  exact ⟨Th.int (by omega), .inr ⟨i, rfl, by omega⟩⟩
theorem e_npow {j1 j2 : _} {q1 q2 q3 : Pos} : ET X d ps (.UnaryOp .USub (.BinOp (.Constant (.int 10) j1 q1) .Pow (.Constant (.int 25) j2 q2) q3) pos) (inP _ (-10000000000000000000000000) (-10000000000000000000000000)) := weakT (pe_un un_neg (pe_op op_pow pe_int pe_int)) fun σ H Q c k q =>
  ⟨10, 25, rfl, rfl, ⟨by decide, by decide, by decide⟩, _, rfl, q _ H k Kp.refl ⟨_, rfl, by decide, by decide⟩⟩
theorem in_ib {lo hi : Int} (h1 : -1 ≤ lo := by decide) (h2 : hi ≤ 26 := by decide) (h : hi < 1 ∨ 6 < lo := by decide) : Le (D := [d]) (inP _ lo hi) (ibP _) := fun H v ⟨i, e, a, b⟩ => ⟨i, e, by omega, by omega⟩
theorem e_oneB (ha : ET X d ps a (ibP _)) (hs : starEach [a] X.env = (false, eval a X.env) :: starEach [] X.env := by exact star_cons rfl) : ET X d ps (.List [a] pos) (ilP _ 1 fun ns => ∃ i, ns = [i] ∧ (-1 ≤ i ∧ i ≤ 26) ∧ (i < 1 ∨ 6 < i)) :=
  weakT (pe_lst (pa_cons ha pa_nil hs)) fun σ H Q c k q => by
    refine ⟨c, k, fun v1 H1 D1 k1 p1 => ?_⟩
    obtain ⟨i, rfl, i0, i1⟩ := p1
    refine ⟨sz (by simp), fun t ht => q _ _ (D1.keep (same_upd ht)) (k1.same (same_upd ht)) ⟨t, [i], rfl, upd_same, D1.off1 ht, by simp, fun n hn => ?_, i, rfl, i0, i1⟩⟩
    have : n = i := by simpa using hn
    omega
theorem ft_of {pI ns : List Int} (hp : ∀ x ∈ pI, 1 ≤ x ∧ x ≤ 6) (h : ∃ xs ys, (∃ xs' ys', cutF (· = pI) xs' ∧ (∃ i, ys' = [i] ∧ (-1 ≤ i ∧ i ≤ 26) ∧ (i < 1 ∨ 6 < i)) ∧ xs = xs' ++ ys') ∧ cutF (· = pI) ys ∧ ns = xs ++ ys) : FT ns := by
  obtain ⟨xs, ys, ⟨xs', ys', ⟨_, rfl, c1⟩, ⟨i, rfl, i0, i1⟩, rfl⟩, ⟨_, rfl, c2⟩, rfl⟩ := h
  refine ⟨⟨i, by simp, i1⟩, fun n hn => ?_⟩
  simp only [List.mem_append, List.mem_singleton] at hn
  rcases hn with (hn | rfl) | hn
  · have := hp n (c1 n hn); omega
  · omega
  · have := hp n (c2 n hn); omega
theorem il_lsI {D : List Addr} {L : Nat} {φ : List Int → Prop} {lo hi : Int} (h : ∀ ns, φ ns → ∀ n ∈ ns, lo ≤ n ∧ n ≤ hi) : Le (ilP D L φ) (lsP 0 L (inP D lo hi)) := fun H v ⟨a, ns, e, ha, na, l, b, z⟩ => ⟨a, _, e, ha, na, Nat.zero_le _, by rw [List.length_map]; exact l, fun x hx => by
  obtain ⟨n, hn, rfl⟩ := List.mem_map.mp hx
  exact ⟨n, rfl, h ns z n hn⟩⟩
theorem e_init {φ : List Int → Prop} {L : Nat} {j : _} {q1 q2 p2 : Pos} (ha : ET X d ps a (ilP _ L φ)) (h0 : ∀ ns, φ ns → 0 < ns.length) : ET X d ps (.Subscript a (.Slice none (some (.UnaryOp .USub (.Constant (.int 1) j q1) q2)) none p2) pos) (ilP _ L fun ns => ∃ xs, φ xs ∧ ns.length + 1 = xs.length) :=
  weakT (pe_slice sl_list ha po_none (po_some (pe_un un_neg pe_int))) fun σ H Q c k q => by
    refine ⟨c, k, fun v1 H1 D1 k1 p1 => ?_⟩
    obtain ⟨x, ns, rfl, hx, nx, l, bb, z⟩ := p1
    have hn := h0 ns z
    have e1 : cutV (ns.map V.int) none (some (-1)) = (ns.take (ns.length - 1)).map V.int := by
      unfold cutV
      rw [HT.sIx_none, List.drop_zero, Nat.sub_zero, List.length_map]
      have : HT.sIx ns.length ns.length (some (-1)) = ns.length - 1 := by
        unfold HT.sIx
        simp
        omega
      rw [this, List.map_take]
    refine ⟨1, rfl, -1, rfl, x, _, rfl, SqL.of hx, fun y hy => q _ _ (D1.keep (same_upd hy)) (k1.same (same_upd hy)) ⟨y, ns.take (ns.length - 1), rfl, by rw [upd_same, e1], D1.off1 hy, by rw [List.length_take]; omega, fun n hn => bb n (List.mem_of_mem_take hn), ns, z, by rw [List.length_take]; omega⟩⟩
theorem e_take1 {φ : List Int → Prop} {L : Nat} {j : _} {q1 p2 : Pos} (ha : ET X d ps a (ilP _ L φ)) : ET X d ps (.Subscript a (.Slice none (some (.Constant (.int 1) j q1)) none p2) pos) (ilP _ 1 fun _ => True) :=
  weakT (pe_slice sl_list ha po_none (po_some pe_int)) fun σ H Q c k q => by
    refine ⟨c, k, fun v1 H1 D1 k1 p1 => ?_⟩
    obtain ⟨x, ns, rfl, hx, nx, l, bb, z⟩ := p1
    have e1 : cutV (ns.map V.int) none (some (1 : Int)) = (ns.take 1).map V.int := by
      have := L2.cut_to (xs := ns.map V.int) (k := 1)
      rw [List.map_take]; exact this
    refine ⟨1, rfl, x, _, rfl, SqL.of hx, fun y hy => q _ _ (D1.keep (same_upd hy)) (k1.same (same_upd hy)) ⟨y, ns.take 1, rfl, by rw [upd_same, e1], D1.off1 hy, by rw [List.length_take]; omega, fun n hn => bb n (List.mem_of_mem_take hn), trivial⟩⟩
theorem o_ix0 (i : Nat) {L : Nat} {φ : List Int → Prop} {j : _} {q1 : Pos} (h : PE X a (tVar i)) (h0 : ∀ ns, φ ns → 0 < ns.length) (hi : ps[i]? = some (some (ilP _ L φ)) := by rfl) : PO X (some (.Subscript a (.Constant (.int 0) j q1) pos)) (tPI d ps) := weakO (po_some (ixl h pe_int)) fun σ H Q ⟨c, q⟩ => by
  obtain ⟨v, e1, x, ns, rfl, hx, nx, l, bb, z⟩ := c.get hi
  obtain ⟨v, ev, n, rfl⟩ := at_all (xs := ns.map V.int) (i := 0) (Pr := fun v => ∃ n, v = V.int n) (by decide) (by rw [List.length_map]; have := h0 ns z; omega) fun x hx => by
    obtain ⟨n, hn, rfl⟩ := List.mem_map.mp hx
    exact ⟨n, rfl⟩
  exact ⟨_, e1, _, _, _, _, rfl, rfl, SqL.of hx, ev, n, rfl, q _⟩
theorem e_lenL {It : PP [d]} {l1 h1 : Nat} {q1 : Pos} (hm : X.mg "len" = none) (hg : Gl X "len") (ha : ET X d ps a (lsP l1 h1 It)) (hs : starEach [a] X.env = [(false, eval a X.env)] := by rfl) : ET X d ps (.Call (.Name "len" q1) [a] [] pos) (inP _ l1 h1) :=
  weakT (lenS hm hg ha hs) fun σ H Q c k q => by
    refine ⟨c, k, fun v1 H1 D1 k1 p1 => ?_⟩
    obtain ⟨x, xs, rfl, hx, nx, l, l', it⟩ := p1
    exact ⟨x, _, rfl, .inl (SqL.of hx), q _ _ D1 k1 ⟨_, rfl, by omega, by omega⟩⟩
end
end Hv
namespace Hv
open PySem L2
noncomputable def spNoFrame : Sp := fun vs H Q _ => ∃ (s f a c : Addr) (b : Nat) (ps : List Nat) (ws : List Int), vs = [.ref s, .ref f] ∧ Store H s ∧ FrAt H f a c b ps ws ∧ f ∉ [s] ∧ a ∉ [s] ∧ c ∉ [s] ∧ ∀ v H', Store H' s → Kp [s] H H' → (trP [s] 4 80000 nfF).holds H' v → Q v H'
noncomputable abbrev psN (d : Addr) (pI wI : List Int) (l : List (Option (PP [d]))) : List (Option (PP [d])) := some (rfP _ d) :: none :: some (inP _ 2 16) :: some (ilP _ 4 (· = pI)) :: some (ilP _ 24 (· = wI)) :: l
noncomputable abbrev NF (d : Addr) : PP [d] := trP _ 4 80000 nfF
noncomputable abbrev namN : List Str := ["store", "frame", "base", "parts", "weights", "at", "spot", "odd", "size", "wide", "weight", "heavy", "long", "fit", "suited", "some"]
noncomputable abbrev XN (P : Program) (w : World) (K : PySem.W.Frag) (mg : Str → Option Value) (base : Heap) (f : Addr) (cdv : Value) (A : Around) (outer : List Env) (s : Shared) (H : Hp) (E : XK) : Cx := Cx.nox (cxOf CX0 P w K mg base namN "_law_no_frame" (defScope sNoFrame) f cdv A outer s H E)
noncomputable abbrev stN (i : Nat) : Stmt := (defBody sNoFrame).getD i (.Pass ⟨0, 0, 0, 0⟩)
theorem scNoFrame : FnScope namN ["store", "frame"] (defScope sNoFrame) := ⟨rfl, rfl, rfl, by decide +kernel, rfl, by decide +kernel, by decide +kernel⟩
theorem gd_long : GD 1 100 (.str "10:1+1:1 1") := ⟨rfl, by decide +kernel, by decide, by decide⟩
section
variable {P : Program} {w : World} {K : PySem.W.Frag} {mg : Str → Option Value} {base : Heap} {f : Addr} {cdv : Value} {A : Around} {outer : List Env} {s : Shared} {H : Hp} {E : XK} {d : Addr} {pI wI : List Int} {n : Nat} {o5 o6 o7 o8 o9 o10 o11 o12 o13 o14 o15 : Option (PP [d])}
theorem n1 (D1 : Def P w K mg base 1 "_law_take" ["store", "many"] spTake) (hr : Room 1 (XN P w K mg base f cdv A outer s H E).A) (T : Txt mg) (Fi : FI pI wI n) : PS (XN P w K mg base f cdv A outer s H E) (stN 1) (sT d (psN d pI wI [o5, o6, o7, o8, o9, o10, o11, o12, o13, o14, o15]) (psN d pI wI [some (inP _ 0 3), o6, o7, o8, o9, o10, o11, o12, o13, o14, o15])) := by
  refine s_set (i := 5) (P := inP _ 0 3) (ps := psN d pI wI [o5, o6, o7, o8, o9, o10, o11, o12, o13, o14, o15]) scNoFrame.nd rfl (Or.inl rfl) ?_
  exact e_drawN (hi := 4) D1 hr (by rfl) (e_var 0 (pv 0)) (e_lenI (lo := 2) (hi := 4) T.len (by rfl) (e_var 3 (pv 3)) (fun ns h => by subst h; have := Fi.l2; have := Fi.l4; omega))
theorem n2 (D1 : Def P w K mg base 1 "_law_take" ["store", "many"] spTake) (hr : Room 1 (XN P w K mg base f cdv A outer s H E).A) (T : Txt mg) (Fi : FI pI wI n) : PS (XN P w K mg base f cdv A outer s H E) (stN 2) (sT d (psN d pI wI [some (inP _ 0 3), o6, o7, o8, o9, o10, o11, o12, o13, o14, o15]) (psN d pI wI [some (inP _ 0 3), some (inP _ 0 23), o7, o8, o9, o10, o11, o12, o13, o14, o15])) := by
  refine s_set (i := 6) (P := inP _ 0 23) (ps := psN d pI wI [some (inP _ 0 3), o6, o7, o8, o9, o10, o11, o12, o13, o14, o15]) scNoFrame.nd rfl (Or.inl rfl) ?_
  exact e_drawN (hi := 24) D1 hr (by rfl) (e_var 0 (pv 0)) (e_lenI (lo := 2) (hi := 24) T.len (by rfl) (e_var 4 (pv 4)) (fun ns h => by subst h; have := Fi.wl; have := Fi.n2; have := Fi.n24; omega))
@[irreducible] def kL : Expr := (.List [(.Constant (.bool true) 0 ⟨186, 11, 186, 15⟩), (.Constant (.bool false) 0 ⟨186, 17, 186, 22⟩), (.Constant .none 0 ⟨186, 24, 186, 28⟩), (.Constant (.str "1") 0 ⟨186, 30, 186, 33⟩), (.List [(.Constant (.int 1) 0 ⟨186, 36, 186, 37⟩)] ⟨186, 35, 186, 38⟩), (.Tuple [(.Constant (.int 1) 0 ⟨186, 41, 186, 42⟩)] 0 ⟨186, 40, 186, 44⟩), (.Dict [] [] ⟨186, 46, 186, 48⟩), (.Constant (.str "") 0 ⟨186, 50, 186, 52⟩), (.BinOp (.Constant (.int 10) 0 ⟨186, 54, 186, 56⟩) .Pow (.Constant (.int 25) 0 ⟨186, 60, 186, 62⟩) ⟨186, 54, 186, 62⟩), (.UnaryOp .USub (.BinOp (.Constant (.int 10) 0 ⟨186, 65, 186, 67⟩) .Pow (.Constant (.int 25) 0 ⟨186, 71, 186, 73⟩) ⟨186, 65, 186, 73⟩) ⟨186, 64, 186, 73⟩)] ⟨186, 10, 186, 74⟩)
theorem kL_eq : kL = (.List [(.Constant (.bool true) 0 ⟨186, 11, 186, 15⟩), (.Constant (.bool false) 0 ⟨186, 17, 186, 22⟩), (.Constant .none 0 ⟨186, 24, 186, 28⟩), (.Constant (.str "1") 0 ⟨186, 30, 186, 33⟩), (.List [(.Constant (.int 1) 0 ⟨186, 36, 186, 37⟩)] ⟨186, 35, 186, 38⟩), (.Tuple [(.Constant (.int 1) 0 ⟨186, 41, 186, 42⟩)] 0 ⟨186, 40, 186, 44⟩), (.Dict [] [] ⟨186, 46, 186, 48⟩), (.Constant (.str "") 0 ⟨186, 50, 186, 52⟩), (.BinOp (.Constant (.int 10) 0 ⟨186, 54, 186, 56⟩) .Pow (.Constant (.int 25) 0 ⟨186, 60, 186, 62⟩) ⟨186, 54, 186, 62⟩), (.UnaryOp .USub (.BinOp (.Constant (.int 10) 0 ⟨186, 65, 186, 67⟩) .Pow (.Constant (.int 25) 0 ⟨186, 71, 186, 73⟩) ⟨186, 65, 186, 73⟩) ⟨186, 64, 186, 73⟩)] ⟨186, 10, 186, 74⟩) := by unfold kL; rfl
theorem n3 (D1 : Def P w K mg base 1 "_law_take" ["store", "many"] spTake) (hr : Room 1 (XN P w K mg base f cdv A outer s H E).A) (T : Txt mg) (Fi : FI pI wI n) : PS (XN P w K mg base f cdv A outer s H E) (.Assign [(.Name "odd" ⟨186, 4, 186, 7⟩)] (.Subscript kL (.Call (.Name "_law_take" ⟨186, 75, 186, 84⟩) [(.Name "store" ⟨186, 85, 186, 90⟩), (.Constant (.int 10) 0 ⟨186, 92, 186, 94⟩)] [] ⟨186, 75, 186, 95⟩) ⟨186, 10, 186, 96⟩) ⟨186, 4, 186, 96⟩) (sT d (psN d pI wI [some (inP _ 0 3), some (inP _ 0 23), o7, o8, o9, o10, o11, o12, o13, o14, o15]) (psN d pI wI [some (inP _ 0 3), some (inP _ 0 23), some (oaP _), o8, o9, o10, o11, o12, o13, o14, o15])) := by
  refine s_set (i := 7) (P := oaP _) (ps := psN d pI wI [some (inP _ 0 3), some (inP _ 0 23), o7, o8, o9, o10, o11, o12, o13, o14, o15]) scNoFrame.nd rfl (Or.inl rfl) ?_
  refine e_ix (l1 := 10) (h1 := 10) (j := 9) (It := oaP _) ?_ (e_draw D1 hr (by rfl) (e_var 0 (pv 0)) e_int)
  rw [kL_eq]
  refine e_lst (It := oaP _) (m := 10) ?_
  refine a_cons (It := oaP _) (m := 9) ?_ ?_
  · exact e_blA
  refine a_cons (It := oaP _) (m := 8) ?_ ?_
  · exact e_blA
  refine a_cons (It := oaP _) (m := 7) ?_ ?_
  · exact e_nonA
  refine a_cons (It := oaP _) (m := 6) ?_ ?_
  · exact e_strA gd_s1
  refine a_cons (It := oaP _) (m := 5) ?_ ?_
  · refine e_up (P := lsP 1 1 (thP _ 0 90)) ?_ ls_oa
    refine e_lst (It := thP _ 0 90) (m := 1) ?_
    refine a_cons (It := thP _ 0 90) (m := 0) ?_ ?_
    · exact e_up e_int in_th0
    exact a_nil
  refine a_cons (It := oaP _) (m := 4) ?_ ?_
  · refine e_tupA (n := 1) ?_
    refine a_cons (It := thP _ 0 90) (m := 0) ?_ ?_
    · exact e_up e_int in_th0
    exact a_nil
  refine a_cons (It := oaP _) (m := 3) ?_ ?_
  · exact e_empA
  refine a_cons (It := oaP _) (m := 2) ?_ ?_
  · exact e_strA gd_emptys
  refine a_cons (It := oaP _) (m := 1) ?_ ?_
  · exact e_up e_pow25 in_oa
  refine a_cons (It := oaP _) (m := 0) ?_ ?_
  · exact e_up e_npow in_oa
  exact a_nil
theorem n4 (D1 : Def P w K mg base 1 "_law_take" ["store", "many"] spTake) (hr : Room 1 (XN P w K mg base f cdv A outer s H E).A) (T : Txt mg) (Fi : FI pI wI n) : PS (XN P w K mg base f cdv A outer s H E) (stN 4) (sT d (psN d pI wI [some (inP _ 0 3), some (inP _ 0 23), some (oaP _), o8, o9, o10, o11, o12, o13, o14, o15]) (psN d pI wI [some (inP _ 0 3), some (inP _ 0 23), some (oaP _), some (odP _ 1 6), o9, o10, o11, o12, o13, o14, o15])) := by
  refine s_set (i := 8) (P := odP _ 1 6) (ps := psN d pI wI [some (inP _ 0 3), some (inP _ 0 23), some (oaP _), o8, o9, o10, o11, o12, o13, o14, o15]) scNoFrame.nd rfl (Or.inl rfl) ?_
  refine e_ix (l1 := 6) (h1 := 6) (j := 5) (It := odP _ 1 6) ?_ (e_draw D1 hr (by rfl) (e_var 0 (pv 0)) e_int)
  refine e_lst (It := odP _ 1 6) (m := 6) ?_
  refine a_cons (It := odP _ 1 6) (m := 5) ?_ ?_
  · exact e_up (e_var 7 (pv 7)) oa_od
  refine a_cons (It := odP _ 1 6) (m := 4) ?_ ?_
  · exact e_up (e_var 7 (pv 7)) oa_od
  refine a_cons (It := odP _ 1 6) (m := 3) ?_ ?_
  · exact e_up e_int (in_od (by decide) (by decide) (by decide))
  refine a_cons (It := odP _ 1 6) (m := 2) ?_ ?_
  · exact e_up e_neg (in_od (by decide) (by decide) (by decide))
  refine a_cons (It := odP _ 1 6) (m := 1) ?_ ?_
  · exact e_up e_int (in_od (by decide) (by decide) (by decide))
  refine a_cons (It := odP _ 1 6) (m := 0) ?_ ?_
  · exact e_up (e_add e_int (e_draw D1 hr (by rfl) (e_var 0 (pv 0)) e_int)) (in_od (by decide) (by decide) (by decide))
  exact a_nil
theorem n5 (D1 : Def P w K mg base 1 "_law_take" ["store", "many"] spTake) (hr : Room 1 (XN P w K mg base f cdv A outer s H E).A) (T : Txt mg) (Fi : FI pI wI n) : PS (XN P w K mg base f cdv A outer s H E) (stN 5) (sT d (psN d pI wI [some (inP _ 0 3), some (inP _ 0 23), some (oaP _), some (odP _ 1 6), o9, o10, o11, o12, o13, o14, o15]) (psN d pI wI [some (inP _ 0 3), some (inP _ 0 23), some (oaP _), some (odP _ 1 6), some (hsP _ 9 1 6), o10, o11, o12, o13, o14, o15])) := by
  refine s_set (i := 9) (P := hsP _ 9 1 6) (ps := psN d pI wI [some (inP _ 0 3), some (inP _ 0 23), some (oaP _), some (odP _ 1 6), o9, o10, o11, o12, o13, o14, o15]) scNoFrame.nd rfl (Or.inl rfl) ?_
  exact e_has3 (L := 4) (M := 4) (e_up (e_sliceI (e_var 3 (pv 3)) o_none (o_var 5 (pv 5))) il_ls) (e_var 8 (pv 8)) (e_up (e_sliceI (e_var 3 (pv 3)) (o_add 5 (pv 5) pe_int) o_none) il_ls)
theorem n6 (D1 : Def P w K mg base 1 "_law_take" ["store", "many"] spTake) (hr : Room 1 (XN P w K mg base f cdv A outer s H E).A) (T : Txt mg) (Fi : FI pI wI n) : PS (XN P w K mg base f cdv A outer s H E) (stN 6) (sT d (psN d pI wI [some (inP _ 0 3), some (inP _ 0 23), some (oaP _), some (odP _ 1 6), some (hsP _ 9 1 6), o10, o11, o12, o13, o14, o15]) (psN d pI wI [some (inP _ 0 3), some (inP _ 0 23), some (oaP _), some (odP _ 1 6), some (hsP _ 9 1 6), some (odP _ (-9) 9), o11, o12, o13, o14, o15])) := by
  refine s_set (i := 10) (P := odP _ (-9) 9) (ps := psN d pI wI [some (inP _ 0 3), some (inP _ 0 23), some (oaP _), some (odP _ 1 6), some (hsP _ 9 1 6), o10, o11, o12, o13, o14, o15]) scNoFrame.nd rfl (Or.inl rfl) ?_
  refine e_ix (l1 := 6) (h1 := 6) (j := 5) (It := odP _ (-9) 9) ?_ (e_draw D1 hr (by rfl) (e_var 0 (pv 0)) e_int)
  refine e_lst (It := odP _ (-9) 9) (m := 6) ?_
  refine a_cons (It := odP _ (-9) 9) (m := 5) ?_ ?_
  · exact e_up (e_var 7 (pv 7)) oa_od
  refine a_cons (It := odP _ (-9) 9) (m := 4) ?_ ?_
  · exact e_up (e_var 7 (pv 7)) oa_od
  refine a_cons (It := odP _ (-9) 9) (m := 3) ?_ ?_
  · exact e_up e_int (in_od (by decide) (by decide) (by decide))
  refine a_cons (It := odP _ (-9) 9) (m := 2) ?_ ?_
  · exact e_up e_neg (in_od (by decide) (by decide) (by decide))
  refine a_cons (It := odP _ (-9) 9) (m := 1) ?_ ?_
  · exact e_up (e_add e_int (e_draw D1 hr (by rfl) (e_var 0 (pv 0)) e_int)) (in_od (by decide) (by decide) (by decide))
  refine a_cons (It := odP _ (-9) 9) (m := 0) ?_ ?_
  · exact e_up (e_sub e_neg (e_draw D1 hr (by rfl) (e_var 0 (pv 0)) e_int)) (in_od (by decide) (by decide) (by decide))
  exact a_nil
theorem n7 (D1 : Def P w K mg base 1 "_law_take" ["store", "many"] spTake) (hr : Room 1 (XN P w K mg base f cdv A outer s H E).A) (T : Txt mg) (Fi : FI pI wI n) : PS (XN P w K mg base f cdv A outer s H E) (stN 7) (sT d (psN d pI wI [some (inP _ 0 3), some (inP _ 0 23), some (oaP _), some (odP _ 1 6), some (hsP _ 9 1 6), some (odP _ (-9) 9), o11, o12, o13, o14, o15]) (psN d pI wI [some (inP _ 0 3), some (inP _ 0 23), some (oaP _), some (odP _ 1 6), some (hsP _ 9 1 6), some (odP _ (-9) 9), some (hsP _ 49 (-9) 9), o12, o13, o14, o15])) := by
  refine s_set (i := 11) (P := hsP _ 49 (-9) 9) (ps := psN d pI wI [some (inP _ 0 3), some (inP _ 0 23), some (oaP _), some (odP _ 1 6), some (hsP _ 9 1 6), some (odP _ (-9) 9), o11, o12, o13, o14, o15]) scNoFrame.nd rfl (Or.inl rfl) ?_
  exact e_has3 (L := 24) (M := 24) (e_up (e_sliceI (e_var 4 (pv 4)) o_none (o_var 6 (pv 6))) il_ls) (e_var 10 (pv 10)) (e_up (e_sliceI (e_var 4 (pv 4)) (o_add 6 (pv 6) pe_int) o_none) il_ls)
theorem n8 (D1 : Def P w K mg base 1 "_law_take" ["store", "many"] spTake) (hr : Room 1 (XN P w K mg base f cdv A outer s H E).A) (T : Txt mg) (Fi : FI pI wI n) : PS (XN P w K mg base f cdv A outer s H E) (stN 8) (sT d (psN d pI wI [some (inP _ 0 3), some (inP _ 0 23), some (oaP _), some (odP _ 1 6), some (hsP _ 9 1 6), some (odP _ (-9) 9), some (hsP _ 49 (-9) 9), o12, o13, o14, o15]) (psN d pI wI [some (inP _ 0 3), some (inP _ 0 23), some (oaP _), some (odP _ 1 6), some (hsP _ 9 1 6), some (odP _ (-9) 9), some (hsP _ 49 (-9) 9), some (ibP _), o13, o14, o15])) := by
  refine s_set (i := 12) (P := ibP _) (ps := psN d pI wI [some (inP _ 0 3), some (inP _ 0 23), some (oaP _), some (odP _ 1 6), some (hsP _ 9 1 6), some (odP _ (-9) 9), some (hsP _ 49 (-9) 9), o12, o13, o14, o15]) scNoFrame.nd rfl (Or.inl rfl) ?_
  refine e_ix (l1 := 5) (h1 := 5) (j := 4) (It := ibP _) ?_ (e_draw D1 hr (by rfl) (e_var 0 (pv 0)) e_int)
  refine e_lst (It := ibP _) (m := 5) ?_
  refine a_cons (It := ibP _) (m := 4) ?_ ?_
  · exact e_up e_int in_ib
  refine a_cons (It := ibP _) (m := 3) ?_ ?_
  · exact e_up e_neg in_ib
  refine a_cons (It := ibP _) (m := 2) ?_ ?_
  · exact e_up e_int in_ib
  refine a_cons (It := ibP _) (m := 1) ?_ ?_
  · exact e_up e_int in_ib
  refine a_cons (It := ibP _) (m := 0) ?_ ?_
  · exact e_up (e_add e_int (e_draw D1 hr (by rfl) (e_var 0 (pv 0)) e_int)) in_ib
  exact a_nil
theorem n9 (D1 : Def P w K mg base 1 "_law_take" ["store", "many"] spTake) (hr : Room 1 (XN P w K mg base f cdv A outer s H E).A) (T : Txt mg) (Fi : FI pI wI n) : PS (XN P w K mg base f cdv A outer s H E) (stN 9) (sT d (psN d pI wI [some (inP _ 0 3), some (inP _ 0 23), some (oaP _), some (odP _ 1 6), some (hsP _ 9 1 6), some (odP _ (-9) 9), some (hsP _ 49 (-9) 9), some (ibP _), o13, o14, o15]) (psN d pI wI [some (inP _ 0 3), some (inP _ 0 23), some (oaP _), some (odP _ 1 6), some (hsP _ 9 1 6), some (odP _ (-9) 9), some (hsP _ 49 (-9) 9), some (ibP _), some (ilP _ 9 FT), o14, o15])) := by
  refine s_set (i := 13) (P := ilP _ 9 FT) (ps := psN d pI wI [some (inP _ 0 3), some (inP _ 0 23), some (oaP _), some (odP _ 1 6), some (hsP _ 9 1 6), some (odP _ (-9) 9), some (hsP _ 49 (-9) 9), some (ibP _), o13, o14, o15]) scNoFrame.nd rfl (Or.inl rfl) ?_
  exact e_up (e_catI (L := 5) (M := 4) (e_catI (L := 4) (M := 1) (e_sliceI (e_var 3 (pv 3)) o_none (o_var 5 (pv 5))) (e_oneB (e_var 12 (pv 12)))) (e_sliceI (e_var 3 (pv 3)) (o_add 5 (pv 5) pe_int) o_none)) (il_il fun ns hl h => ft_of Fi.p1 h)
theorem n10 (D1 : Def P w K mg base 1 "_law_take" ["store", "many"] spTake) (hr : Room 1 (XN P w K mg base f cdv A outer s H E).A) (T : Txt mg) (Fi : FI pI wI n) : PS (XN P w K mg base f cdv A outer s H E) (stN 10) (sT d (psN d pI wI [some (inP _ 0 3), some (inP _ 0 23), some (oaP _), some (odP _ 1 6), some (hsP _ 9 1 6), some (odP _ (-9) 9), some (hsP _ 49 (-9) 9), some (ibP _), some (ilP _ 9 FT), o14, o15]) (psN d pI wI [some (inP _ 0 3), some (inP _ 0 23), some (oaP _), some (odP _ 1 6), some (hsP _ 9 1 6), some (odP _ (-9) 9), some (hsP _ 49 (-9) 9), some (ibP _), some (ilP _ 9 FT), some (NF d), o15])) := by
  refine s_set (i := 14) (P := NF d) (ps := psN d pI wI [some (inP _ 0 3), some (inP _ 0 23), some (oaP _), some (odP _ 1 6), some (hsP _ 9 1 6), some (odP _ (-9) 9), some (hsP _ 49 (-9) 9), some (ibP _), some (ilP _ 9 FT), o14, o15]) scNoFrame.nd rfl (Or.inl rfl) ?_
  refine e_tup3 (A := inP _ 2 16) (B := ilP _ 9 FT) (C := thP _ 3 26000) (e_var 2 (pv 2)) (e_var 13 (pv 13)) (e_up (e_rep (l1 := 1) (h1 := 1) (j := 234) (e_lst (It := thP _ 0 90) (a_cons (e_up e_int in_th0) a_nil)) (e_maxsum (l1 := 0) (h1 := 9) (lo := -1) (hi := 26) rfl (by rfl) T.sum (by rfl) T.max (e_up (e_var 13 (pv 13)) (il_lsI fun _ (h : FT _) => h.2)))) ls_th) fun H v1 v2 v3 h1 h2 h3 => ?_
  obtain ⟨i, t1, g1⟩ := in_T h1 (by decide) (by decide)
  obtain ⟨ns, hy, t2, g2⟩ := il_T h2 (by decide)
  obtain ⟨y, t3, g3⟩ := h3
  exact ⟨_, _, _, t1, t2, t3, g1, g2, g3, fr_y (yb_has hy.1)⟩
theorem n11 (D1 : Def P w K mg base 1 "_law_take" ["store", "many"] spTake) (hr : Room 1 (XN P w K mg base f cdv A outer s H E).A) (T : Txt mg) (Fi : FI pI wI n) : PS (XN P w K mg base f cdv A outer s H E) (stN 11) (sT d (psN d pI wI [some (inP _ 0 3), some (inP _ 0 23), some (oaP _), some (odP _ 1 6), some (hsP _ 9 1 6), some (odP _ (-9) 9), some (hsP _ 49 (-9) 9), some (ibP _), some (ilP _ 9 FT), some (NF d), o15]) (psN d pI wI [some (inP _ 0 3), some (inP _ 0 23), some (oaP _), some (odP _ 1 6), some (hsP _ 9 1 6), some (odP _ (-9) 9), some (hsP _ 49 (-9) 9), some (ibP _), some (ilP _ 9 FT), some (NF d), some (lsP 4 4 (NF d))])) := by
  refine s_set (i := 15) (P := lsP 4 4 (NF d)) (ps := psN d pI wI [some (inP _ 0 3), some (inP _ 0 23), some (oaP _), some (odP _ 1 6), some (hsP _ 9 1 6), some (odP _ (-9) 9), some (hsP _ 49 (-9) 9), some (ibP _), some (ilP _ 9 FT), some (NF d), o15]) scNoFrame.nd rfl (Or.inl rfl) ?_
  refine e_lst (It := NF d) (m := 4) ?_
  refine a_cons (It := NF d) (m := 3) ?_ ?_
  · refine e_tup3 (A := inP _ 2 16) (B := hsP _ 9 1 6) (C := ilP _ 24 (· = wI)) (e_var 2 (pv 2)) (e_var 9 (pv 9)) (e_var 4 (pv 4)) fun H v1 v2 v3 h1 h2 h3 => ?_
    obtain ⟨i, t1, g1⟩ := in_T h1 (by decide) (by decide)
    obtain ⟨y, t2, g2, hy⟩ := hs_tr (n' := 3) (w' := 7300) (ψ := ybF) (fun _ h => row_yb h) (by decide) (by decide) _ _ h2
    obtain ⟨ms, rfl, t3, g3⟩ := il_T h3 (by decide)
    exact ⟨_, _, _, t1, t2, t3, g1, g2.up (by decide) (by decide), g3, fr_y hy⟩
  refine a_cons (It := NF d) (m := 2) ?_ ?_
  · refine e_tup3 (A := inP _ 2 16) (B := hsP _ 9 1 6) (C := ilP _ 24 (· = wI)) (e_var 2 (pv 2)) (e_var 9 (pv 9)) (e_var 4 (pv 4)) fun H v1 v2 v3 h1 h2 h3 => ?_
    obtain ⟨i, t1, g1⟩ := in_T h1 (by decide) (by decide)
    obtain ⟨y, t2, g2, hy⟩ := hs_tr (n' := 3) (w' := 7300) (ψ := ybF) (fun _ h => row_yb h) (by decide) (by decide) _ _ h2
    obtain ⟨ms, rfl, t3, g3⟩ := il_T h3 (by decide)
    exact ⟨_, _, _, t1, t2, t3, g1, g2.up (by decide) (by decide), g3, fr_y hy⟩
  refine a_cons (It := NF d) (m := 1) ?_ ?_
  · refine e_tup3 (A := inP _ 2 16) (B := ilP _ 4 (· = pI)) (C := hsP _ 49 (-9) 9) (e_var 2 (pv 2)) (e_var 3 (pv 3)) (e_var 11 (pv 11)) fun H v1 v2 v3 h1 h2 h3 => ?_
    obtain ⟨i, t1, g1⟩ := in_T h1 (by decide) (by decide)
    obtain ⟨ns, rfl, t2, g2⟩ := il_T h2 (by decide)
    obtain ⟨y, t3, g3, hy⟩ := hs_tr (n' := 3) (w' := 7300) (ψ := nzF n) (fun _ h => row_nz h) (by decide) (by decide) _ _ h3
    exact ⟨_, _, _, t1, t2, t3, g1, g2, g3.up (by decide) (by decide), fr_nz hy Fi.sm⟩
  refine a_cons (It := NF d) (m := 0) ?_ ?_
  · refine e_tup3 (A := inP _ 2 16) (B := ilP _ 4 (· = pI)) (C := hsP _ 49 (-9) 9) (e_var 2 (pv 2)) (e_var 3 (pv 3)) (e_var 11 (pv 11)) fun H v1 v2 v3 h1 h2 h3 => ?_
    obtain ⟨i, t1, g1⟩ := in_T h1 (by decide) (by decide)
    obtain ⟨ns, rfl, t2, g2⟩ := il_T h2 (by decide)
    obtain ⟨y, t3, g3, hy⟩ := hs_tr (n' := 3) (w' := 7300) (ψ := nzF n) (fun _ h => row_nz h) (by decide) (by decide) _ _ h3
    exact ⟨_, _, _, t1, t2, t3, g1, g2, g3.up (by decide) (by decide), fr_nz hy Fi.sm⟩
  exact a_nil
theorem n12 (D1 : Def P w K mg base 1 "_law_take" ["store", "many"] spTake) (hr : Room 1 (XN P w K mg base f cdv A outer s H E).A) (T : Txt mg) (Fi : FI pI wI n) : PS (XN P w K mg base f cdv A outer s H E) (stN 12) (sT d (psN d pI wI [some (inP _ 0 3), some (inP _ 0 23), some (oaP _), some (odP _ 1 6), some (hsP _ 9 1 6), some (odP _ (-9) 9), some (hsP _ 49 (-9) 9), some (ibP _), some (ilP _ 9 FT), some (NF d), some (lsP 4 4 (NF d))]) (psN d pI wI [some (inP _ 0 3), some (inP _ 0 23), some (oaP _), some (odP _ 1 6), some (hsP _ 9 1 6), some (odP _ (-9) 9), some (hsP _ 49 (-9) 9), some (ibP _), some (ilP _ 9 FT), some (NF d), some (lsP 7 7 (NF d))])) := by
  refine s_set (i := 15) (P := lsP 7 7 (NF d)) (ps := psN d pI wI [some (inP _ 0 3), some (inP _ 0 23), some (oaP _), some (odP _ 1 6), some (hsP _ 9 1 6), some (odP _ (-9) 9), some (hsP _ 49 (-9) 9), some (ibP _), some (ilP _ 9 FT), some (NF d), some (lsP 4 4 (NF d))]) scNoFrame.nd rfl (Or.inl rfl) ?_
  refine e_cat (It := NF d) (l1 := 4) (h1 := 4) (l2 := 3) (h2 := 3) ?_ ?_
  · exact e_var 15 (pv 15)
  refine e_lst (It := NF d) (m := 3) ?_
  refine a_cons (It := NF d) (m := 2) ?_ ?_
  · exact e_var 14 (pv 14)
  refine a_cons (It := NF d) (m := 1) ?_ ?_
  · exact e_var 14 (pv 14)
  refine a_cons (It := NF d) (m := 0) ?_ ?_
  · exact e_var 14 (pv 14)
  exact a_nil
theorem n13 (D1 : Def P w K mg base 1 "_law_take" ["store", "many"] spTake) (hr : Room 1 (XN P w K mg base f cdv A outer s H E).A) (T : Txt mg) (Fi : FI pI wI n) : PS (XN P w K mg base f cdv A outer s H E) (stN 13) (sT d (psN d pI wI [some (inP _ 0 3), some (inP _ 0 23), some (oaP _), some (odP _ 1 6), some (hsP _ 9 1 6), some (odP _ (-9) 9), some (hsP _ 49 (-9) 9), some (ibP _), some (ilP _ 9 FT), some (NF d), some (lsP 7 7 (NF d))]) (psN d pI wI [some (inP _ 0 3), some (inP _ 0 23), some (oaP _), some (odP _ 1 6), some (hsP _ 9 1 6), some (odP _ (-9) 9), some (hsP _ 49 (-9) 9), some (ibP _), some (ilP _ 9 FT), some (NF d), some (lsP 10 10 (NF d))])) := by
  refine s_set (i := 15) (P := lsP 10 10 (NF d)) (ps := psN d pI wI [some (inP _ 0 3), some (inP _ 0 23), some (oaP _), some (odP _ 1 6), some (hsP _ 9 1 6), some (odP _ (-9) 9), some (hsP _ 49 (-9) 9), some (ibP _), some (ilP _ 9 FT), some (NF d), some (lsP 7 7 (NF d))]) scNoFrame.nd rfl (Or.inl rfl) ?_
  refine e_cat (It := NF d) (l1 := 7) (h1 := 7) (l2 := 3) (h2 := 3) ?_ ?_
  · exact e_var 15 (pv 15)
  refine e_lst (It := NF d) (m := 3) ?_
  refine a_cons (It := NF d) (m := 2) ?_ ?_
  · refine e_tup3 (A := inP _ 2 16) (B := ilP _ 4 (· = pI)) (C := hsP _ 49 (-9) 9) (e_var 2 (pv 2)) (e_var 3 (pv 3)) (e_var 11 (pv 11)) fun H v1 v2 v3 h1 h2 h3 => ?_
    obtain ⟨i, t1, g1⟩ := in_T h1 (by decide) (by decide)
    obtain ⟨ns, rfl, t2, g2⟩ := il_T h2 (by decide)
    obtain ⟨y, t3, g3, hy⟩ := hs_tr (n' := 3) (w' := 7300) (ψ := nzF n) (fun _ h => row_nz h) (by decide) (by decide) _ _ h3
    exact ⟨_, _, _, t1, t2, t3, g1, g2, g3.up (by decide) (by decide), fr_nz hy Fi.sm⟩
  refine a_cons (It := NF d) (m := 1) ?_ ?_
  · refine e_tup3 (A := inP _ 2 16) (B := ilP _ 4 (· = pI)) (C := trP _ 3 7300 (nzF n)) (e_var 2 (pv 2)) (e_var 3 (pv 3)) (e_up (e_catI (L := 24) (M := 1) (e_var 4 (pv 4)) (e_oneI e_int)) (il_tr fun ns h => nz_len (by obtain ⟨xs, ys, rfl, ⟨i, rfl, i0, i1⟩, rfl⟩ := h; have := Fi.wl; rw [List.length_append]; simp; omega))) fun H v1 v2 v3 h1 h2 h3 => ?_
    obtain ⟨i, t1, g1⟩ := in_T h1 (by decide) (by decide)
    obtain ⟨ns, rfl, t2, g2⟩ := il_T h2 (by decide)
    obtain ⟨y, t3, g3, hy⟩ := h3
    exact ⟨_, _, _, t1, t2, t3, g1, g2, g3.up (by decide) (by decide), fr_nz hy Fi.sm⟩
  refine a_cons (It := NF d) (m := 0) ?_ ?_
  · refine e_tup3 (A := inP _ 2 16) (B := ilP _ 4 (· = pI)) (C := trP _ 3 7300 (nzF n)) (e_var 2 (pv 2)) (e_var 3 (pv 3)) (e_up (e_init (L := 24) (e_var 4 (pv 4)) (fun ns h => by subst h; have := Fi.wl; have := Fi.n2; omega)) (il_tr fun ns h => nz_len (by obtain ⟨xs, rfl, h⟩ := h; have := Fi.wl; omega))) fun H v1 v2 v3 h1 h2 h3 => ?_
    obtain ⟨i, t1, g1⟩ := in_T h1 (by decide) (by decide)
    obtain ⟨ns, rfl, t2, g2⟩ := il_T h2 (by decide)
    obtain ⟨y, t3, g3, hy⟩ := h3
    exact ⟨_, _, _, t1, t2, t3, g1, g2, g3.up (by decide) (by decide), fr_nz hy Fi.sm⟩
  exact a_nil
theorem n14 (D1 : Def P w K mg base 1 "_law_take" ["store", "many"] spTake) (hr : Room 1 (XN P w K mg base f cdv A outer s H E).A) (T : Txt mg) (Fi : FI pI wI n) : PS (XN P w K mg base f cdv A outer s H E) (stN 14) (sT d (psN d pI wI [some (inP _ 0 3), some (inP _ 0 23), some (oaP _), some (odP _ 1 6), some (hsP _ 9 1 6), some (odP _ (-9) 9), some (hsP _ 49 (-9) 9), some (ibP _), some (ilP _ 9 FT), some (NF d), some (lsP 10 10 (NF d))]) (psN d pI wI [some (inP _ 0 3), some (inP _ 0 23), some (oaP _), some (odP _ 1 6), some (hsP _ 9 1 6), some (odP _ (-9) 9), some (hsP _ 49 (-9) 9), some (ibP _), some (ilP _ 9 FT), some (NF d), some (lsP 13 13 (NF d))])) := by
  refine s_set (i := 15) (P := lsP 13 13 (NF d)) (ps := psN d pI wI [some (inP _ 0 3), some (inP _ 0 23), some (oaP _), some (odP _ 1 6), some (hsP _ 9 1 6), some (odP _ (-9) 9), some (hsP _ 49 (-9) 9), some (ibP _), some (ilP _ 9 FT), some (NF d), some (lsP 10 10 (NF d))]) scNoFrame.nd rfl (Or.inl rfl) ?_
  refine e_cat (It := NF d) (l1 := 10) (h1 := 10) (l2 := 3) (h2 := 3) ?_ ?_
  · exact e_var 15 (pv 15)
  refine e_lst (It := NF d) (m := 3) ?_
  refine a_cons (It := NF d) (m := 2) ?_ ?_
  · refine e_tup3 (A := inP _ 2 16) (B := ilP _ 1 (fun _ => True)) (C := thP _ 3 26000) (e_var 2 (pv 2)) (e_take1 (L := 4) (e_var 3 (pv 3))) (e_up (e_sliceI (L := 24) (e_var 4 (pv 4)) o_none (o_ix0 (φ := (· = pI)) (L := 4) 3 (pv 3) (fun ns h => by subst h; have := Fi.l2; omega))) il_th) fun H v1 v2 v3 h1 h2 h3 => ?_
    obtain ⟨i, t1, g1⟩ := in_T h1 (by decide) (by decide)
    obtain ⟨a2, ms, rfl, ha, na, l, bb, _⟩ := h2
    obtain ⟨y, t3, g3⟩ := h3
    exact ⟨_, .list (ms.map .int), _, t1, .lst (off_at ha na) (trees_ints' ms), t3, g1, (ints_gd bb l).up (by decide) (by decide), g3, fr_y (yb_len (.inl (by rw [lenD_ints]; omega)))⟩
  refine a_cons (It := NF d) (m := 1) ?_ ?_
  · refine e_tup3 (A := inP _ 2 16) (B := lsP 5 5 (thP _ 0 90)) (C := thP _ 3 26000) (e_var 2 (pv 2)) (e_rep3 (l1 := 1) (h1 := 1) (n := 5) (e_lst (It := thP _ 0 90) (a_cons (e_up e_int in_th0) a_nil)) pe_int) (e_up (e_rep3 (l1 := 1) (h1 := 1) (n := 5) (e_lst (It := thP _ 0 90) (a_cons (e_up e_int in_th0) a_nil)) pe_int) ls_th) fun H v1 v2 v3 h1 h2 h3 => ?_
    obtain ⟨i, t1, g1⟩ := in_T h1 (by decide) (by decide)
    obtain ⟨a, xs, rfl, ha, na, l1, l2, it⟩ := h2
    obtain ⟨dl, ts, a1, a2, a3, a4⟩ := trees_of it
    obtain ⟨y, t3, g3⟩ := h3
    have hl : dl.length = 5 := by rw [← trees_len ts]; omega
    refine ⟨_, .list dl, _, t1, .lst (off_at ha na) ts, t3, g1, ⟨?_, ?_, ?_, ?_⟩, g3, fr_y (yb_len (.inr ?_))⟩
    · simpa only [PyData.showable] using a1
    · simpa only [PyData.leavesShort] using a2
    · simp only [PyData.depth]; omega
    · simp only [PyData.weight]; omega
    · show 4 < dl.length
      omega
  refine a_cons (It := NF d) (m := 0) ?_ ?_
  · refine e_tup3 (A := inP _ 2 16) (B := lsP 0 0 (thP _ 0 90)) (C := thP _ 3 26000) (e_var 2 (pv 2)) (e_lst (It := thP _ 0 90) (m := 0) a_nil) (e_up (e_lst (It := thP _ 0 90) (m := 0) a_nil) ls_th) fun H v1 v2 v3 h1 h2 h3 => ?_
    obtain ⟨i, t1, g1⟩ := in_T h1 (by decide) (by decide)
    obtain ⟨a, xs, rfl, ha, na, l1, l2, it⟩ := h2
    obtain ⟨dl, ts, a1, a2, a3, a4⟩ := trees_of it
    obtain ⟨y, t3, g3⟩ := h3
    have hl : dl.length = 0 := by rw [← trees_len ts]; omega
    refine ⟨_, .list dl, _, t1, .lst (off_at ha na) ts, t3, g1, ⟨?_, ?_, ?_, ?_⟩, g3, fr_y (yb_len (.inl ?_))⟩
    · simpa only [PyData.showable] using a1
    · simpa only [PyData.leavesShort] using a2
    · simp only [PyData.depth]; omega
    · simp only [PyData.weight]; omega
    · show dl.length < 2
      omega
  exact a_nil
theorem n15 (D1 : Def P w K mg base 1 "_law_take" ["store", "many"] spTake) (hr : Room 1 (XN P w K mg base f cdv A outer s H E).A) (T : Txt mg) (Fi : FI pI wI n) : PS (XN P w K mg base f cdv A outer s H E) (stN 15) (sT d (psN d pI wI [some (inP _ 0 3), some (inP _ 0 23), some (oaP _), some (odP _ 1 6), some (hsP _ 9 1 6), some (odP _ (-9) 9), some (hsP _ 49 (-9) 9), some (ibP _), some (ilP _ 9 FT), some (NF d), some (lsP 13 13 (NF d))]) (psN d pI wI [some (inP _ 0 3), some (inP _ 0 23), some (oaP _), some (odP _ 1 6), some (hsP _ 9 1 6), some (odP _ (-9) 9), some (hsP _ 49 (-9) 9), some (ibP _), some (ilP _ 9 FT), some (NF d), some (lsP 16 16 (NF d))])) := by
  refine s_set (i := 15) (P := lsP 16 16 (NF d)) (ps := psN d pI wI [some (inP _ 0 3), some (inP _ 0 23), some (oaP _), some (odP _ 1 6), some (hsP _ 9 1 6), some (odP _ (-9) 9), some (hsP _ 49 (-9) 9), some (ibP _), some (ilP _ 9 FT), some (NF d), some (lsP 13 13 (NF d))]) scNoFrame.nd rfl (Or.inl rfl) ?_
  refine e_cat (It := NF d) (l1 := 13) (h1 := 13) (l2 := 3) (h2 := 3) ?_ ?_
  · exact e_var 15 (pv 15)
  refine e_lst (It := NF d) (m := 3) ?_
  refine a_cons (It := NF d) (m := 2) ?_ ?_
  · refine e_tup3 (A := inP _ 2 16) (B := ilP _ 2 (fun ns => ∃ i j, ns = [i, j] ∧ (1 ≤ i ∧ i ≤ 1) ∧ 6 ≤ j ∧ j ≤ 6)) (C := lsP 6 6 (thP _ 0 90)) (e_var 2 (pv 2)) (e_twoI e_int e_int) (e_rep3 (l1 := 1) (h1 := 1) (n := 6) (e_lst (It := thP _ 0 90) (a_cons (e_up e_int in_th0) a_nil)) pe_int) fun H v1 v2 v3 h1 h2 h3 => ?_
    obtain ⟨i, t1, g1⟩ := in_T h1 (by decide) (by decide)
    obtain ⟨ns, ⟨i1, j1, rfl, hi, hj⟩, t2, g2⟩ := il_T h2 (by decide)
    obtain ⟨a, xs, rfl, ha, na, l1, l2, it⟩ := h3
    obtain ⟨dl, ts, a1, a2, a3, a4⟩ := trees_of it
    have hl : dl.length = 6 := by rw [← trees_len ts]; omega
    refine ⟨_, _, .list dl, t1, t2, .lst (off_at ha na) ts, g1, g2, ⟨?_, ?_, ?_, ?_⟩, ?_⟩
    · simpa only [PyData.showable] using a1
    · simpa only [PyData.leavesShort] using a2
    · simp only [PyData.depth]; omega
    · simp only [PyData.weight]; omega
    · have : decide (((lenD (.list dl) : Nat) : Int) = sumD (.list ([i1, j1].map PyData.int))) = false := by
        rw [sumD_ints]
        refine decide_eq_false ?_
        show ¬ ((dl.length : Nat) : Int) = _
        simp only [List.sum_cons, List.sum_nil]
        omega
      simp only [isFrameD, this, Bool.and_false]
  refine a_cons (It := NF d) (m := 1) ?_ ?_
  · refine e_tup3 (A := inP _ 2 16) (B := trP _ 3 7300 ybF) (C := ilP _ 24 (· = wI)) (e_var 2 (pv 2)) (e_up (e_tupleL (by rfl) T.tuple (e_var 3 (pv 3))) (tr_tr (by decide) (by decide) fun _ h => row_yb (isL_row h))) (e_var 4 (pv 4)) fun H v1 v2 v3 h1 h2 h3 => ?_
    obtain ⟨i, t1, g1⟩ := in_T h1 (by decide) (by decide)
    obtain ⟨y, t2, g2, hy⟩ := h2
    obtain ⟨ms, rfl, t3, g3⟩ := il_T h3 (by decide)
    exact ⟨_, _, _, t1, t2, t3, g1, g2.up (by decide) (by decide), g3, fr_y hy⟩
  refine a_cons (It := NF d) (m := 0) ?_ ?_
  · refine e_tup3 (A := inP _ 2 16) (B := ilP _ 4 (· = pI)) (C := trP _ 3 7300 (nzF n)) (e_var 2 (pv 2)) (e_var 3 (pv 3)) (e_up (e_tupleL (by rfl) T.tuple (e_var 4 (pv 4))) (tr_tr (by decide) (by decide) fun _ h => row_nz (isL_row h))) fun H v1 v2 v3 h1 h2 h3 => ?_
    obtain ⟨i, t1, g1⟩ := in_T h1 (by decide) (by decide)
    obtain ⟨ns, rfl, t2, g2⟩ := il_T h2 (by decide)
    obtain ⟨y, t3, g3, hy⟩ := h3
    exact ⟨_, _, _, t1, t2, t3, g1, g2, g3.up (by decide) (by decide), fr_nz hy Fi.sm⟩
  exact a_nil
theorem n16 (D1 : Def P w K mg base 1 "_law_take" ["store", "many"] spTake) (hr : Room 1 (XN P w K mg base f cdv A outer s H E).A) (T : Txt mg) (Fi : FI pI wI n) : PS (XN P w K mg base f cdv A outer s H E) (stN 16) (sT d (psN d pI wI [some (inP _ 0 3), some (inP _ 0 23), some (oaP _), some (odP _ 1 6), some (hsP _ 9 1 6), some (odP _ (-9) 9), some (hsP _ 49 (-9) 9), some (ibP _), some (ilP _ 9 FT), some (NF d), some (lsP 16 16 (NF d))]) (psN d pI wI [some (inP _ 0 3), some (inP _ 0 23), some (oaP _), some (odP _ 1 6), some (hsP _ 9 1 6), some (odP _ (-9) 9), some (hsP _ 49 (-9) 9), some (ibP _), some (ilP _ 9 FT), some (NF d), some (lsP 18 18 (NF d))])) := by
  refine s_set (i := 15) (P := lsP 18 18 (NF d)) (ps := psN d pI wI [some (inP _ 0 3), some (inP _ 0 23), some (oaP _), some (odP _ 1 6), some (hsP _ 9 1 6), some (odP _ (-9) 9), some (hsP _ 49 (-9) 9), some (ibP _), some (ilP _ 9 FT), some (NF d), some (lsP 16 16 (NF d))]) scNoFrame.nd rfl (Or.inl rfl) ?_
  refine e_cat (It := NF d) (l1 := 16) (h1 := 16) (l2 := 2) (h2 := 2) ?_ ?_
  · exact e_var 15 (pv 15)
  refine e_lst (It := NF d) (m := 2) ?_
  refine a_cons (It := NF d) (m := 1) ?_ ?_
  · refine e_tup3 (A := inP _ 2 16) (B := trP _ 3 7300 ybF) (C := ilP _ 24 (· = wI)) (e_var 2 (pv 2)) (e_up e_nonL (tr_tr (by decide) (by decide) fun _ h => row_yb (isL_row h))) (e_var 4 (pv 4)) fun H v1 v2 v3 h1 h2 h3 => ?_
    obtain ⟨i, t1, g1⟩ := in_T h1 (by decide) (by decide)
    obtain ⟨y, t2, g2, hy⟩ := h2
    obtain ⟨ms, rfl, t3, g3⟩ := il_T h3 (by decide)
    exact ⟨_, _, _, t1, t2, t3, g1, g2.up (by decide) (by decide), g3, fr_y hy⟩
  refine a_cons (It := NF d) (m := 0) ?_ ?_
  · refine e_tup3 (A := inP _ 2 16) (B := ilP _ 4 (· = pI)) (C := trP _ 3 7300 (nzF n)) (e_var 2 (pv 2)) (e_var 3 (pv 3)) (e_up e_nonL (tr_tr (by decide) (by decide) fun _ h => row_nz (isL_row h))) fun H v1 v2 v3 h1 h2 h3 => ?_
    obtain ⟨i, t1, g1⟩ := in_T h1 (by decide) (by decide)
    obtain ⟨ns, rfl, t2, g2⟩ := il_T h2 (by decide)
    obtain ⟨y, t3, g3, hy⟩ := h3
    exact ⟨_, _, _, t1, t2, t3, g1, g2, g3.up (by decide) (by decide), fr_nz hy Fi.sm⟩
  exact a_nil
noncomputable abbrev gen17 : Expr := match stN 17 with
  | .Assign _ (.BinOp _ _ (.ListComp _ gs _ _) _) _ => (match gs with | g :: _ => g.iter | _ => .Constant .none 0 ⟨0, 0, 0, 0⟩)
  | _ => .Constant .none 0 ⟨0, 0, 0, 0⟩
theorem n17i (D1 : Def P w K mg base 1 "_law_take" ["store", "many"] spTake) (hr : Room 1 (XN P w K mg base f cdv A outer s H E).A) (T : Txt mg) (Fi : FI pI wI n) : ET (XN P w K mg base f cdv A outer s H E) d (psN d pI wI [some (inP _ 0 3), some (inP _ 0 23), some (oaP _), some (odP _ 1 6), some (hsP _ 9 1 6), some (odP _ (-9) 9), some (hsP _ 49 (-9) 9), some (ibP _), some (ilP _ 9 FT), some (NF d), some (lsP 18 18 (NF d))]) gen17 (lsP 6 6 (odP _ 2 16)) := by
  refine e_lst (It := odP _ 2 16) (m := 6) ?_
  refine a_cons (It := odP _ 2 16) (m := 5) ?_ ?_
  · exact e_up e_int (in_od (by decide) (by decide) (by decide))
  refine a_cons (It := odP _ 2 16) (m := 4) ?_ ?_
  · exact e_up e_int (in_od (by decide) (by decide) (by decide))
  refine a_cons (It := odP _ 2 16) (m := 3) ?_ ?_
  · exact e_up e_int (in_od (by decide) (by decide) (by decide))
  refine a_cons (It := odP _ 2 16) (m := 2) ?_ ?_
  · exact e_up (e_sub e_int (e_var 2 (pv 2))) (in_od (by decide) (by decide) (by decide))
  refine a_cons (It := odP _ 2 16) (m := 1) ?_ ?_
  · exact e_up (e_var 7 (pv 7)) oa_od
  refine a_cons (It := odP _ 2 16) (m := 0) ?_ ?_
  · exact e_up (e_var 7 (pv 7)) oa_od
  exact a_nil
theorem n18 (D1 : Def P w K mg base 1 "_law_take" ["store", "many"] spTake) (hr : Room 1 (XN P w K mg base f cdv A outer s H E).A) (T : Txt mg) (Fi : FI pI wI n) : PS (XN P w K mg base f cdv A outer s H E) (stN 18) (sT d (psN d pI wI [some (inP _ 0 3), some (inP _ 0 23), some (oaP _), some (odP _ 1 6), some (hsP _ 9 1 6), some (odP _ (-9) 9), some (hsP _ 49 (-9) 9), some (ibP _), some (ilP _ 9 FT), some (NF d), some (lsP 24 24 (NF d))]) (psN d pI wI [some (inP _ 0 3), some (inP _ 0 23), some (oaP _), some (odP _ 1 6), some (hsP _ 9 1 6), some (odP _ (-9) 9), some (hsP _ 49 (-9) 9), some (ibP _), some (ilP _ 9 FT), some (NF d), some (lsP 29 29 (NF d))])) := by
  refine s_set (i := 15) (P := lsP 29 29 (NF d)) (ps := psN d pI wI [some (inP _ 0 3), some (inP _ 0 23), some (oaP _), some (odP _ 1 6), some (hsP _ 9 1 6), some (odP _ (-9) 9), some (hsP _ 49 (-9) 9), some (ibP _), some (ilP _ 9 FT), some (NF d), some (lsP 24 24 (NF d))]) scNoFrame.nd rfl (Or.inl rfl) ?_
  refine e_cat (It := NF d) (l1 := 24) (h1 := 24) (l2 := 5) (h2 := 5) ?_ ?_
  · exact e_var 15 (pv 15)
  refine e_lst (It := NF d) (m := 5) ?_
  refine a_cons (It := NF d) (m := 4) ?_ ?_
  · refine e_tupX (m := 2) ?_
    refine a_cons (It := thP _ 3 19000) (m := 1) ?_ ?_
    · exact e_up (e_var 2 (pv 2)) in_th
    refine a_cons (It := thP _ 3 19000) (m := 0) ?_ ?_
    · exact e_up (e_var 3 (pv 3)) il_th
    exact a_nil
  refine a_cons (It := NF d) (m := 3) ?_ ?_
  · refine e_tupX (m := 4) ?_
    refine a_cons (It := thP _ 3 19000) (m := 3) ?_ ?_
    · exact e_up (e_var 2 (pv 2)) in_th
    refine a_cons (It := thP _ 3 19000) (m := 2) ?_ ?_
    · exact e_up (e_var 3 (pv 3)) il_th
    refine a_cons (It := thP _ 3 19000) (m := 1) ?_ ?_
    · exact e_up (e_var 4 (pv 4)) il_th
    refine a_cons (It := thP _ 3 19000) (m := 0) ?_ ?_
    · refine e_up (P := lsP 0 0 (thP _ 0 90)) ?_ ls_th
      refine e_lst (It := thP _ 0 90) (m := 0) ?_
      exact a_nil
    exact a_nil
  refine a_cons (It := NF d) (m := 2) ?_ ?_
  · refine e_up (P := lsP 3 3 (thP _ 3 19000)) ?_ ls_nf
    refine e_lst (It := thP _ 3 19000) (m := 3) ?_
    refine a_cons (It := thP _ 3 19000) (m := 2) ?_ ?_
    · exact e_up (e_var 2 (pv 2)) in_th
    refine a_cons (It := thP _ 3 19000) (m := 1) ?_ ?_
    · exact e_up (e_var 3 (pv 3)) il_th
    refine a_cons (It := thP _ 3 19000) (m := 0) ?_ ?_
    · exact e_up (e_var 4 (pv 4)) il_th
    exact a_nil
  refine a_cons (It := NF d) (m := 1) ?_ ?_
  · exact e_up (e_up (e_var 3 (pv 3)) il_ls) ls_nf
  refine a_cons (It := NF d) (m := 0) ?_ ?_
  · exact e_up (e_var 2 (pv 2)) in_nf
  exact a_nil
theorem n19 (D1 : Def P w K mg base 1 "_law_take" ["store", "many"] spTake) (hr : Room 1 (XN P w K mg base f cdv A outer s H E).A) (T : Txt mg) (Fi : FI pI wI n) : ET (XN P w K mg base f cdv A outer s H E) d (psN d pI wI [some (inP _ 0 3), some (inP _ 0 23), some (oaP _), some (odP _ 1 6), some (hsP _ 9 1 6), some (odP _ (-9) 9), some (hsP _ 49 (-9) 9), some (ibP _), some (ilP _ 9 FT), some (NF d), some (lsP 29 29 (NF d))]) (asgVal (stN 19)) (NF d) := by
  refine e_ix (l1 := 35) (h1 := 35) (j := 34) (It := NF d) ?_ (e_drawN (lo := 35) (hi := 35) D1 hr (by rfl) (e_var 0 (pv 0)) (e_add (l1 := 29) (h1 := 29) (l2 := 6) (h2 := 6) (e_lenL T.len (by rfl) (e_var 15 (pv 15))) e_int))
  refine e_cat (It := NF d) (l1 := 29) (h1 := 29) (l2 := 6) (h2 := 6) ?_ ?_
  · exact e_var 15 (pv 15)
  refine e_lst (It := NF d) (m := 6) ?_
  refine a_cons (It := NF d) (m := 5) ?_ ?_
  · exact e_nonF
  refine a_cons (It := NF d) (m := 4) ?_ ?_
  · exact e_strF gd_emptys
  refine a_cons (It := NF d) (m := 3) ?_ ?_
  · exact e_empF
  refine a_cons (It := NF d) (m := 2) ?_ ?_
  · refine e_tupX (m := 0) ?_
    exact a_nil
  refine a_cons (It := NF d) (m := 1) ?_ ?_
  · exact e_blF
  refine a_cons (It := NF d) (m := 0) ?_ ?_
  · exact e_strF gd_long
  exact a_nil
end
end Hv
namespace Hv
open PySem L2
section
variable {P : Program} {w : World} {K : PySem.W.Frag} {mg : Str → Option Value} {base : Heap} {f : Addr} {cdv : Value} {A : Around} {outer : List Env} {s : Shared} {H : Hp} {E : XK} {d : Addr} {pI wI : List Int} {n : Nat}
theorem n17 (D1 : Def P w K mg base 1 "_law_take" ["store", "many"] spTake) (hr : Room 1 (XN P w K mg base f cdv A outer s H E).A) (T : Txt mg) (Fi : FI pI wI n) : PS (XN P w K mg base f cdv A outer s H E) (stN 17) (sT d (psN d pI wI [some (inP _ 0 3), some (inP _ 0 23), some (oaP _), some (odP _ 1 6), some (hsP _ 9 1 6), some (odP _ (-9) 9), some (hsP _ 49 (-9) 9), some (ibP _), some (ilP _ 9 FT), some (NF d), some (lsP 18 18 (NF d))]) (psN d pI wI [some (inP _ 0 3), some (inP _ 0 23), some (oaP _), some (odP _ 1 6), some (hsP _ 9 1 6), some (odP _ (-9) 9), some (hsP _ 49 (-9) 9), some (ibP _), some (ilP _ 9 FT), some (NF d), some (lsP 24 24 (NF d))])) := by
  refine s_set (i := 15) (P := lsP 24 24 (NF d)) (ps := psN d pI wI [some (inP _ 0 3), some (inP _ 0 23), some (oaP _), some (odP _ 1 6), some (hsP _ 9 1 6), some (odP _ (-9) 9), some (hsP _ 49 (-9) 9), some (ibP _), some (ilP _ 9 FT), some (NF d), some (lsP 18 18 (NF d))]) scNoFrame.nd rfl (Or.inl rfl) ?_
  refine e_cat (It := NF d) (l1 := 18) (h1 := 18) (l2 := 6) (h2 := 6) (e_var 15 (pv 15)) ?_
  refine weakT (pe_cmp1 (defScope sNoFrame) namN ["parts", "weights"] [3, 4] rfl (pi_list (n17i (d := d) D1 hr T Fi)) (fun cl C s H fp => pf_nil) (fun cl C s H fp => pe_tup (pa_cons (pv 0) (pa_cons (pv 1) (pa_cons (pv 2) pa_nil)))) (by decide +kernel)) fun σ H0 Q c k q => ?_
  refine ⟨c, k, fun v1 H1 S1 k1 p1 => ?_⟩
  obtain ⟨a, xs, rfl, ha, na, l1, l2, it⟩ := p1
  have c1 := c.per k1
  obtain ⟨v3, e3, a3, ns3, rfl, h3, n3, _, b3, z3⟩ := c1.get (i := 3) rfl
  obtain ⟨v4, e4, a4, ns4, rfl, h4, n4, _, b4, z4⟩ := c1.get (i := 4) rfl
  rw [show ns3 = pI from z3] at h3 b3
  rw [show ns4 = wI from z4] at h4 b4
  have g3' := (ints_gd b3 (L := 4) (by have := Fi.l4; omega)).up (n' := 3) (w' := 26000) (by decide) (by decide)
  have g4' := (ints_gd b4 (L := 24) (by have := Fi.wl; have := Fi.n24; omega)).up (n' := 3) (w' := 26000) (by decide) (by decide)
  refine ⟨a, rfl, ⟨_, SqL.of ha⟩, comp_list (K := K) (a := a) (xs := xs) (fun i ys H' => ys.length = i ∧ Same H1 H' ∧ ∀ y ∈ ys, (NF d).holds H' y) ⟨rfl, Same.refl _, fun y hy => by simp at hy⟩ (fun i ys H' _ p => SqL.of (p.2.1 _ _ ha)) ?_ ?_⟩
  · rintro i x ys H' hx ⟨hl, s', hy⟩
    have hil : i < xs.length := (List.getElem?_eq_some_iff.mp hx).1
    have f1 : ((freeSt 1 [3, 4] σ).set 0 (some x))[1]? = some (some (.ref a3)) := by simp [freeSt, e3]
    have f2 : ((freeSt 1 [3, 4] σ).set 0 (some x))[2]? = some (some (.ref a4)) := by simp [freeSt, e4]
    have f0 : ((freeSt 1 [3, 4] σ).set 0 (some x))[0]? = some (some x) := by simp [freeSt]
    refine ⟨szl (by omega), _, f0, _, f1, _, f2, sz (by simp), fun t ht => ⟨by simp [hl], s'.trans (same_upd ht), fun y hy' => ?_⟩⟩
    have st := same_upd (o := .tup [x, .ref a3, .ref a4]) ht
    rcases List.mem_append.mp hy' with hy' | hy'
    · exact (NF d).per _ _ _ (Kp.of st) (hy y hy')
    · have : y = .ref t := by simpa using hy'
      subst this
      have sA := s'.trans st
      obtain ⟨⟨dx, tx, gx⟩, bx⟩ := (odP [d] 2 16).per _ _ _ (Kp.of sA) (it x (List.mem_of_getElem? hx))
      have gx' := gx.up (n' := 3) (w' := 26000) (by decide) (by decide)
      refine ⟨.tuple [dx, .list (pI.map PyData.int), .list (wI.map PyData.int)], .tup (off_at upd_same ((S1.keep s').off1 ht)) (.cons tx (.cons (.lst (off_at (sA _ _ h3) n3) (trees_ints' _)) (.cons (.lst (off_at (sA _ _ h4) n4) (trees_ints' _)) .nil))), ⟨?_, ?_, ?_, ?_⟩, fr_x (by rw [← tree_betw tx]; exact bx)⟩
      · simp only [PyData.showable, PyData.showableAll] at *
        have x3 := g3'.sh
        have x4 := g4'.sh
        have x2 := gx'.sh
        simp only [PyData.showable] at x3 x4
        simp [x2, x3, x4]
      · have x3 := g3'.lv
        have x4 := g4'.lv
        have x2 := gx'.lv
        simp only [PyData.leavesShort] at x3 x4
        simp only [PyData.leavesShort, PyData.leavesShortAll, x2, x3, x4, Bool.and_self]
      · have x3 := g3'.dp
        have x4 := g4'.dp
        have x2 := gx'.dp
        simp only [PyData.depth] at x3 x4
        simp only [PyData.depth, PyData.depthAll]
        omega
      · have x3 := g3'.wt
        have x4 := g4'.wt
        have x2 := gx'.wt
        simp only [PyData.weight] at x3 x4
        simp only [PyData.weight, PyData.weightAll]
        omega
  · rintro ys H' ⟨hl, s', hy⟩ t ht
    have st := same_upd (o := .lst ys) ht
    exact q _ _ (S1.keep (s'.trans st)) (k1.same (s'.trans st)) ⟨t, ys, rfl, upd_same, (S1.keep s').off1 ht, by omega, by omega, fun y hy' => (NF d).per _ _ _ (Kp.of st) (hy y hy')⟩
theorem nEnd (D1 : Def P w K mg base 1 "_law_take" ["store", "many"] spTake) (hr : Room 1 (XN P w K mg base f cdv A outer s H E).A) (T : Txt mg) (Fi : FI pI wI n) : PSs (XN P w K mg base f cdv A outer s H E) [stN 19] (sR d (psN d pI wI [some (inP _ 0 3), some (inP _ 0 23), some (oaP _), some (odP _ 1 6), some (hsP _ 9 1 6), some (odP _ (-9) 9), some (hsP _ 49 (-9) 9), some (ibP _), some (ilP _ 9 FT), some (NF d), some (lsP 29 29 (NF d))]) (NF d)) :=
  weakSs (pss_one (ps_ret (n19 (d := d) D1 hr T Fi))) fun D σ H ⟨c, k, q⟩ => ⟨c, k, fun v H' S' k' hv => q v H' S' k' hv⟩
end
section
variable {P : Program} {w : World} {K : PySem.W.Frag} {mg : Str → Option Value} {base : Heap}
theorem body_eq : defBody sNoFrame = stN 0 :: stN 1 :: stN 2 :: (.Assign [(.Name "odd" ⟨186, 4, 186, 7⟩)] (.Subscript kL (.Call (.Name "_law_take" ⟨186, 75, 186, 84⟩) [(.Name "store" ⟨186, 85, 186, 90⟩), (.Constant (.int 10) 0 ⟨186, 92, 186, 94⟩)] [] ⟨186, 75, 186, 95⟩) ⟨186, 10, 186, 96⟩) ⟨186, 4, 186, 96⟩) :: (defBody sNoFrame).drop 4 := by rw [kL_eq]; rfl
theorem ok_noframe {f : Addr} {fd : FuncData} (F : Fun K "_law_no_frame" "_law_no_frame" sNoFrame f fd) (T : Txt mg) (D1 : Def P w K mg base 1 "_law_take" ["store", "many"] spTake) : FnOk P w K mg base CX0 2 f fd ["store", "frame"] spNoFrame := by
  refine F.ok scNoFrame (fun vs H Q E h => ?_) (fun cdv A outer s H vs Q E hr h => ?_)
  · obtain ⟨d, g, a, c, b, ps, ws, rfl, _⟩ := h; rfl
  · obtain ⟨d, g, a, c, b, ps, ws, rfl, S, G, ng, na, nc, k⟩ := h
    have nd := scNoFrame.nd
    have ok := G.ok
    have Fi := ok.fi
    rw [body_eq]
    refine ⟨_, pss_cons (ps_asg (pv 1) (pg_tup rfl (pgs_cons (pg_name (i := 2) nd rfl (Or.inl rfl)) (pgs_cons (pg_name (i := 3) nd rfl (Or.inr rfl)) (pgs_cons (pg_name (i := 4) nd rfl (Or.inr rfl)) pgs_nil)))))
      (ss_cons (n1 (d := d) (o5 := none) (o6 := none) (o7 := none) (o8 := none) (o9 := none) (o10 := none) (o11 := none) (o12 := none) (o13 := none) (o14 := none) (o15 := none) D1 hr T Fi) (ss_cons (n2 (d := d) D1 hr T Fi) (ss_cons (n3 (d := d) D1 hr T Fi) (ss_cons (n4 (d := d) D1 hr T Fi) (ss_cons (n5 (d := d) D1 hr T Fi) (ss_cons (n6 (d := d) D1 hr T Fi) (ss_cons (n7 (d := d) D1 hr T Fi) (ss_cons (n8 (d := d) D1 hr T Fi) (ss_cons (n9 (d := d) D1 hr T Fi) (ss_cons (n10 (d := d) D1 hr T Fi) (ss_cons (n11 (d := d) D1 hr T Fi) (ss_cons (n12 (d := d) D1 hr T Fi) (ss_cons (n13 (d := d) D1 hr T Fi) (ss_cons (n14 (d := d) D1 hr T Fi) (ss_cons (n15 (d := d) D1 hr T Fi) (ss_cons (n16 (d := d) D1 hr T Fi) (ss_cons (n17 (d := d) D1 hr T Fi) (ss_cons (n18 (d := d) D1 hr T Fi) (nEnd D1 hr T Fi))))))))))))))))))), ?_⟩
    refine ⟨_, rfl, g, _, rfl, SqT.of G.tp, rfl, _, _, rfl, _, _, rfl, _, _, rfl, rfl, ?_⟩
    have C0 : Cp (psN d (ps.map fun (p : Nat) => (p : Int)) ws [none, none, none, none, none, none, none, none, none, none, none]) [some (.ref d), some (.ref g), some (.int (b : Int)), some (.ref a), some (.ref c), none, none, none, none, none, none, none, none, none, none, none] H :=
      .cons (fun P e => by cases e; exact ⟨_, rfl, rfl⟩) (.cons (fun P e => by cases e) (.cons (fun P e => by cases e; exact ⟨_, rfl, _, rfl, by have := ok.b2; omega, by have := ok.b16; omega⟩)
        (.cons (fun P e => by cases e; exact ⟨_, rfl, a, _, rfl, by rw [← natV_eq]; exact G.hp, na, by rw [List.length_map]; exact ok.l4, fun x hx => by have := Fi.p1 x hx; omega, rfl⟩)
        (.cons (fun P e => by cases e; exact ⟨_, rfl, c, _, rfl, G.hw, nc, by have := ok.wl; have := ok.sum; omega, fun x hx => by have := ok.wr x hx; omega, rfl⟩)
        (.cons (fun P e => by cases e) (.cons (fun P e => by cases e) (.cons (fun P e => by cases e) (.cons (fun P e => by cases e) (.cons (fun P e => by cases e) (.cons (fun P e => by cases e) (.cons (fun P e => by cases e) (.cons (fun P e => by cases e) (.cons (fun P e => by cases e) (.cons (fun P e => by cases e) (.cons (fun P e => by cases e) .nil)))))))))))))))
    exact ⟨C0, S, fun v H' S' k' p' => k v H' S' k' p'⟩
end
end Hv
namespace Hv
open PySem L2
theorem trees_app {H : Hp} : ∀ {xs ys : List V} {ds es : List PyData}, Trees H xs ds → Trees H ys es → Trees H (xs ++ ys) (ds ++ es)
  | _, _, _, _, .nil, t => t
  | _, _, _, _, .cons h r, t => .cons h (trees_app r t)
theorem weight_app : ∀ ds es : List PyData, PyData.weightAll (ds ++ es) = PyData.weightAll ds + PyData.weightAll es
  | [], es => by simp [PyData.weightAll]
  | d :: r, es => by simp only [List.cons_append, PyData.weightAll, weight_app r es]; omega
theorem show_app : ∀ {ds es : List PyData}, PyData.showableAll ds = true → PyData.showableAll es = true → PyData.showableAll (ds ++ es) = true
  | [], _, _, h => h
  | d :: r, es, h1, h2 => by
    simp only [List.cons_append, PyData.showableAll, Bool.and_eq_true] at h1 ⊢
    exact ⟨h1.1, show_app h1.2 h2⟩
theorem leaves_app : ∀ {ds es : List PyData}, PyData.leavesShortAll 40 ds = true → PyData.leavesShortAll 40 es = true → PyData.leavesShortAll 40 (ds ++ es) = true
  | [], _, _, h => h
  | d :: r, es, h1, h2 => by
    simp only [List.cons_append, PyData.leavesShortAll, Bool.and_eq_true] at h1 ⊢
    exact ⟨h1.1, leaves_app h1.2 h2⟩
theorem depth_app : ∀ {ds es : List PyData} {n : Nat}, PyData.depthAll ds ≤ n → PyData.depthAll es ≤ n → PyData.depthAll (ds ++ es) ≤ n
  | [], _, _, _, h => h
  | d :: r, es, n, h1, h2 => by
    simp only [List.cons_append, PyData.depthAll] at h1 ⊢
    have := depth_app (ds := r) (es := es) (n := n) (by omega) h2
    omega
theorem FrAt.gd {H : Hp} {f a c : Addr} {b : Nat} {ps : List Nat} {ws : List Int} (G : FrAt H f a c b ps ws) : GD 2 3000 (frT b ps ws) := by
  have ok := G.ok
  have e25 : (10 : Nat) ^ 25 = 10000000000000000000000000 := by decide
  have g3 := ints_gd (ns := ps.map fun (p : Nat) => (p : Int)) (L := 4) (fun n hn => by have := ok.fi.p1 n hn; omega) (by rw [List.length_map]; exact ok.l4)
  have g4 := ints_gd (ns := ws) (L := 24) (fun n hn => by have := ok.wr n hn; omega) (by have := ok.wl; have := ok.sum; omega)
  obtain ⟨dd, t, g2⟩ := Th.int (H := H) (i := (b : Int)) (by have := ok.b16; omega)
  cases t
  have x2 := g2.sh
  have x3 := g3.sh
  have x4 := g4.sh
  have y2 := g2.lv
  have y3 := g3.lv
  have y4 := g4.lv
  have u3 := g3.dp
  have u4 := g4.dp
  have v2 := g2.wt
  have v3 := g3.wt
  have v4 := g4.wt
  unfold frT
  refine ⟨?_, ?_, ?_, ?_⟩
  · simp only [PyData.showable] at x2 x3 x4
    simp only [PyData.showable, PyData.showableAll, x2, x3, x4, Bool.and_self]
  · simp only [PyData.leavesShort] at y2 y3 y4
    simp only [PyData.leavesShort, PyData.leavesShortAll, y2, y3, y4, Bool.and_self]
  · simp only [PyData.depth, PyData.depthAll] at u3 u4 ⊢
    omega
  · simp only [PyData.weight, PyData.weightAll] at v2 v3 v4 ⊢
    omega
noncomputable def fr1P (D : List Addr) : PP D := ⟨fun H v => ∃ f a c b ps ws, v = .ref f ∧ FrAt H f a c b ps ws ∧ f ∉ D ∧ a ∉ D ∧ c ∉ D, fun H H' v k h => by
  obtain ⟨f, a, c, b, ps, ws, e, G, n1, n2, n3⟩ := h
  exact ⟨f, a, c, b, ps, ws, e, G.kp k n1 n2 n3, n1, n2, n3⟩⟩
noncomputable def nsF (d : PyData) : Prop := framesD d = false
noncomputable abbrev NS (d : Addr) : PP [d] := trP _ 5 100000 nsF
theorem fr_off {D : List Addr} {H : Hp} {f a c : Addr} {b : Nat} {ps : List Nat} {ws : List Int} (G : FrAt H f a c b ps ws) (n1 : f ∉ D) (n2 : a ∉ D) (n3 : c ∉ D) : FrAt (Off D H) f a c b ps ws := ⟨off_at G.tp n1, off_at G.hp n2, off_at G.hw n3, G.ok⟩
theorem fr1_th {D : List Addr} : Le (fr1P D) (thP D 2 3000) := fun H v ⟨f, a, c, b, ps, ws, e, G, n1, n2, n3⟩ => by
  subst e
  exact ⟨_, (fr_off G n1 n2 n3).tree, G.gd⟩
theorem fr1_ns {d : Addr} : Le (fr1P [d]) (NS d) := fun H v ⟨f, a, c, b, ps, ws, e, G, n1, n2, n3⟩ => by
  subst e
  exact ⟨_, (fr_off G n1 n2 n3).tree, G.gd.up (by decide) (by decide), rfl⟩
section
variable {X : Cx} {d : Addr} {ps : List (Option (PP [d]))} {e a b c : Expr} {es : List Expr} {pos : Pos}
theorem e_hasF {L M : Nat} {l1 l2 : Nat} {q1 q2 : Pos} (ha : ET X d ps a (lsP l1 L (thP _ 2 3000))) (hb : ET X d ps b (NF d)) (hc : ET X d ps c (lsP l2 M (thP _ 2 3000))) (hz : L + M ≤ 6 := by decide)
    (hs : starEach [b] X.env = (false, eval b X.env) :: starEach [] X.env := by exact star_cons rfl) : ET X d ps (.BinOp (.BinOp a .Add (.List [b] q1) q2) .Add c pos) (NS d) :=
  weakT (pe_op op_cat (pe_op op_cat ha (pe_lst (pa_cons hb pa_nil hs))) hc) fun σ H Q c k q => by
    refine ⟨c, k, fun v1 H1 D1 k1 p1 => ⟨c.per k1, D1, fun v2 H2 D2 k2 p2 => ⟨sz (by simp), fun t ht => ?_⟩⟩⟩
    have s2 := same_upd (o := .lst [v2]) ht
    have u2 : (upd H2 t (.lst [v2])) t = _ := upd_same
    have D3 := D2.keep s2
    have k3 := (k1.trans k2).same s2
    generalize upd H2 t (.lst [v2]) = H3 at s2 u2 D3 k3 ⊢
    obtain ⟨x, xs, rfl, hx, nx, a1, a2, itx⟩ := (lsP l1 L (thP [d] 2 3000)).per _ _ _ (k2.same s2) p1
    have p2 := (NF d).per _ _ _ (Kp.of s2) p2
    refine ⟨x, t, xs, _, rfl, rfl, hx, u2, sz (by simp; omega), fun y hy => ?_⟩
    have s4 := same_upd (o := .lst (xs ++ [v2])) hy
    have u4 : (upd H3 y (.lst (xs ++ [v2]))) y = _ := upd_same
    have ny := D3.off1 hy
    have D4 := D3.keep s4
    generalize upd H3 y (.lst (xs ++ [v2])) = H4 at s4 u4 D4 ⊢
    refine ⟨c.per (k3.same s4), D4, fun v5 H5 D5 k5 p5 => ?_⟩
    obtain ⟨z, zs, rfl, hz5, nz, b1, b2, itz⟩ := p5
    refine ⟨y, z, _, zs, rfl, rfl, k5 _ _ u4 ny, hz5, sz (by simp; omega), fun r hr => q _ _ (D5.keep (same_upd hr)) (((k3.same s4).trans k5).same (same_upd hr)) ?_⟩
    have kk : Kp [d] H3 (upd H5 r (.lst (xs ++ [v2] ++ zs))) := (((Kp.of s4).trans k5).same (same_upd hr))
    obtain ⟨da, ta, w1, w2, w3, w4⟩ := trees_of (fun u hu => (thP [d] 2 3000).per _ _ _ kk (itx u hu))
    obtain ⟨dc, tc, y1, y2, y3, y4⟩ := trees_of (fun u hu => (thP [d] 2 3000).per _ _ _ (Kp.of (same_upd hr)) (itz u hu))
    obtain ⟨db, tb, gb, hb⟩ := (NF d).per _ _ _ kk p2
    have m1 : xs.length * (3000 + 1) ≤ L * (3000 + 1) := Nat.mul_le_mul_right _ a2
    have m2 : zs.length * (3000 + 1) ≤ M * (3000 + 1) := Nat.mul_le_mul_right _ b2
    have gs := gb.sh
    have gl := gb.lv
    have gp := gb.dp
    have gw := gb.wt
    refine ⟨.list (da ++ [db] ++ dc), .lst (off_at upd_same (D5.off1 hr)) (trees_app (trees_app ta (.cons tb .nil)) tc), ⟨?_, ?_, ?_, ?_⟩, ?_⟩
    · simp only [PyData.showable]
      exact show_app (show_app w1 (by simp only [PyData.showableAll, gs, Bool.and_self])) y1
    · simp only [PyData.leavesShort]
      exact leaves_app (leaves_app w2 (by simp only [PyData.leavesShortAll, gl, Bool.and_self])) y2
    · simp only [PyData.depth]
      have := depth_app (n := 4) (depth_app (n := 4) (ds := da) (es := [db]) (by omega) (by simp only [PyData.depthAll]; omega)) (es := dc) (by omega)
      omega
    · simp only [PyData.weight, weight_app, PyData.weightAll]
      omega
    · show framesD _ = false
      have : (da ++ [db] ++ dc).all isFrameD = false := by
        rw [List.all_eq_false]
        exact ⟨db, by simp, by rw [show isFrameD db = false from hb]; decide⟩
      simp only [framesD, this, Bool.and_false]
theorem nf_ns1 {l1 : Nat} : Le (D := [d]) (lsP l1 1 (NF d)) (NS d) := fun H v ⟨a, xs, e, h, na, _, l2, it⟩ => by
  subst e
  cases xs with
  | nil => exact ⟨.list [], .lst (off_at h na) .nil, ⟨rfl, rfl, by decide, by decide⟩, rfl⟩
  | cons x r =>
    have : r = [] := by
      cases r with
      | nil => rfl
      | cons y z => simp at l2
    subst this
    obtain ⟨dd, t, g, hf⟩ := it x List.mem_cons_self
    refine ⟨.list [dd], .lst (off_at h na) (.cons t .nil), ⟨?_, ?_, ?_, ?_⟩, ?_⟩
    · simp only [PyData.showable, PyData.showableAll, g.sh, Bool.and_self]
    · simp only [PyData.leavesShort, PyData.leavesShortAll, g.lv, Bool.and_self]
    · simp only [PyData.depth, PyData.depthAll]; have := g.dp; omega
    · simp only [PyData.weight, PyData.weightAll]; have := g.wt; omega
    · show framesD _ = false
      simp only [framesD, List.all_cons, List.all_nil, Bool.and_true]
      rw [show isFrameD dd = false from hf, Bool.and_false]
theorem e_fr0 {l1 h1 : Nat} {j : _} {q1 : Pos} (ha : ET X d ps a (lsP l1 h1 (fr1P _))) (h0 : 0 < l1 := by decide) : ET X d ps (.Subscript a (.Constant (.int 0) j q1) pos) (fr1P _) := e_ix (j := 0) ha e_int (by omega)
theorem e_nofr {x : Str} {q1 : Pos} {kl : Nat} (DN : Def X.prog X.w X.K X.mg X.base kl x ["store", "frame"] spNoFrame) (hr : Room kl X.A) (hg : Gl X x) (ha : ET X d ps a (rfP _ d)) (hb : ET X d ps b (fr1P _)) (hdb : (x == ("__debug__" : Str)) = false := by decide)
    (hs : starEach [a, b] X.env = (false, eval a X.env) :: starEach [b] X.env := by rfl) (hs2 : starEach [b] X.env = (false, eval b X.env) :: starEach [] X.env := by rfl) (hpl : (backTo pos (starEach [b] X.env)).any (·.1) = false := by rfl) :
    ET X d ps (.Call (.Name x q1) [a, b] [] pos) (NF d) :=
  weakT (pe_fn DN hr hg (pa_cons ha (pa_cons hb pa_nil hs2) hs) hdb hs hpl) fun σ H Q c k q => by
    refine ⟨c, k, fun v1 H1 D1 k1 p1 => ⟨c.per k1, D1, fun v2 H2 D2 k2 p2 => ?_⟩⟩
    obtain ⟨f, a, c', b, ps', ws, rfl, G, n1, n2, n3⟩ := p2
    cases (show v1 = .ref d from p1)
    exact ⟨d, f, a, c', b, ps', ws, rfl, D2, G, n1, n2, n3, fun v H' S' k' hv => q v H' S' ((k1.trans k2).trans k') hv⟩
theorem fs_ls {l1 h1 : Nat} : Le (D := [d]) (lsP l1 h1 (fr1P _)) (lsP l1 h1 (thP _ 2 3000)) := fun H v ⟨a, xs, e, h, na, a1, a2, it⟩ => ⟨a, xs, e, h, na, a1, a2, fun x hx => fr1_th _ _ (it x hx)⟩
theorem e_min2 {l1 h1 l2 h2 : Int} {q1 : Pos} (hc : X.calm = true) (hg : Gl X "min") (hm : X.mg "min" = none) (ha : ET X d ps a (inP _ l1 h1)) (hb : ET X d ps b (inP _ l2 h2)) (h0 : 0 ≤ l1 := by decide) (h0' : 0 ≤ l2 := by decide)
    (hs : starEach [a, b] X.env = (false, eval a X.env) :: starEach [b] X.env := by rfl) (hs2 : starEach [b] X.env = (false, eval b X.env) :: starEach [] X.env := by rfl) (hpl : (backTo pos (starEach [b] X.env)).any (·.1) = false := by rfl) :
    ET X d ps (.Call (.Name "min" q1) [a, b] [] pos) (inP _ 0 h1) :=
  weakT (pe_callB (call_min2 hc) hg hm boot_min (pa_cons ha (pa_cons hb pa_nil hs2) hs) (he := hs) (hpl := hpl)) fun σ H Q c k q => by
    refine ⟨c, k, fun v1 H1 D1 k1 p1 => ⟨c.per k1, D1, fun v2 H2 D2 k2 p2 => ?_⟩⟩
    obtain ⟨i, rfl, i0, i1⟩ := p1
    obtain ⟨j, rfl, j0, j1⟩ := p2
    refine ⟨i, j, rfl, q _ _ D2 (k1.trans k2) ⟨_, rfl, ?_, ?_⟩⟩ <;> split <;> omega
theorem e_four {l1 h1 : Nat} {j1 j2 : _} {q1 q2 q3 q4 : Pos} (ha : ET X d ps a (lsP l1 h1 (thP _ 2 3000))) (h0 : 1 ≤ l1 := by decide) (h3 : h1 ≤ 3 := by decide) : ET X d ps (.Subscript (.BinOp a .Mult (.Constant (.int 4) j1 q1) q2) (.Slice none (some (.Constant (.int 4) j2 q3)) none q4) pos) (NS d) :=
  weakT (pe_slice sl_list (pe_op op_rep ha pe_int) po_none (po_some pe_int)) fun σ H Q c k q => by
    refine ⟨c, k, fun v1 H1 D1 k1 p1 => ?_⟩
    obtain ⟨x, xs, rfl, hx, nx, a1, a2, itx⟩ := p1
    refine ⟨x, 4, xs, rfl, rfl, hx, by decide, by decide, sz (by simp; omega), fun z hz => ⟨4, rfl, z, _, rfl, SqL.of upd_same, fun t ht => ?_⟩⟩
    have s1 := same_upd (o := .lst (List.replicate (4 : Int).toNat xs).flatten) hz
    have s2 := s1.trans (same_upd (o := .lst (cutV (List.replicate (4 : Int).toNat xs).flatten none (some 4))) ht)
    have e1 : cutV (List.replicate (4 : Int).toNat xs).flatten none (some 4) = (List.replicate (4 : Int).toNat xs).flatten.take 4 := L2.cut_to (xs := (List.replicate (4 : Int).toNat xs).flatten) (k := 4)
    have e2 : ((List.replicate (4 : Int).toNat xs).flatten.take 4).length = 4 := by
      rw [List.length_take, len_rep]
      have : (4 : Int).toNat = 4 := rfl
      rw [this]
      omega
    refine q _ _ ((D1.keep s1).keep (same_upd ht)) (k1.same s2) ?_
    obtain ⟨da, ta, w1, w2, w3, w4⟩ := trees_of (xs := (List.replicate (4 : Int).toNat xs).flatten.take 4) (fun u hu => (thP [d] 2 3000).per _ _ _ (Kp.of s2) (itx u (rep_mem (List.mem_of_mem_take hu))))
    have hl : da.length = 4 := by rw [← trees_len ta, e2]
    rw [e2] at w4
    refine ⟨.list da, .lst (off_at (by rw [upd_same, e1]) ((D1.keep s1).off1 ht)) ta, ⟨?_, ?_, ?_, ?_⟩, ?_⟩
    · simpa only [PyData.showable] using w1
    · simpa only [PyData.leavesShort] using w2
    · simp only [PyData.depth]; omega
    · simp only [PyData.weight]; omega
    · show framesD _ = false
      simp only [framesD, hl]
      rfl
theorem e_tupleS {l1 h1 : Nat} {q1 : Pos} (hg : Gl X "tuple") (hm : X.mg "tuple" = none) (ha : ET X d ps a (lsP l1 h1 (thP _ 2 3000))) (h3 : h1 ≤ 3 := by decide) (hs : starEach [a] X.env = (false, eval a X.env) :: starEach [] X.env := by rfl) (hpl : (backTo pos (starEach [] X.env)).any (·.1) = false := by rfl) :
    ET X d ps (.Call (.Name "tuple" q1) [a] [] pos) (NS d) :=
  weakT (pe_callTy call_tuple_of hg hm boot_tuple (pa_cons ha pa_nil hs) (he := hs) (hpl := hpl)) fun σ H Q c k q => by
    refine ⟨c, k, fun v1 H1 D1 k1 p1 => ?_⟩
    obtain ⟨x, xs, rfl, hx, nx, a1, a2, itx⟩ := p1
    refine ⟨x, _, rfl, .inl ⟨SqL.of hx, fun z hz' => q _ _ (D1.keep (same_upd hz')) (k1.same (same_upd hz')) ?_⟩⟩
    obtain ⟨da, ta, w1, w2, w3, w4⟩ := trees_of (fun u hu => (thP [d] 2 3000).per _ _ _ (Kp.of (same_upd hz')) (itx u hu))
    have m1 : xs.length * (3000 + 1) ≤ 3 * (3000 + 1) := Nat.mul_le_mul_right _ (by omega)
    refine ⟨.tuple da, .tup (off_at upd_same (D1.off1 hz')) ta, ⟨?_, ?_, ?_, ?_⟩, rfl⟩
    · simpa only [PyData.showable] using w1
    · simpa only [PyData.leavesShort] using w2
    · simp only [PyData.depth]; omega
    · simp only [PyData.weight]; omega
theorem e_inS {l1 h1 : Nat} (ha : ET X d ps a (lsP l1 h1 (thP _ 2 3000))) (h3 : h1 ≤ 3 := by decide) (hs : starEach [a] X.env = (false, eval a X.env) :: starEach [] X.env := by exact star_cons rfl) : ET X d ps (.List [a] pos) (NS d) :=
  weakT (pe_lst (pa_cons ha pa_nil hs)) fun σ H Q c k q => by
    refine ⟨c, k, fun v1 H1 D1 k1 p1 => ?_⟩
    obtain ⟨x, xs, rfl, hx, nx, a1, a2, itx⟩ := p1
    refine ⟨sz (by simp), fun t ht => q _ _ (D1.keep (same_upd ht)) (k1.same (same_upd ht)) ?_⟩
    have st := same_upd (o := .lst [.ref x]) ht
    obtain ⟨da, ta, w1, w2, w3, w4⟩ := trees_of (fun u hu => (thP [d] 2 3000).per _ _ _ (Kp.of st) (itx u hu))
    have m1 : xs.length * (3000 + 1) ≤ 3 * (3000 + 1) := Nat.mul_le_mul_right _ (by omega)
    refine ⟨.list [.list da], .lst (off_at upd_same (D1.off1 ht)) (.cons (.lst (off_at (st _ _ hx) nx) ta) .nil), ⟨?_, ?_, ?_, ?_⟩, rfl⟩
    · simp only [PyData.showable, PyData.showableAll, w1, Bool.and_self]
    · simp only [PyData.leavesShort, PyData.leavesShortAll, w2, Bool.and_self]
    · simp only [PyData.depth, PyData.depthAll]; omega
    · simp only [PyData.weight, PyData.weightAll]; omega
theorem in_ns {lo hi : Int} (h1 : -10000000000000000000000000 ≤ lo := by decide) (h2 : hi ≤ 10000000000000000000000000 := by decide) : Le (D := [d]) (inP _ lo hi) (NS d) := fun H v ⟨i, e, a, b⟩ => by
  subst e
  have e25 : (10 : Nat) ^ 25 = 10000000000000000000000000 := by decide
  obtain ⟨dd, t, g⟩ := Th.int (H := Off [d] H) (i := i) (by omega)
  cases t
  exact ⟨_, .int i, g.up (by decide) (by decide), rfl⟩
theorem e_blS {t : Bool} {j : _} : ET X d ps (.Constant (.bool t) j pos) (NS d) := e_val pe_bl fun _ => ⟨_, .bl t, ⟨rfl, rfl, Nat.zero_le _, Nat.zero_le _⟩, rfl⟩
theorem e_nonS {j : _} : ET X d ps (.Constant .none j pos) (NS d) := e_val pe_non fun _ => ⟨_, .non, ⟨rfl, rfl, by decide, by decide⟩, rfl⟩
theorem e_strS {x : Str} {j : _} (h : GD 1 100 (.str x)) : ET X d ps (.Constant (.str x) j pos) (NS d) := e_val pe_str fun _ => ⟨_, .str x, h.up (by decide) (by decide), rfl⟩
theorem e_empS : ET X d ps (.Dict [] [] pos) (NS d) := weakT pe_dnewK fun σ H Q c k q => fun z hz' => q _ _ (k.keep (same_upd hz')) (Kp.of (same_upd hz')) ⟨_, .emp (off_at upd_same (k.off1 hz')), ⟨by decide +kernel, by decide +kernel, by decide, by decide⟩, rfl⟩
theorem e_tup0S {x1} : ET X d ps (.Tuple [] x1 pos) (NS d) := weakT (pe_tup pa_nil) fun σ H Q c k q => ⟨sz (by decide), fun z hz' => q _ _ (k.keep (same_upd hz')) (Kp.of (same_upd hz')) ⟨.tuple [], .tup (off_at upd_same (k.off1 hz')) .nil, ⟨rfl, rfl, by decide, by decide⟩, rfl⟩⟩
end
end Hv
namespace Hv
open PySem L2
noncomputable def spNoFrames : Sp := fun vs H Q _ => ∃ (s l : Addr) (as : List A3) (ds : List FD), vs = [.ref s, .ref l] ∧ Store H s ∧ FrsAt H l as ds ∧ l ∉ [s] ∧ (∀ x ∈ as, x.1 ∉ [s] ∧ x.2.1 ∉ [s] ∧ x.2.2 ∉ [s]) ∧ ∀ v H', Store H' s → Kp [s] H H' → (NS s).holds H' v → Q v H'
noncomputable abbrev psF (d : Addr) (l : List (Option (PP [d]))) : List (Option (PP [d])) := some (rfP _ d) :: some (lsP 1 3 (fr1P _)) :: l
noncomputable abbrev namF : List Str := ["store", "frames", "bad", "two", "at", "spot", "some"]
noncomputable abbrev XF (P : Program) (w : World) (K : PySem.W.Frag) (mg : Str → Option Value) (base : Heap) (f : Addr) (cdv : Value) (A : Around) (outer : List Env) (s : Shared) (H : Hp) (E : XK) : Cx := Cx.nox (cxOf CX0 P w K mg base namF "_law_no_frames" (defScope sLawNoFrames) f cdv A outer s H E)
noncomputable abbrev stF (i : Nat) : Stmt := (defBody sLawNoFrames).getD i (.Pass ⟨0, 0, 0, 0⟩)
theorem scNoFrames : FnScope namF ["store", "frames"] (defScope sLawNoFrames) := ⟨rfl, rfl, rfl, by decide +kernel, rfl, by decide +kernel, by decide +kernel⟩
section
variable {P : Program} {w : World} {K : PySem.W.Frag} {mg : Str → Option Value} {base : Heap} {f : Addr} {cdv : Value} {A : Around} {outer : List Env} {s : Shared} {H : Hp} {E : XK} {d : Addr} {o2 o3 o4 o5 o6 : Option (PP [d])}
theorem f0 (DN : Def P w K mg base 2 "_law_no_frame" ["store", "frame"] spNoFrame) (hr : Room 2 (XF P w K mg base f cdv A outer s H E).A) : PS (XF P w K mg base f cdv A outer s H E) (stF 0) (sT d (psF d [o2, o3, o4, o5, o6]) (psF d [some (NF d), o3, o4, o5, o6])) := by
  refine s_set (i := 2) (P := NF d) (ps := psF d [o2, o3, o4, o5, o6]) scNoFrames.nd rfl (Or.inl rfl) ?_
  exact e_nofr DN hr (by rfl) (e_var 0 (pv 0)) (e_fr0 (l1 := 1) (h1 := 3) (e_var 1 (pv 1)))
theorem f1 : PS (XF P w K mg base f cdv A outer s H E) (stF 1) (sT d (psF d [some (NF d), o3, o4, o5, o6]) (psF d [some (NF d), some (lsP 0 3 (thP _ 2 3000)), o4, o5, o6])) := by
  refine s_set (i := 3) (P := lsP 0 3 (thP _ 2 3000)) (ps := psF d [some (NF d), o3, o4, o5, o6]) scNoFrames.nd rfl (Or.inl rfl) ?_
  exact e_slice (l1 := 1) (e_up (e_var 1 (pv 1)) fs_ls) o_none (o_int pe_int)
theorem f2 (D1 : Def P w K mg base 1 "_law_take" ["store", "many"] spTake) (hr : Room 1 (XF P w K mg base f cdv A outer s H E).A) (T : Txt mg) : PS (XF P w K mg base f cdv A outer s H E) (stF 2) (sT d (psF d [some (NF d), some (lsP 0 3 (thP _ 2 3000)), o4, o5, o6]) (psF d [some (NF d), some (lsP 0 3 (thP _ 2 3000)), some (inP _ 0 2), o5, o6])) := by
  refine s_set (i := 4) (P := inP _ 0 2) (ps := psF d [some (NF d), some (lsP 0 3 (thP _ 2 3000)), o4, o5, o6]) scNoFrames.nd rfl (Or.inl rfl) ?_
  exact e_min2 rfl (by rfl) T.min (e_draw D1 hr (by rfl) (e_var 0 (pv 0)) e_int) (e_lenL (l1 := 0) (h1 := 3) T.len (by rfl) (e_var 3 (pv 3)))
theorem f3 (D1 : Def P w K mg base 1 "_law_take" ["store", "many"] spTake) (hr : Room 1 (XF P w K mg base f cdv A outer s H E).A) (T : Txt mg) : PS (XF P w K mg base f cdv A outer s H E) (stF 3) (sT d (psF d [some (NF d), some (lsP 0 3 (thP _ 2 3000)), some (inP _ 0 2), o5, o6]) (psF d [some (NF d), some (lsP 0 3 (thP _ 2 3000)), some (inP _ 0 2), some (inP _ 0 2), o6])) := by
  refine s_set (i := 5) (P := inP _ 0 2) (ps := psF d [some (NF d), some (lsP 0 3 (thP _ 2 3000)), some (inP _ 0 2), o5, o6]) scNoFrames.nd rfl (Or.inl rfl) ?_
  exact e_drawN (lo := 1) (hi := 3) D1 hr (by rfl) (e_var 0 (pv 0)) (e_lenL (l1 := 1) (h1 := 3) T.len (by rfl) (e_var 1 (pv 1)))
theorem f4 : PS (XF P w K mg base f cdv A outer s H E) (stF 4) (sT d (psF d [some (NF d), some (lsP 0 3 (thP _ 2 3000)), some (inP _ 0 2), some (inP _ 0 2), o6]) (psF d [some (NF d), some (lsP 0 3 (thP _ 2 3000)), some (inP _ 0 2), some (inP _ 0 2), some (lsP 8 8 (NS d))])) := by
  refine s_set (i := 6) (P := lsP 8 8 (NS d)) (ps := psF d [some (NF d), some (lsP 0 3 (thP _ 2 3000)), some (inP _ 0 2), some (inP _ 0 2), o6]) scNoFrames.nd rfl (Or.inl rfl) ?_
  refine e_cat (It := NS d) (l1 := 4) (h1 := 4) (l2 := 4) (h2 := 4) ?_ ?_
  · refine e_rep3 (It := NS d) (l1 := 1) (h1 := 1) (n := 4) ?_ pe_int
    refine e_lst (It := NS d) (m := 1) ?_
    refine a_cons (It := NS d) (m := 0) ?_ ?_
    · exact e_hasF (L := 3) (M := 3) (e_slice (l1 := 0) (e_var 3 (pv 3)) o_none (o_var 4 (pv 4))) (e_var 2 (pv 2)) (e_slice (l1 := 0) (e_var 3 (pv 3)) (o_var 4 (pv 4)) o_none)
    exact a_nil
  refine e_lst (It := NS d) (m := 4) ?_
  refine a_cons (It := NS d) (m := 3) ?_ ?_
  · refine e_up (P := lsP 1 1 (NF d)) ?_ nf_ns1
    refine e_lst (It := NF d) (m := 1) ?_
    refine a_cons (It := NF d) (m := 0) ?_ ?_
    · exact e_var 2 (pv 2)
    exact a_nil
  refine a_cons (It := NS d) (m := 2) ?_ ?_
  · exact e_hasF (L := 3) (M := 3) (e_slice (l1 := 1) (e_up (e_var 1 (pv 1)) fs_ls) o_none (o_var 5 (pv 5))) (e_var 2 (pv 2)) (e_slice (l1 := 1) (e_up (e_var 1 (pv 1)) fs_ls) (o_add 5 (pv 5) pe_int) o_none)
  refine a_cons (It := NS d) (m := 1) ?_ ?_
  · refine e_up (P := lsP 0 1 (NF d)) ?_ nf_ns1
    refine e_up (P := lsP 0 0 (NF d)) ?_ (ls_ls (fun _ _ h => h))
    refine e_lst (It := NF d) (m := 0) ?_
    exact a_nil
  refine a_cons (It := NS d) (m := 0) ?_ ?_
  · exact e_four (l1 := 1) (h1 := 3) (e_up (e_var 1 (pv 1)) fs_ls)
  exact a_nil
theorem f5 (D1 : Def P w K mg base 1 "_law_take" ["store", "many"] spTake) (hr : Room 1 (XF P w K mg base f cdv A outer s H E).A) (T : Txt mg) : ET (XF P w K mg base f cdv A outer s H E) d (psF d [o2, o3, o4, o5, some (lsP 8 8 (NS d))]) (asgVal (stF 5)) (NS d) := by
  refine e_ix (l1 := 17) (h1 := 17) (j := 16) (It := NS d) ?_ (e_draw D1 hr (by rfl) (e_var 0 (pv 0)) e_int)
  refine e_cat (It := NS d) (l1 := 8) (h1 := 8) (l2 := 9) (h2 := 9) (e_var 6 (pv 6)) ?_
  refine e_lst (It := NS d) (m := 9) ?_
  refine a_cons (It := NS d) (m := 8) ?_ ?_
  · exact e_tupleS (l1 := 1) (h1 := 3) (by rfl) T.tuple (e_up (e_var 1 (pv 1)) fs_ls)
  refine a_cons (It := NS d) (m := 7) ?_ ?_
  · exact e_nonS
  refine a_cons (It := NS d) (m := 6) ?_ ?_
  · exact e_up e_int in_ns
  refine a_cons (It := NS d) (m := 5) ?_ ?_
  · exact e_strS gd_emptys
  refine a_cons (It := NS d) (m := 4) ?_ ?_
  · exact e_empS
  refine a_cons (It := NS d) (m := 3) ?_ ?_
  · exact e_tup0S
  refine a_cons (It := NS d) (m := 2) ?_ ?_
  · exact e_blS
  refine a_cons (It := NS d) (m := 1) ?_ ?_
  · exact e_inS (l1 := 1) (h1 := 3) (e_up (e_var 1 (pv 1)) fs_ls)
  refine a_cons (It := NS d) (m := 0) ?_ ?_
  · exact e_up (e_fr0 (l1 := 1) (h1 := 3) (e_var 1 (pv 1))) fr1_ns
  exact a_nil
end
theorem FrsAt.fr1 {H : Hp} {l q : Addr} {as : List A3} {ds : List FD} (F : FrsAt H l as ds) (hl : l ∉ [q]) (ha : ∀ x ∈ as, x.1 ∉ [q] ∧ x.2.1 ∉ [q] ∧ x.2.2 ∉ [q]) : (lsP 1 3 (fr1P [q])).holds H (.ref l) := by
  refine ⟨l, _, rfl, F.hl, hl, by rw [List.length_map]; exact F.l1, by rw [List.length_map]; exact F.l3, fun x hx => ?_⟩
  obtain ⟨i, hi⟩ := List.getElem?_of_mem hx
  obtain ⟨a, ha', rfl⟩ := get_ref hi
  obtain ⟨d, _, hf⟩ := paired_mem F.each ha'
  obtain ⟨n1, n2, n3⟩ := ha a (List.mem_of_getElem? ha')
  exact ⟨a.1, a.2.1, a.2.2, d.b, d.ps, d.ws, rfl, hf, n1, n2, n3⟩
section
variable {P : Program} {w : World} {K : PySem.W.Frag} {mg : Str → Option Value} {base : Heap}
theorem ok_noframes {f : Addr} {fd : FuncData} (F : Fun K "_law_no_frames" "_law_no_frames" sLawNoFrames f fd) (T : Txt mg) (D1 : Def P w K mg base 1 "_law_take" ["store", "many"] spTake) (DN : Def P w K mg base 2 "_law_no_frame" ["store", "frame"] spNoFrame) : FnOk P w K mg base CX0 3 f fd ["store", "frames"] spNoFrames := by
  refine F.ok scNoFrames (fun vs H Q E h => ?_) (fun cdv A outer s H vs Q E hr h => ?_)
  · obtain ⟨d, l, as, ds, rfl, _⟩ := h; rfl
  · obtain ⟨d, l, as, ds, rfl, S, G, nl, na, k⟩ := h
    have hr1 : Room 1 (XF P w K mg base f cdv A outer s H E).A := hr.mono (by decide)
    refine ⟨_, ss_cons (f0 (d := d) (o2 := none) (o3 := none) (o4 := none) (o5 := none) (o6 := none) DN hr) (ss_cons (f1 (d := d)) (ss_cons (f2 (d := d) D1 hr1 T) (ss_cons (f3 (d := d) D1 hr1 T) (ss_cons (f4 (d := d)) (weakSs (t' := sR d (psF d [some (NF d), some (lsP 0 3 (thP _ 2 3000)), some (inP _ 0 2), some (inP _ 0 2), some (lsP 8 8 (NS d))]) (NS d)) (pss_one (ps_ret (f5 (d := d) (o2 := some (NF d)) (o3 := some (lsP 0 3 (thP _ 2 3000))) (o4 := some (inP _ 0 2)) (o5 := some (inP _ 0 2)) D1 hr1 T))) fun D σ H ⟨c, k, q⟩ => ⟨c, k, fun v H' S' k' hv => q v H' S' k' hv⟩))))), ?_⟩
    have C0 : Cp (psF d [none, none, none, none, none]) [some (.ref d), some (.ref l), none, none, none, none, none] H :=
      .cons (fun P e => by cases e; exact ⟨_, rfl, rfl⟩) (.cons (fun P e => by cases e; exact ⟨_, rfl, G.fr1 nl na⟩) (.cons (fun P e => by cases e) (.cons (fun P e => by cases e) (.cons (fun P e => by cases e) (.cons (fun P e => by cases e) (.cons (fun P e => by cases e) .nil))))))
    exact ⟨C0, S, fun v H' S' k' p' => k v H' S' k' p'⟩
end
end Hv
namespace Hv
open PySem L2
structure Kind (K : PySem.W.Frag) (c : Nat → Addr) (C : Addr) (i : Nat) : Prop where
  cl : ClsE K C
  lt : i < 10
  kt : ∀ j, j < 10 → PySem.W.kitOne K (.ref C) (.ref (c j)) = some (decide (i = j))
  kv : PySem.W.kitOne K (.ref C) (.type "ValueError") = some true
structure ErrNames (mg : Str → Option Value) (c : Nat → Addr) : Prop where
  n0 : mg "NoFrame" = some (.ref (c 0))
  n1 : mg "NoNumber" = some (.ref (c 1))
  n2 : mg "NoPart" = some (.ref (c 2))
  n3 : mg "NoSum" = some (.ref (c 3))
  n4 : mg "NoMiss" = some (.ref (c 4))
  n5 : mg "NoEven" = some (.ref (c 5))
  n6 : mg "NoFrames" = some (.ref (c 6))
  n7 : mg "NoText" = some (.ref (c 7))
  n8 : mg "NoName" = some (.ref (c 8))
  n9 : mg "NoRow" = some (.ref (c 9))
  ve : mg "ValueError" = none
theorem boot_VE : bootBuiltins "ValueError" = some (.type "ValueError") := by first | exact PyProof.Rows.boot_ValueError | rfl
noncomputable def tK (K : PySem.W.Frag) (c : Addr) : TE := fun σ H Q => ∃ x C b, σ[0]? = some (some (.ref x)) ∧ H x = some (excO x C) ∧ ClsE K C ∧ PySem.W.kitOne K (.ref C) (.ref c) = some b ∧ Q (.bl b) H
theorem pk {X : Cx} {c : Addr} {nm cn : Str} {q0 p q pos : Pos} (hi : X.mg "isinstance" = none) (hm : X.mg nm = some (.ref c)) (hv : PE X (.Name cn q0) (tVar 0)) (hg : Gl X "isinstance") (hg2 : Gl X nm) (hd : (nm == ("__debug__" : Str)) = false := by decide) : PE X (.Call (.Name "isinstance" p) [.Name cn q0, .Name nm q] [] pos) (tK X.K c) :=
  weak (pe_callB call_isiE hg hi boot_isinstance (pa_cons hv (pa_cons (pe_glob (v := .ref c) hg2 hm rfl hd) pa_nil))) fun σ H Q h => by
    obtain ⟨x, C, b, h1, h2, h3, h4, q⟩ := h
    exact ⟨_, h1, x, C, b, _, _, rfl, h2, h3, fun _ r => r, h4, q⟩
noncomputable def wordsL : List Str := ["frame", "number", "part", "sum", "miss", "even", "frames", "text", "name", "row"]
theorem words_ok : (wordsL.all fun x => PyData.canLay0 (.str x)) = true := by decide +kernel
noncomputable def spKind (K : PySem.W.Frag) (c : Nat → Addr) : Sp := fun vs H Q _ => ∃ x C, ∃ i : Nat, ∃ wd : Str, ∃ w : Str, vs = [.ref x, .str w] ∧ PyData.canLay0 (.str w) = true ∧ H x = some (excO x C) ∧ Kind K c C i ∧ wordsL[i]? = some wd ∧ ∀ H', Same H H' → Q (.bl (decide (wd = w))) H'
@[irreducible] def wE : Expr := (.List [(.Constant (.str "frame") 0 ⟨179, 13, 179, 20⟩), (.Constant (.str "number") 0 ⟨179, 22, 179, 30⟩), (.Constant (.str "part") 0 ⟨179, 32, 179, 38⟩), (.Constant (.str "sum") 0 ⟨179, 40, 179, 45⟩), (.Constant (.str "miss") 0 ⟨179, 47, 179, 53⟩), (.Constant (.str "even") 0 ⟨179, 55, 179, 61⟩), (.Constant (.str "frames") 0 ⟨179, 63, 179, 71⟩), (.Constant (.str "text") 0 ⟨179, 73, 179, 79⟩), (.Constant (.str "name") 0 ⟨179, 81, 179, 87⟩), (.Constant (.str "row") 0 ⟨179, 89, 179, 94⟩)] ⟨179, 12, 179, 95⟩)
theorem wE_eq : wE = (.List [(.Constant (.str "frame") 0 ⟨179, 13, 179, 20⟩), (.Constant (.str "number") 0 ⟨179, 22, 179, 30⟩), (.Constant (.str "part") 0 ⟨179, 32, 179, 38⟩), (.Constant (.str "sum") 0 ⟨179, 40, 179, 45⟩), (.Constant (.str "miss") 0 ⟨179, 47, 179, 53⟩), (.Constant (.str "even") 0 ⟨179, 55, 179, 61⟩), (.Constant (.str "frames") 0 ⟨179, 63, 179, 71⟩), (.Constant (.str "text") 0 ⟨179, 73, 179, 79⟩), (.Constant (.str "name") 0 ⟨179, 81, 179, 87⟩), (.Constant (.str "row") 0 ⟨179, 89, 179, 94⟩)] ⟨179, 12, 179, 95⟩) := by unfold wE; rfl
noncomputable def tWords : TE := fun _ H Q => ∀ l, H l = none → Q (.ref l) (upd H l (.lst (wordsL.map V.str)))
theorem pe_words {X : Cx} : PE X wE tWords := by
  rw [wE_eq]
  refine weak (t := tLst (tCons (tC (.str "frame")) (tCons (tC (.str "number")) (tCons (tC (.str "part")) (tCons (tC (.str "sum")) (tCons (tC (.str "miss")) (tCons (tC (.str "even")) (tCons (tC (.str "frames")) (tCons (tC (.str "text")) (tCons (tC (.str "name")) (tCons (tC (.str "row")) tNil))))))))))) ?_ fun σ H Q h => ⟨sz (by decide), fun l hl => h l hl⟩
  refine pe_lst ?_
  refine pa_cons pe_str ?_
  refine pa_cons pe_str ?_
  refine pa_cons pe_str ?_
  refine pa_cons pe_str ?_
  refine pa_cons pe_str ?_
  refine pa_cons pe_str ?_
  refine pa_cons pe_str ?_
  refine pa_cons pe_str ?_
  refine pa_cons pe_str ?_
  refine pa_cons pe_str ?_
  exact pa_nil
theorem eqv_strs (a b : Str) : PyData.eqv (.list [.str a]) (.list [.str b]) = decide (a = b) := by
  simp [PyData.eqv, PyData.eqvAll]
  try rfl
noncomputable abbrev stK (i : Nat) : Stmt := (defBody sLawKind).getD i (.Pass ⟨0, 0, 0, 0⟩)
theorem kbody_eq : defBody sLawKind = stK 0 :: stK 1 :: stK 2 :: .Assign [(.Name "words" ⟨179, 4, 179, 9⟩)] wE ⟨179, 4, 179, 95⟩ :: (defBody sLawKind).drop 4 := by rw [wE_eq]; rfl
section
variable {P : Program} {w : World} {K : PySem.W.Frag} {mg : Str → Option Value} {base : Heap} {c : Nat → Addr}
theorem scKind : FnScope ["e", "due", "kinds", "words", "found"] ["e", "due"] (defScope sLawKind) := ⟨rfl, rfl, rfl, by decide +kernel, rfl, by decide +kernel, by decide +kernel⟩
theorem ok_kind {f : Addr} {fd : FuncData} (F : Fun K "_law_kind" "_law_kind" sLawKind f fd) (T : Txt mg) (N : ErrNames mg c) : FnOk P w K mg base CX0 1 f fd ["e", "due"] (spKind K c) := by
  refine F.ok scKind (fun vs H Q E h => ?_) (fun cdv A outer s H vs Q E hr h => ?_)
  · obtain ⟨x, C, i, wd, wv, rfl, _⟩ := h; rfl
  · obtain ⟨x, C, i, wd, wv, rfl, hok, hx, kd, hw, k⟩ := h
    have hwd : PyData.canLay0 (.str wd) = true := List.all_eq_true.mp words_ok wd (List.mem_of_getElem? hw)
    have nd := scKind.nd
    have hu := hr.units
    have nd2 : List.Nodup (["word", "kind"] : List Str) := by decide +kernel
    rw [kbody_eq]
    refine ⟨_, (pss_cons (ps_set (i := 2) nd rfl (Or.inl rfl) (pe_lst (pa_cons (pk T.isi N.n0 (pv 0) (by rfl) (by rfl)) (pa_cons (pk T.isi N.n1 (pv 0) (by rfl) (by rfl)) (pa_cons (pk T.isi N.n2 (pv 0) (by rfl) (by rfl)) (pa_cons (pk T.isi N.n3 (pv 0) (by rfl) (by rfl)) pa_nil))))))
      (pss_cons (ps_set (i := 2) nd rfl (Or.inl rfl) (pe_op op_cat (pv 2) (pe_lst (pa_cons (pk T.isi N.n4 (pv 0) (by rfl) (by rfl)) (pa_cons (pk T.isi N.n5 (pv 0) (by rfl) (by rfl)) (pa_cons (pk T.isi N.n6 (pv 0) (by rfl) (by rfl)) pa_nil))))))
      (pss_cons (ps_set (i := 2) nd rfl (Or.inl rfl) (pe_op op_cat (pv 2) (pe_lst (pa_cons (pk T.isi N.n7 (pv 0) (by rfl) (by rfl)) (pa_cons (pk T.isi N.n8 (pv 0) (by rfl) (by rfl)) (pa_cons (pk T.isi N.n9 (pv 0) (by rfl) (by rfl)) pa_nil))))))
      (pss_cons (ps_set (i := 3) nd rfl (Or.inl rfl) pe_words (hs := by rw [wE_eq]; rfl))
      (pss_cons (ps_comp (i := 4) (N := ["word", "kind"]) (k := 2) (fr := []) nd rfl (Or.inl rfl) (cmpS (sc := defScope sLawKind) (NX := ["e", "due", "kinds", "words", "found"]) (k := 2) (fr := []) rfl rfl (by decide +kernel)) (cmpF (sc := defScope sLawKind) (NX := ["e", "due", "kinds", "words", "found"]) rfl (by decide +kernel)) rfl (pi_zip (by rfl) T.zip (pv 3) (pv 2)) (fun cl C s H fp => pg_tupK K rfl rfl (pgs_cons (pg_name (i := 0) nd2 rfl (Or.inl rfl)) (pgs_cons (pg_name (i := 1) nd2 rfl (Or.inl rfl)) pgs_nil))) gk_two (fun cl C s H fp => pf_one (pt_val (pv 1))) (fun cl C s H fp => pv 0) (by rfl))
      (pss_one (ps_ret (pe_and (pe_callB call_isiE (by rfl) T.isi boot_isinstance (pa_cons (pv 0) (pa_cons (pe_ty N.ve boot_VE) pa_nil))) (pe_one (pe_cmpR (op_eqD hu) (pv 4) (pe_lst (pa_cons (pv 1) pa_nil)) (nomark _))))))))))), ?_⟩
    refine ⟨x, C, _, rfl, hx, kd.cl, kd.kt 0 (by decide), ⟨x, C, _, rfl, hx, kd.cl, kd.kt 1 (by decide), ⟨x, C, _, rfl, hx, kd.cl, kd.kt 2 (by decide), ⟨x, C, _, rfl, hx, kd.cl, kd.kt 3 (by decide), ⟨sz (by simp), fun l1 hl1 => ?_⟩⟩⟩⟩⟩
    have s1 := same_upd (o := .lst [.bl (decide (i = 0)), .bl (decide (i = 1)), .bl (decide (i = 2)), .bl (decide (i = 3))]) hl1
    have u1 : (upd H l1 (.lst [.bl (decide (i = 0)), .bl (decide (i = 1)), .bl (decide (i = 2)), .bl (decide (i = 3))])) l1 = _ := upd_same
    generalize upd H l1 (.lst [.bl (decide (i = 0)), .bl (decide (i = 1)), .bl (decide (i = 2)), .bl (decide (i = 3))]) = H1 at s1 u1 ⊢
    have hx2 := s1 _ _ hx
    refine ⟨_, rfl, ⟨x, C, _, rfl, hx2, kd.cl, kd.kt 4 (by decide), ⟨x, C, _, rfl, hx2, kd.cl, kd.kt 5 (by decide), ⟨x, C, _, rfl, hx2, kd.cl, kd.kt 6 (by decide), ⟨sz (by simp), fun m2 hm2 => ?_⟩⟩⟩⟩⟩
    have t2 := same_upd (o := .lst [.bl (decide (i = 4)), .bl (decide (i = 5)), .bl (decide (i = 6))]) hm2
    have v2 : (upd H1 m2 (.lst [.bl (decide (i = 4)), .bl (decide (i = 5)), .bl (decide (i = 6))])) m2 = _ := upd_same
    generalize upd H1 m2 (.lst [.bl (decide (i = 4)), .bl (decide (i = 5)), .bl (decide (i = 6))]) = G2 at t2 v2 ⊢
    refine ⟨l1, m2, _, _, rfl, rfl, t2 _ _ u1, v2, sz (by simp), fun l2 hl2 => ?_⟩
    have s2 := (s1.trans t2).trans (same_upd (o := .lst [.bl (decide (i = 0)), .bl (decide (i = 1)), .bl (decide (i = 2)), .bl (decide (i = 3)), .bl (decide (i = 4)), .bl (decide (i = 5)), .bl (decide (i = 6))]) hl2)
    have u2 : (upd G2 l2 (.lst [.bl (decide (i = 0)), .bl (decide (i = 1)), .bl (decide (i = 2)), .bl (decide (i = 3)), .bl (decide (i = 4)), .bl (decide (i = 5)), .bl (decide (i = 6))])) l2 = _ := upd_same
    generalize hH2 : upd G2 l2 (.lst [.bl (decide (i = 0)), .bl (decide (i = 1)), .bl (decide (i = 2)), .bl (decide (i = 3)), .bl (decide (i = 4)), .bl (decide (i = 5)), .bl (decide (i = 6))]) = H2 at s2 u2
    rw [show upd G2 l2 (.lst ([.bl (decide (i = 0)), .bl (decide (i = 1)), .bl (decide (i = 2)), .bl (decide (i = 3))] ++ [.bl (decide (i = 4)), .bl (decide (i = 5)), .bl (decide (i = 6))])) = H2 from hH2]
    have hx3 := s2 _ _ hx
    refine ⟨_, rfl, ⟨x, C, _, rfl, hx3, kd.cl, kd.kt 7 (by decide), ⟨x, C, _, rfl, hx3, kd.cl, kd.kt 8 (by decide), ⟨x, C, _, rfl, hx3, kd.cl, kd.kt 9 (by decide), ⟨sz (by simp), fun m3 hm3 => ?_⟩⟩⟩⟩⟩
    have t3 := same_upd (o := .lst [.bl (decide (i = 7)), .bl (decide (i = 8)), .bl (decide (i = 9))]) hm3
    have v3 : (upd H2 m3 (.lst [.bl (decide (i = 7)), .bl (decide (i = 8)), .bl (decide (i = 9))])) m3 = _ := upd_same
    generalize upd H2 m3 (.lst [.bl (decide (i = 7)), .bl (decide (i = 8)), .bl (decide (i = 9))]) = G3 at t3 v3 ⊢
    refine ⟨l2, m3, _, _, rfl, rfl, t3 _ _ u2, v3, sz (by simp), fun l3 hl3 => ?_⟩
    have s3 := (s2.trans t3).trans (same_upd (o := .lst [.bl (decide (i = 0)), .bl (decide (i = 1)), .bl (decide (i = 2)), .bl (decide (i = 3)), .bl (decide (i = 4)), .bl (decide (i = 5)), .bl (decide (i = 6)), .bl (decide (i = 7)), .bl (decide (i = 8)), .bl (decide (i = 9))]) hl3)
    have u3 : (upd G3 l3 (.lst [.bl (decide (i = 0)), .bl (decide (i = 1)), .bl (decide (i = 2)), .bl (decide (i = 3)), .bl (decide (i = 4)), .bl (decide (i = 5)), .bl (decide (i = 6)), .bl (decide (i = 7)), .bl (decide (i = 8)), .bl (decide (i = 9))])) l3 = _ := upd_same
    generalize hH3 : upd G3 l3 (.lst [.bl (decide (i = 0)), .bl (decide (i = 1)), .bl (decide (i = 2)), .bl (decide (i = 3)), .bl (decide (i = 4)), .bl (decide (i = 5)), .bl (decide (i = 6)), .bl (decide (i = 7)), .bl (decide (i = 8)), .bl (decide (i = 9))]) = H3 at s3 u3
    rw [show upd G3 l3 (.lst ([.bl (decide (i = 0)), .bl (decide (i = 1)), .bl (decide (i = 2)), .bl (decide (i = 3)), .bl (decide (i = 4)), .bl (decide (i = 5)), .bl (decide (i = 6))] ++ [.bl (decide (i = 7)), .bl (decide (i = 8)), .bl (decide (i = 9))])) = H3 from hH3]
    have ek : ([.bl (decide (i = 0)), .bl (decide (i = 1)), .bl (decide (i = 2)), .bl (decide (i = 3)), .bl (decide (i = 4)), .bl (decide (i = 5)), .bl (decide (i = 6)), .bl (decide (i = 7)), .bl (decide (i = 8)), .bl (decide (i = 9))] : List V) = (List.range 10).map fun j => V.bl (decide (i = j)) := rfl
    rw [ek] at u3
    -- words
    intro q hq
    have s4 := s3.trans (same_upd (o := .lst (wordsL.map V.str)) hq)
    have u4 : (upd H3 q (.lst (wordsL.map V.str))) q = _ := upd_same
    have k4 : (upd H3 q (.lst (wordsL.map V.str))) l3 = _ := (same_upd (o := .lst (wordsL.map V.str)) hq) _ _ u3
    generalize upd H3 q (.lst (wordsL.map V.str)) = H4 at s4 u4 k4 ⊢
    refine ⟨_, rfl, _, rfl, q, l3, rfl, rfl, ⟨_, SqL.of u4⟩, ⟨_, SqL.of k4⟩, comp_zip (K := K) (a := q) (b := l3) (xs := wordsL.map V.str) (ys := (List.range 10).map fun j => V.bl (decide (i = j)))
      (fun m zs H' => zs = (if i < m then [V.str wd] else []) ∧ Same H4 H') rfl ⟨by simp, Same.refl _⟩ (fun m zs H' _ p => ⟨SqL.of (p.2 _ _ u4), SqL.of (p.2 _ _ k4)⟩)
      (fun m zs H' hi p => szl (by rw [p.1]; split <;> simp)) ?_ ?_⟩
    · rintro m x1 y1 zs H' t hx1 hy1 ⟨rfl, s'⟩ ht
      obtain ⟨w1, hw1, rfl⟩ : ∃ w1, wordsL[m]? = some w1 ∧ x1 = .str w1 := by
        rw [List.getElem?_map] at hx1
        cases e : wordsL[m]? with
        | none => rw [e] at hx1; cases hx1
        | some d => rw [e] at hx1; exact ⟨d, rfl, (Option.some.inj hx1).symm⟩
      have hm : m < 10 := (List.getElem?_eq_some_iff.mp hw1).1
      have ey : y1 = V.bl (decide (i = m)) := by
        rw [List.getElem?_map, List.getElem?_range hm] at hy1
        exact (Option.some.inj hy1).symm
      subst ey
      have st := s'.trans (same_upd (o := .tup [.str w1, .bl (decide (i = m))]) ht)
      refine ⟨t, _, rfl, SqT.of upd_same, rfl, _, _, rfl, _, _, rfl, rfl, _, rfl, _, rfl, ?_⟩
      refine ite2 (fun h => ?_) (fun h => ?_)
      · have e : i = m := of_decide_eq_true h
        subst e
        have ew : w1 = wd := by rw [hw] at hw1; exact (Option.some.inj hw1).symm
        subst ew
        refine ⟨_, rfl, ?_, st⟩
        rw [if_neg (by omega), if_pos (by omega)]
        rfl
      · have e : ¬ i = m := fun z => h (decide_eq_true z)
        refine ⟨?_, st⟩
        by_cases h2 : i < m
        · rw [if_pos h2, if_pos (by omega)]
        · rw [if_neg h2, if_neg (by omega)]
    rintro zs H' ⟨rfl, s'⟩ r hr'
    have hi10 : i < (wordsL.map V.str).length := kd.lt
    rw [if_pos hi10]
    have s5 := s4.trans (s'.trans (same_upd (o := .lst [.str wd]) hr'))
    have u5 : (upd H' r (.lst [.str wd])) r = _ := upd_same
    generalize upd H' r (.lst [.str wd]) = H5 at s5 u5 ⊢
    refine ⟨_, rfl, x, C, _, _, _, rfl, s5 _ _ hx, kd.cl, fun _ r => r, kd.kv, true, rfl, iteT ?_⟩
    refine ⟨_, rfl, _, rfl, sz (by simp), fun p hp => ?_⟩
    have s6 := s5.trans (same_upd (o := .lst [.str wv]) hp)
    refine ⟨.list [.str wd], .list [.str wv], datL ((same_upd (o := .lst [.str wv]) hp) _ _ u5) (.cons (datS wd) .nil), datL upd_same (.cons (datS wv) .nil), ⟨by simp only [PyData.canLay0, PyData.canLayAll0] at hwd ⊢; simp [hwd], by simp only [PyData.canLay0, PyData.canLayAll0] at hok ⊢; simp [hok], by simp [PyData.depth, PyData.depthAll]⟩, ?_⟩
    rw [if_neg (by decide), eqv_strs]
    exact k _ s6
end
end Hv
namespace Hv
open PySem L2
noncomputable abbrev namW : List Str := ["door", "frames", "n", "caught", "e"]
noncomputable abbrev XW (P : Program) (w : World) (K : PySem.W.Frag) (mg : Str → Option Value) (base : Heap) (f : Addr) (cdv : Value) (A : Around) (outer : List Env) (s : Shared) (H : Hp) (E : XK) : Cx := Cx.nox (cxOf CX0 P w K mg base namW "_law_word" (defScope sLawWord) f cdv A outer s H E)
noncomputable abbrev stW (i : Nat) : Stmt := (defBody sLawWord).getD i (.Pass ⟨0, 0, 0, 0⟩)
theorem scWord : FnScope namW ["door", "frames", "n"] (defScope sLawWord) := ⟨rfl, rfl, rfl, by decide +kernel, rfl, by decide +kernel, by decide +kernel⟩
noncomputable def tWT (K : PySem.W.Frag) (c : Nat → Addr) : TS := fun D σ H => (σ[3]? = some (some .non) ∧ D.rt (.str "") H) ∨ ∃ x C, ∃ i : Nat, ∃ wd : Str, σ[3]? = some (some (.ref x)) ∧ H x = some (excO x C) ∧ Kind K c C i ∧ ((i = 6 ∧ wd = "frames") ∨ (i = 1 ∧ wd = "number")) ∧ ∀ H', Same H H' → D.rt (.str wd) H'
theorem lay_frames : PyData.canLay0 (.str "frames") = true := by decide +kernel
theorem lay_number : PyData.canLay0 (.str "number") = true := by decide +kernel
theorem ne_words : ¬ (("number" : Str) = "frames") := by decide +kernel
section
variable {P : Program} {w : World} {K : PySem.W.Frag} {mg : Str → Option Value} {base : Heap} {c : Nat → Addr}
theorem word_tail {f : Addr} {cdv : Value} {A : Around} {outer : List Env} {s : Shared} {H : Hp} {E : XK} (DK : Def P w K mg base 1 "_law_kind" ["e", "due"] (spKind K c)) (hr : Room 1 (XW P w K mg base f cdv A outer s H E).A) : PSs (XW P w K mg base f cdv A outer s H E) [stW 2, stW 3] (tWT K c) := by
  refine weakSs (pss_cons (ps_if (pt_cmpR op_isN (pv 3) pe_non (nomark _)) (pss_one (ps_ret pe_str)) pss_nil)
    (pss_one (ps_ret (ixl (pe_op op_cat (pe_cmp1 (defScope sLawWord) namW ["caught"] [3] rfl (pi_list (pe_lst (pa_cons pe_str (pa_cons pe_str pa_nil)))) (fun cl C s H fp => pf_one (pt_val (pe_fn DK hr (by rfl) (pa_cons (pv 1) (pa_cons (pv 0) pa_nil))))) (fun cl C s H fp => pv 0) (by decide +kernel)) (pe_lst (pa_cons pe_str pa_nil))) pe_int)))) fun D σ H h => ?_
  rcases h with ⟨e3, k⟩ | ⟨x, C, i, wd, e3, hx, kd, hi, k⟩
  · exact ⟨_, e3, rfl, _, rfl, iteT k⟩
  · refine ⟨_, e3, rfl, _, rfl, iteF ?_⟩
    refine ⟨sz (by simp), fun l hl => ?_⟩
    have s1 := same_upd (o := .lst [.str "frames", .str "number"]) hl
    have u1 : (upd H l (.lst [.str "frames", .str "number"])) l = _ := upd_same
    generalize upd H l (.lst [.str "frames", .str "number"]) = H1 at s1 u1 ⊢
    have hwi : wordsL[i]? = some wd := by
      rcases hi with ⟨rfl, rfl⟩ | ⟨rfl, rfl⟩ <;> rfl
    refine ⟨l, rfl, ⟨_, SqL.of u1⟩, comp_list (K := K) (a := l) (xs := [.str "frames", .str "number"]) (fun m ys H' => ys = (if i = 6 then (if m = 0 then [] else [V.str "frames"]) else (if m = 2 then [V.str "number"] else [])) ∧ Same H1 H') ⟨by split <;> rfl, Same.refl _⟩ (fun m ys H' _ p => SqL.of (p.2 _ _ u1)) ?_ ?_⟩
    · rintro m y ys H' hy ⟨rfl, s'⟩
      have f1 : ((freeSt 1 [3] σ).set 0 (some y))[1]? = some (some (.ref x)) := by simp [freeSt, e3]
      have f0 : ((freeSt 1 [3] σ).set 0 (some y))[0]? = some (some y) := by simp [freeSt]
      have hm : m < 2 := (List.getElem?_eq_some_iff.mp hy).1
      have h2 : (m = 0 ∧ y = .str "frames") ∨ (m = 1 ∧ y = .str "number") := by
        have : m = 0 ∨ m = 1 := by omega
        rcases this with rfl | rfl
        · exact .inl ⟨rfl, (Option.some.inj hy).symm⟩
        · exact .inr ⟨rfl, (Option.some.inj hy).symm⟩
      have hx1 := s' _ _ (s1 _ _ hx)
      refine ⟨szl (by split <;> split <;> simp), ?_⟩
      rcases h2 with ⟨rfl, rfl⟩ | ⟨rfl, rfl⟩
      · refine ⟨_, f1, _, f0, x, C, i, wd, "frames", rfl, lay_frames, hx1, kd, hwi, fun H2 s2 => ?_⟩
        rcases hi with ⟨rfl, rfl⟩ | ⟨rfl, rfl⟩
        · rw [decide_eq_true rfl]
          exact ⟨true, rfl, _, f0, rfl, s'.trans s2⟩
        · rw [decide_eq_false ne_words]
          exact ⟨false, rfl, rfl, s'.trans s2⟩
      · refine ⟨_, f1, _, f0, x, C, i, wd, "number", rfl, lay_number, hx1, kd, hwi, fun H2 s2 => ?_⟩
        rcases hi with ⟨rfl, rfl⟩ | ⟨rfl, rfl⟩
        · rw [decide_eq_false (fun z => ne_words z.symm)]
          exact ⟨false, rfl, rfl, s'.trans s2⟩
        · rw [decide_eq_true rfl]
          exact ⟨true, rfl, _, f0, rfl, s'.trans s2⟩
    · rintro ys H' ⟨rfl, s'⟩ t ht
      have ey : (if i = 6 then (if [V.str "frames", V.str "number"].length = 0 then [] else [V.str "frames"]) else (if [V.str "frames", V.str "number"].length = 2 then [V.str "number"] else [])) = [V.str wd] := by
        rcases hi with ⟨rfl, rfl⟩ | ⟨rfl, rfl⟩ <;> rfl
      rw [ey]
      have s2 := (s1.trans s').trans (same_upd (o := .lst [.str wd]) ht)
      have u2 : (upd H' t (.lst [.str wd])) t = _ := upd_same
      generalize upd H' t (.lst [.str wd]) = H2 at s2 u2 ⊢
      refine ⟨sz (by simp), fun p hp => ⟨t, p, _, _, rfl, rfl, (same_upd (o := .lst [.str "other"]) hp) _ _ u2, upd_same, sz (by simp), fun r hr' => ?_⟩⟩
      exact ⟨_, _, _, _, rfl, rfl, SqL.of upd_same, rfl, k _ ((s2.trans (same_upd hp)).trans (same_upd hr'))⟩
noncomputable def spWord (c : Nat → Addr) : Sp := fun vs H Q _ => ∃ (door : Int) (v n : V), vs = [.int door, v, n] ∧ (door = 0 ∨ door = 1 ∨ door = 2) ∧
  ((∃ l as ds, v = .ref l ∧ FrsAt H l as ds ∧ Thing H n ∧ (door = 0 ∨ ∃ m : Nat, n = .int m ∧ m ≤ 3000) ∧ ∀ H', Same H H' → Q (.str "") H') ∨
   (∃ d, Tree H v d ∧ Sh d ∧ framesD d = false ∧ ∀ H', Same H H' → Q (.str "frames") H') ∨
   (∃ l as ds, v = .ref l ∧ FrsAt H l as ds ∧ Thing H n ∧ ((door = 1 ∧ badN n) ∨ (door = 2 ∧ badB n)) ∧ ∀ H', Same H H' → Q (.str "number") H'))
theorem two_door {spG : Sp} {H : Hp} {v n : V} {c6 c1 : Addr} {bad : V → Prop} {NX : Hp → Prop} {EX : XK} (hG : ∀ l as ds (m : Nat) (Q : VK) (E : XK), FrsAt H l as ds → m ≤ 3000 → (∀ v H', Same H H' → Q v H') → spG [.ref l, .int m] H Q E)
    (h : (∃ l as ds, v = .ref l ∧ FrsAt H l as ds ∧ (∃ m : Nat, n = .int m ∧ m ≤ 3000) ∧ ∀ H', Same H H' → NX H') ∨ (∃ d, Tree H v d ∧ Sh d ∧ framesD d = false ∧ ∀ H', Same H H' → EX (.ref c6) none H') ∨
      (∃ l as ds, v = .ref l ∧ FrsAt H l as ds ∧ Thing H n ∧ bad n ∧ ∀ H', Same H H' → EX (.ref c1) none H')) : spOr spG (spOr (spNoFs2 c6) (spNoNf c1 bad)) [v, n] H (fun _ H2 => NX H2) EX := by
  rcases h with ⟨l, as, ds, rfl, G, ⟨m, rfl, hm⟩, k⟩ | ⟨d, t, hs, hf, k⟩ | ⟨l, as, ds, rfl, G, tn, hb, k⟩
  · exact .inl (hG l as ds m _ _ G hm fun _ H' s' => k H' s')
  · exact .inr (.inl ⟨v, n, d, rfl, t, hs, hf, k⟩)
  · exact .inr (.inr ⟨l, as, ds, n, rfl, G, tn, hb, k⟩)
theorem ok_word {f : Addr} {fd : FuncData} {B : Addr} (F : Fun K "_law_word" "_law_word" sLawWord f fd) (hB : mg "HalfError" = some (.ref B)) (U1 : Up K (c 1) B) (U6 : Up K (c 6) B) (k1 : Kind K c (c 1) 1) (k6 : Kind K c (c 6) 6) (DK : Def P w K mg base 1 "_law_kind" ["e", "due"] (spKind K c))
    (D0 : Def1 P w K mg base 14 "keeps_all" ["frames", "thing"] (spOr spKeepsAll (spNoFs2 (c 6)))) (D1 : Def1 P w K mg base 14 "next_keeping" ["frames", "n"] (spOr spNextKeeping (spOr (spNoFs2 (c 6)) (spNoNf (c 1) badN))))
    (D2 : Def1 P w K mg base 14 "all_keeping" ["frames", "n"] (spOr spAllKeeping (spOr (spNoFs2 (c 6)) (spNoNf (c 1) badB)))) : FnOk P w K mg base CX0 15 f fd ["door", "frames", "n"] (spWord c) := by
  refine F.ok scWord (fun vs H Q E h => ?_) (fun cdv A outer s H vs Q E hr h => ?_)
  · obtain ⟨door, v, n, rfl, _⟩ := h; rfl
  · obtain ⟨door, v, n, rfl, hd, h⟩ := h
    have nd := scWord.nd
    have hr1 : Room 1 (XW P w K mg base f cdv A outer s H E).A := hr.mono (by decide)
    refine ⟨_, pss_cons (ps_set (i := 3) nd rfl (Or.inr rfl) pe_non)
      (pss_cons (ps_try (ie := 4) (pxs_one (px_if (pt_cmpR op_eq (pv 0) pe_int (nomark _)) (pxs_one (px_fn D0 hr (by rfl) (pa_cons (pv 1) (pa_cons (pv 2) pa_nil))))
          (pxs_one (px_if (pt_cmpR op_eq (pv 0) pe_int (nomark _)) (pxs_one (px_fn D1 hr (by rfl) (pa_cons (pv 1) (pa_cons (pv 2) pa_nil))))
          (pxs_one (px_fn D2 hr (by rfl) (pa_cons (pv 1) (pa_cons (pv 2) pa_nil)))))))) rfl rfl rfl nd rfl (Or.inl rfl) rfl rfl (Or.inl rfl) (by rfl) hB
          (fun v => pss_one (ps_set (i := 3) nd rfl (Or.inr rfl) (pv 4))))
      (word_tail DK hr1)), ?_⟩
    have hN : (∀ H', Same H H' → Q (.str "") H') → ∀ H', Same H H' → tWT K c { nx := fun x H' => Q V.non H', rt := Q } [some (.int door), some v, some n, some .non, none] H' := fun k H' s' => .inl ⟨rfl, k H' s'⟩
    have hE : ∀ (j : Nat) (wd : Str), Up K (c j) B → Kind K c (c j) j → ((j = 6 ∧ wd = "frames") ∨ (j = 1 ∧ wd = "number")) → (∀ H', Same H H' → Q (.str wd) H') → ∀ H', Same H H' → ∃ A, Value.ref (c j) = Value.ref A ∧ Up K A B ∧ ∀ x, H' x = none → ∃ u, (([some (.int door), some v, some n, some .non, none] : St).set 4 (some (.ref x)))[4]? = some (some u) ∧ tWT K c { nx := fun x H' => Q V.non H', rt := Q } (((([some (.int door), some v, some n, some .non, none] : St).set 4 (some (.ref x))).set 3 (some u)).set 4 none) (upd H' x (excO x A)) :=
      fun j wd U kd hj k H' s' => ⟨_, rfl, U, fun x hx => ⟨_, rfl, .inr ⟨x, c j, j, wd, rfl, upd_same, kd, hj, fun H2 s2 => k H2 ((s'.trans (same_upd hx)).trans s2)⟩⟩⟩
    rcases hd with rfl | rfl | rfl
    · refine ⟨_, rfl, rfl, _, rfl, iteT ⟨_, rfl, _, rfl, ?_⟩⟩
      rcases h with ⟨l, as, ds, rfl, G, tn, _, k⟩ | ⟨d, t, hs, hf, k⟩ | ⟨l, as, ds, rfl, G, tn, hb, k⟩
      · exact .inl ⟨l, as, ds, n, rfl, G, tn, fun H' s' => hN k H' s'⟩
      · exact .inr ⟨v, n, d, rfl, t, hs, hf, hE 6 "frames" U6 k6 (.inl ⟨rfl, rfl⟩) k⟩
      · exfalso
        rcases hb with ⟨z, _⟩ | ⟨z, _⟩ <;> exact absurd z (by decide)
    · refine ⟨_, rfl, rfl, _, rfl, iteF ⟨_, rfl, rfl, _, rfl, iteT ⟨_, rfl, _, rfl, two_door ?_ ?_⟩⟩⟩
      · exact fun l as ds m Q E G hm k => ⟨l, as, ds, m, rfl, G, fun H' s' => k _ H' s'⟩
      · rcases h with ⟨l, as, ds, rfl, G, tn, hm, k⟩ | ⟨d, t, hs, hf, k⟩ | ⟨l, as, ds, rfl, G, tn, hb, k⟩
        · exact .inl ⟨l, as, ds, rfl, G, hm.elim (fun z => absurd z (by decide)) id, hN k⟩
        · exact .inr (.inl ⟨d, t, hs, hf, hE 6 "frames" U6 k6 (.inl ⟨rfl, rfl⟩) k⟩)
        · exact .inr (.inr ⟨l, as, ds, rfl, G, tn, hb.elim (fun z => z.2) (fun z => absurd z.1 (by decide)), hE 1 "number" U1 k1 (.inr ⟨rfl, rfl⟩) k⟩)
    · refine ⟨_, rfl, rfl, _, rfl, iteF ⟨_, rfl, rfl, _, rfl, iteF ⟨_, rfl, _, rfl, two_door ?_ ?_⟩⟩⟩
      · exact fun l as ds m Q E G hm k => ⟨l, as, ds, m, rfl, G, hm, fun r H' _ s' _ => k _ H' s'⟩
      · rcases h with ⟨l, as, ds, rfl, G, tn, hm, k⟩ | ⟨d, t, hs, hf, k⟩ | ⟨l, as, ds, rfl, G, tn, hb, k⟩
        · exact .inl ⟨l, as, ds, rfl, G, hm.elim (fun z => absurd z (by decide)) id, hN k⟩
        · exact .inr (.inl ⟨d, t, hs, hf, hE 6 "frames" U6 k6 (.inl ⟨rfl, rfl⟩) k⟩)
        · exact .inr (.inr ⟨l, as, ds, rfl, G, tn, hb.elim (fun z => absurd z.1 (by decide)) (fun z => z.2), hE 1 "number" U1 k1 (.inr ⟨rfl, rfl⟩) k⟩)
end
end Hv
namespace Hv
open PySem L2
theorem boot_repr' : bootBuiltins "repr" = some (.builtin "repr") := PyProof.Rows.boot_repr
theorem gd_two {n1 w1 n2 w2 n w : Nat} {a b : PyData} (g1 : GD n1 w1 a) (g2 : GD n2 w2 b) (h1 : n1 ≤ n) (h2 : n2 ≤ n) (hw : w1 + w2 + 2 ≤ w) : GD (n + 1) w (.list [a, b]) := by
  refine ⟨?_, ?_, ?_, ?_⟩
  · simp only [PyData.showable, PyData.showableAll, g1.sh, g2.sh, Bool.and_self]
  · simp only [PyData.leavesShort, PyData.leavesShortAll, g1.lv, g2.lv, Bool.and_self]
  · simp only [PyData.depth, PyData.depthAll]; have := g1.dp; have := g2.dp; omega
  · simp only [PyData.weight, PyData.weightAll]; have := g1.wt; have := g2.wt; omega
theorem FrsX.off {H0 H : Hp} {q l : Addr} {as : List A3} {ds : List FD} (F : FrsX H0 H l as ds) (S : Store H0 q) : l ∉ [q] ∧ ∀ x ∈ as, x.1 ∉ [q] ∧ x.2.1 ∉ [q] ∧ x.2.2 ∉ [q] := by
  refine ⟨S.off1 F.nl, fun x hx => ?_⟩
  obtain ⟨i, hi⟩ := List.getElem?_of_mem hx
  obtain ⟨d, _, h⟩ := paired_mem F.each hi
  exact ⟨S.off1 h.n1, S.off1 h.n2, S.off1 h.n3⟩
noncomputable def bnP (D : List Addr) : PP D := ⟨fun H v => Th (Off D H) 1 100 v ∧ badN v, fun _ _ _ k h => ⟨h.1.keep (off_kp k), h.2⟩⟩
theorem bn_od {D : List Addr} : Le (bnP D) (odP D 0 3000) := fun H v ⟨t, h⟩ => ⟨t, by
  rcases h with h | ⟨i, rfl, h⟩
  · cases v <;> first | rfl | simp [isIntV] at h
  · simp only [betw, Bool.and_eq_false_iff, decide_eq_false_iff_not]
    omega⟩
section
variable {X : Cx} {d : Addr} {ps : List (Option (PP [d]))} {e a b c : Expr} {es : List Expr} {pos : Pos}
theorem e_blB {t : Bool} {j : _} : ET X d ps (.Constant (.bool t) j pos) (bnP _) := e_val pe_bl fun _ => ⟨Th.bl t, .inl rfl⟩
theorem e_nonB {j : _} : ET X d ps (.Constant .none j pos) (bnP _) := e_val pe_non fun _ => ⟨Th.non, .inl rfl⟩
theorem e_strB {x : Str} {j : _} (h : GD 1 100 (.str x)) : ET X d ps (.Constant (.str x) j pos) (bnP _) := e_val pe_str fun _ => ⟨⟨_, .str x, h⟩, .inl rfl⟩
theorem e_empB : ET X d ps (.Dict [] [] pos) (bnP _) := weakT pe_dnewK fun σ H Q c k q => fun z hz' => q _ _ (k.keep (same_upd hz')) (Kp.of (same_upd hz')) ⟨Th.emp (off_at upd_same (k.off1 hz')), .inl rfl⟩
theorem ls_bn {l1 h1 : Nat} (hw : h1 ≤ 1 := by decide) : Le (D := [d]) (lsP l1 h1 (thP _ 0 90)) (bnP _) := fun H v ⟨a, xs, e, h, na, _, l2, it⟩ => by
  subst e
  exact ⟨(Th.lst (off_at h na) it l2).mono (by decide) (by omega), .inl rfl⟩
theorem e_tupB {n : Nat} {x1} (h : PA X es (tTs d ps n (thP _ 0 90))) (hm : n ≤ 1 := by decide) : ET X d ps (.Tuple es x1 pos) (bnP _) := weakT (pe_tup h) fun σ H Q c k q => by
  refine ⟨c, k, fun vs H1 D1 k1 hl p1 => ⟨sz (by omega), fun z hz' => q _ _ (D1.keep (same_upd hz')) (k1.same (same_upd hz')) ⟨?_, .inl rfl⟩⟩⟩
  exact (Th.tup (L := n) (off_at upd_same (D1.off1 hz')) (fun u hu => Th.keep (p1 u hu) (off_kp (Kp.of (same_upd hz')))) (by omega)).mono (by decide) (by omega)
theorem in_bn {lo hi : Int} (h1 : -10000000000000000000000000 ≤ lo := by decide) (h2 : hi < 0 := by decide) : Le (D := [d]) (inP _ lo hi) (bnP _) := fun H v ⟨i, e, a, b⟩ => by
  subst e
  have e25 : (10 : Nat) ^ 25 = 10000000000000000000000000 := by decide
  exact ⟨Th.int (by omega), .inr ⟨i, rfl, by omega⟩⟩
theorem pe_some {pp : (d : Addr) → List (Option (PP [d]))} {R : (d : Addr) → PP [d]} (h : ∀ d, ET X d (pp d) e (R d)) : PE X e (fun σ H Q => ∃ d, tT d (pp d) (R d) σ H Q) := fun pins s σ H Q I ⟨d, q⟩ => h d pins s σ H Q I q
end
noncomputable def forB : Stmt → List Stmt
  | .For _ _ b _ _ => b
  | _ => []
noncomputable abbrev stL (i : Nat) : Stmt := (forB ((forB ((defBody sLaw).getD 0 (.Pass ⟨0, 0, 0, 0⟩))).getD 3 (.Pass ⟨0, 0, 0, 0⟩))).getD i (.Pass ⟨0, 0, 0, 0⟩)
noncomputable abbrev namL : List Str := ["script", "at", "store", "frames", "given", "turn", "bad", "odd", "far", "kept", "door", "wrong"]
noncomputable abbrev XL (P : Program) (w : World) (K : PySem.W.Frag) (mg : Str → Option Value) (base : Heap) (f : Addr) (cdv : Value) (A : Around) (outer : List Env) (s : Shared) (H : Hp) (E : XK) : Cx := Cx.nox (cxOf CX0 P w K mg base namL "law" (defScope sLaw) f cdv A outer s H E)
theorem scLaw : FnScope namL ["script"] (defScope sLaw) := ⟨rfl, rfl, rfl, by decide +kernel, rfl, by decide +kernel, by decide +kernel⟩
section
variable {P : Program} {w : World} {K : PySem.W.Frag} {mg : Str → Option Value} {base : Heap} {f : Addr} {cdv : Value} {A : Around} {outer : List Env} {s : Shared} {H : Hp} {E : XK} {d : Addr}
theorem l_odd (D1 : Def P w K mg base 1 "_law_take" ["store", "many"] spTake) (hr : Room 1 (XL P w K mg base f cdv A outer s H E).A) : ET (XL P w K mg base f cdv A outer s H E) d [none, none, some (rfP _ d), none, none, none, none, none, none, none, none, none] (asgVal (stL 1)) (lsP 11 11 (bnP _)) := by
  refine e_lst (It := bnP _) (m := 11) ?_
  refine a_cons (It := bnP _) (m := 10) ?_ ?_
  · exact e_up e_neg in_bn
  refine a_cons (It := bnP _) (m := 9) ?_ ?_
  · exact e_blB
  refine a_cons (It := bnP _) (m := 8) ?_ ?_
  · exact e_blB
  refine a_cons (It := bnP _) (m := 7) ?_ ?_
  · exact e_nonB
  refine a_cons (It := bnP _) (m := 6) ?_ ?_
  · exact e_strB gd_s1
  refine a_cons (It := bnP _) (m := 5) ?_ ?_
  · refine e_up (P := lsP 1 1 (thP _ 0 90)) ?_ ls_bn
    refine e_lst (It := thP _ 0 90) (m := 1) ?_
    refine a_cons (It := thP _ 0 90) (m := 0) ?_ ?_
    · exact e_up e_int in_th0
    exact a_nil
  refine a_cons (It := bnP _) (m := 4) ?_ ?_
  · refine e_tupB (n := 1) ?_
    refine a_cons (It := thP _ 0 90) (m := 0) ?_ ?_
    · exact e_up e_int in_th0
    exact a_nil
  refine a_cons (It := bnP _) (m := 3) ?_ ?_
  · exact e_empB
  refine a_cons (It := bnP _) (m := 2) ?_ ?_
  · exact e_strB gd_emptys
  refine a_cons (It := bnP _) (m := 1) ?_ ?_
  · exact e_up (e_sub e_int e_pow25) in_bn
  refine a_cons (It := bnP _) (m := 0) ?_ ?_
  · exact e_up (e_sub e_neg (e_draw D1 hr (by rfl) (e_var 2 (pv 2)) e_int)) in_bn
  exact a_nil
theorem l_odd2 (D1 : Def P w K mg base 1 "_law_take" ["store", "many"] spTake) (hr : Room 1 (XL P w K mg base f cdv A outer s H E).A) : ET (XL P w K mg base f cdv A outer s H E) d [none, none, some (rfP _ d), none, none, none, none, some (lsP 11 11 (bnP _)), none, none, none, none] (asgVal (stL 2)) (bnP _) :=
  e_ix (l1 := 11) (h1 := 11) (j := 10) (It := bnP _) (e_var 7 (pv 7)) (e_draw D1 hr (by rfl) (e_var 2 (pv 2)) e_int)
theorem l_far (D1 : Def P w K mg base 1 "_law_take" ["store", "many"] spTake) (hr : Room 1 (XL P w K mg base f cdv A outer s H E).A) : ET (XL P w K mg base f cdv A outer s H E) d [none, none, some (rfP _ d), none, none, none, none, some (bnP _), none, none, none, none] (asgVal (stL 3)) (odP _ 0 3000) := by
  refine e_ix (l1 := 4) (h1 := 4) (j := 3) (It := odP _ 0 3000) ?_ (e_draw D1 hr (by rfl) (e_var 2 (pv 2)) e_int)
  refine e_lst (It := odP _ 0 3000) (m := 4) ?_
  refine a_cons (It := odP _ 0 3000) (m := 3) ?_ ?_
  · exact e_up e_int (in_od (by decide) (by decide) (by decide))
  refine a_cons (It := odP _ 0 3000) (m := 2) ?_ ?_
  · exact e_up (e_add e_int (e_draw D1 hr (by rfl) (e_var 2 (pv 2)) e_int)) (in_od (by decide) (by decide) (by decide))
  refine a_cons (It := odP _ 0 3000) (m := 1) ?_ ?_
  · exact e_up e_pow25 (in_od (by decide) (by decide) (by decide))
  refine a_cons (It := odP _ 0 3000) (m := 0) ?_ ?_
  · exact e_up (e_var 7 (pv 7)) bn_od
  exact a_nil
end
section
variable {P : Program} {w : World} {K : PySem.W.Frag} {mg : Str → Option Value} {base : Heap} {c : Nat → Addr}
theorem door3 {m : Nat} (h : m < (3 : Int).toNat) : (0 + (m : Int)) = 0 ∨ (0 + (m : Int)) = 1 ∨ (0 + (m : Int)) = 2 := by
  have : m < 3 := h
  omega
theorem fx_ok : FrOk 10 [1, 1] [1, 1] := ⟨by decide, by decide, by decide, by decide, by decide, rfl, by decide⟩
theorem ok_law {f : Addr} {fd : FuncData} (F : Fun K "law" "law" sLaw f fd) (T : Txt mg) (hrp : mg "repr" = none) (DC : Def P w K mg base 1 "_law_cell" ["script", "k"] (spCell K)) (DST : Def P w K mg base 1 "_law_store" ["cell"] spStore) (D1 : Def P w K mg base 1 "_law_take" ["store", "many"] spTake)
    (DF : Def P w K mg base 3 "_law_frames" ["store"] spFrames) (DY : Def P w K mg base 1 "_law_copies" ["frames"] spCopies) (DN : Def P w K mg base 3 "_law_no_frames" ["store", "frames"] spNoFrames) (DW : Def P w K mg base 15 "_law_word" ["door", "frames", "n"] (spWord c)) : FnOk P w K mg base CX0 16 f fd ["script"] (spLaw K) := by
  refine F.ok scLaw (fun vs H Q E h => ?_) (fun cdv A outer s H vs Q E hr h => ?_)
  · obtain ⟨a, ns, rfl, _⟩ := h; rfl
  · obtain ⟨a0, ns, rfl, hS, hlen, k⟩ := h
    have nd := scLaw.nd
    have hu := hr.units
    have hr1 : Room 1 (XL P w K mg base f cdv A outer s H E).A := hr.mono (by decide)
    refine ⟨_, (pss_cons (ps_for PassesOwn.never rfl (pi_range1 (by rfl) T.range (pa_cons (pe_callB (call_min2 rfl) (by rfl) T.min boot_min (pa_cons (pe_callB (call_max2 rfl) (by rfl) T.max boot_max (pa_cons (lenS T.len (by rfl) (pv 0)) (pa_cons pe_int pa_nil))) (pa_cons pe_int pa_nil))) pa_nil)) (pg_name (i := 1) nd rfl (Or.inl rfl))
        (pss_cons (ps_set (i := 2) nd rfl (Or.inl rfl) (pe_fn DST (hr.mono (by decide)) (by rfl) (pa_cons (pe_fn DC (hr.mono (by decide)) (by rfl) (pa_cons (pv 0) (pa_cons (pv 1) pa_nil))) pa_nil)))
        (pss_cons (ps_set (i := 3) nd rfl (Or.inl rfl) (pe_fn DF (hr.mono (by decide)) (by rfl) (pa_cons (pv 2) pa_nil)))
        (pss_cons (ps_set (i := 4) nd rfl (Or.inl rfl) (pe_fn DY (hr.mono (by decide)) (by rfl) (pa_cons (pv 3) pa_nil)))
        (pss_one (ps_for PassesOwn.never rfl (pi_range1 (by rfl) T.range (pa_cons pe_int pa_nil)) (pg_name (i := 5) nd rfl (Or.inl rfl))
          (pss_cons (ps_set (i := 6) nd rfl (Or.inl rfl) (pe_fn DN (hr.mono (by decide)) (by rfl) (pa_cons (pv 2) (pa_cons (pv 3) pa_nil))))
          (pss_cons (ps_set (i := 7) nd rfl (Or.inl rfl) (pe_some fun d => l_odd (d := d) D1 hr1))
          (pss_cons (ps_set (i := 7) nd rfl (Or.inl rfl) (pe_some fun d => l_odd2 (d := d) D1 hr1))
          (pss_cons (ps_set (i := 8) nd rfl (Or.inl rfl) (pe_some fun d => l_far (d := d) D1 hr1))
          (pss_cons (ps_set (i := 9) nd rfl (Or.inl rfl) (pe_callB (call_reprT hr.gd hu) (by rfl) hrp boot_repr' (pa_cons (pe_lst (pa_cons (pv 6) (pa_cons (pv 7) pa_nil))) pa_nil)))
          (pss_cons (ps_for PassesOwn.never rfl (pi_range1 (by rfl) T.range (pa_cons pe_int pa_nil)) (pg_name (i := 10) nd rfl (Or.inl rfl))
            (pss_cons (ps_set (i := 11) nd rfl (Or.inl rfl) (ixl (pe_lst (pa_cons (pv 7) (pa_cons (pv 7) (pa_cons (pv 8) pa_nil)))) (pv 10)))
            (pss_cons (ps_if (PW.pt (pw_or (pt_cmpR op_ne (pe_fn DW hr (by rfl) (pa_cons (pv 10) (pa_cons (pv 6) (pa_cons pe_int pa_nil)))) pe_str (nomark _)) (pw_or1 (pt_cmpR op_ne (pe_fn DW hr (by rfl) (pa_cons (pv 10) (pa_cons (pv 6) (pa_cons (pv 11) pa_nil)))) pe_str (nomark _))))) (pss_one (ps_ret pe_bl)) pss_nil)
            (pss_one (ps_if (PW.pt (pw_or (pt_cmpR op_ne (pe_fn DW hr (by rfl) (pa_cons (pv 10) (pa_cons (pv 4) (pa_cons (pv 11) pa_nil)))) (ixl (pe_lst (pa_cons pe_str (pa_cons pe_str (pa_cons pe_str pa_nil)))) (pv 10)) (nomark _)) (pw_or1 (pt_cmpR op_ne (pe_fn DW hr (by rfl) (pa_cons (pv 10) (pa_cons (pv 4) (pa_cons pe_int pa_nil)))) pe_str (nomark _))))) (pss_one (ps_ret pe_bl)) pss_nil)))))
          (pss_one (ps_if (PW.pt (pw_or (pt_cmpR op_ne (pe_callB (call_reprT hr.gd hu) (by rfl) hrp boot_repr' (pa_cons (pe_lst (pa_cons (pv 6) (pa_cons (pv 7) pa_nil))) pa_nil)) (pv 9) (nomark _)) (pw_or1 (pt_cmpR (op_neD hu) (pv 4) (pv 3) (nomark _))))) (pss_one (ps_ret pe_bl)) pss_nil))))))))))))))
      (pss_one (ps_ret (pe_cmpR op_eq (pe_fn DW hr (by rfl) (pa_cons pe_int (pa_cons (pe_lst (pa_cons (pe_tup (pa_cons pe_int (pa_cons (pe_lst (pa_cons pe_int (pa_cons pe_int pa_nil))) (pa_cons (pe_lst (pa_cons pe_int (pa_cons pe_int pa_nil))) pa_nil)))) pa_nil)) (pa_cons pe_int pa_nil)))) pe_str (nomark _))))), ?_⟩
    refine ⟨_, rfl, a0, _, rfl, .inl hS, _, _, rfl, _, _, rfl, ?_⟩
    generalize hM : (if (10 : Int) < (if (3 : Int) > (((ns.map V.int).length : Nat) : Int) then 3 else (((ns.map V.int).length : Nat) : Int)) then (10 : Int) else (if (3 : Int) > (((ns.map V.int).length : Nat) : Int) then 3 else (((ns.map V.int).length : Nat) : Int))) = M
    have m1 : 3 ≤ M ∧ M ≤ 10 := by
      rw [← hM]
      split <;> (split <;> omega)
    refine ⟨_, rfl, by omega, by omega, for_range (n := M.toNat) (fun i σ H2 => ∃ v1 v2 v3 v4 v5 v6 v7 v8 v9 v10 v11, σ = [some (.ref a0), v1, v2, v3, v4, v5, v6, v7, v8, v9, v10, v11] ∧ Same H H2) ⟨none, none, none, none, none, none, none, none, none, none, none, rfl, Same.refl _⟩ ?_ ?_⟩
    · rintro i σ H2 hi ⟨v1, v2, v3, v4, v5, v6, v7, v8, v9, v10, v11, rfl, s2⟩
      have ez : (0 : Int) + (i : Int) = (i : Int) := Int.zero_add _
      rw [ez]
      refine ⟨_, rfl, _, rfl, a0, ns, i, rfl, s2.seq hS, by omega, fun c => ⟨c, rfl, fun q H3 nq s3 E3 => ?_⟩⟩
      have hq : H q = none := s2.free nq
      refine ⟨_, rfl, q, rfl, E3, fun l as ds H4 E4 k4 X4 => ?_⟩
      refine ⟨_, rfl, l, as, ds, rfl, X4.frs, fun l' as' H5 s5 X5 AP => ?_⟩
      have E5 := E4.keep s5
      have X45 := X4.keep s5
      have S5 : Same H H5 := (same_kp (s2.trans s3) hq k4).trans s5
      refine ⟨_, rfl, by decide, by decide, for_range (n := (4 : Int).toNat) (fun j σ H' => ∃ v5 v6 v7 v8 v9 v10 v11, σ = [some (.ref a0), some (.int (i : Int)), some (.ref q), some (.ref l), some (.ref l'), v5, v6, v7, v8, v9, v10, v11] ∧ Store H' q ∧ Same H H' ∧ FrsX H3 H' l as ds ∧ FrsX H4 H' l' as' ds)
        ⟨v5, v6, v7, v8, v9, v10, v11, rfl, E5, S5, X45, X5⟩ ?_ ?_⟩
      · rintro j σ H6 hj ⟨v5, v6, v7, v8, v9, v10, v11, rfl, E6, S6, X6, X6'⟩
        have of6 := X6.off E3
        have of6' := X6'.off E4
        refine ⟨_, rfl, _, rfl, q, l, as, ds, rfl, E6, X6.frs, of6.1, of6.2, fun bad H7 E7 k7 p7 => ?_⟩
        have X7 := X6.kp E3 k7
        have X7' := X6'.kp E4 k7
        have S7 := same_kp S6 hq k7
        refine ⟨q, ?_, E7, fun o1 H8 E8 k8 p8 => ?_⟩
        · exact .cons (fun P e => by cases e) (.cons (fun P e => by cases e) (.cons (fun P e => by cases e; exact ⟨_, rfl, rfl⟩) (.cons (fun P e => by cases e) (.cons (fun P e => by cases e) (.cons (fun P e => by cases e) (.cons (fun P e => by cases e) (.cons (fun P e => by cases e) (.cons (fun P e => by cases e) (.cons (fun P e => by cases e) (.cons (fun P e => by cases e) (.cons (fun P e => by cases e) .nil)))))))))))
        have X8 := X7.kp E3 k8
        have X8' := X7'.kp E4 k8
        have S8 := same_kp S7 hq k8
        refine ⟨q, ?_, E8, fun odd H9 E9 k9 p9 => ?_⟩
        · exact .cons (fun P e => by cases e) (.cons (fun P e => by cases e) (.cons (fun P e => by cases e; exact ⟨_, rfl, rfl⟩) (.cons (fun P e => by cases e) (.cons (fun P e => by cases e) (.cons (fun P e => by cases e) (.cons (fun P e => by cases e) (.cons (fun P e => by cases e; exact ⟨_, rfl, p8⟩) (.cons (fun P e => by cases e) (.cons (fun P e => by cases e) (.cons (fun P e => by cases e) (.cons (fun P e => by cases e) .nil)))))))))))
        have X9 := X8.kp E3 k9
        have X9' := X8'.kp E4 k9
        have S9 := same_kp S8 hq k9
        refine ⟨q, ?_, E9, fun far H10 E10 k10 p10 => ?_⟩
        · exact .cons (fun P e => by cases e) (.cons (fun P e => by cases e) (.cons (fun P e => by cases e; exact ⟨_, rfl, rfl⟩) (.cons (fun P e => by cases e) (.cons (fun P e => by cases e) (.cons (fun P e => by cases e) (.cons (fun P e => by cases e) (.cons (fun P e => by cases e; exact ⟨_, rfl, p9⟩) (.cons (fun P e => by cases e) (.cons (fun P e => by cases e) (.cons (fun P e => by cases e) (.cons (fun P e => by cases e) .nil)))))))))))
        have X10 := X9.kp E3 k10
        have X10' := X9'.kp E4 k10
        have S10 := same_kp S9 hq k10
        obtain ⟨db, tb, gb, hb⟩ := (NS q).per _ _ _ ((k8.trans k9).trans k10) p7
        have tb := tb.keep off_sub
        have shb : Sh db := Nat.le_trans gb.wt (by decide)
        obtain ⟨⟨dn, tn, gn⟩, bn⟩ := (bnP [q]).per _ _ _ k10 p9
        have tn := tn.keep off_sub
        obtain ⟨⟨df, tf, gf⟩, bf⟩ := p10
        have tf := tf.keep off_sub
        have g2 := gd_two (n := 5) (w := 110000) gb gn (by decide) (by decide) (by decide)
        have c2 : (PyData.list [db, dn]).depth ≤ 50 := Nat.le_trans g2.dp (by decide)
        have c3 := g2.shown (by decide)
        refine ⟨_, rfl, _, rfl, sz (by simp), fun m1 hm1 => ?_⟩
        have t1 := same_upd (o := .lst [bad, odd]) hm1
        have u1 : (upd H10 m1 (.lst [bad, odd])) m1 = _ := upd_same
        generalize upd H10 m1 (.lst [bad, odd]) = H11 at t1 u1 ⊢
        refine ⟨_, .list [db, dn], rfl, .lst u1 (.cons (tb.keep t1) (.cons (tn.keep t1) .nil)), g2.sh, c2, c3, ?_⟩
        refine ⟨_, rfl, by decide, by decide, for_range (n := (3 : Int).toNat) (fun m σ H' => ∃ v10 v11, σ = [some (.ref a0), some (.int (i : Int)), some (.ref q), some (.ref l), some (.ref l'), some (.int (0 + (j : Int))), some bad, some odd, some far, some (.str (PyData.list [db, dn]).shown), v10, v11] ∧ Same H10 H')
          ⟨v10, v11, rfl, t1⟩ ?_ ?_⟩
        · rintro m σ H12 hm ⟨v10, v11, rfl, s12⟩
          have hdoor := door3 hm
          refine ⟨_, rfl, _, rfl, _, rfl, sz (by simp), fun p hp => ⟨_, rfl, ?_⟩⟩
          have sp := s12.trans (same_upd (o := .lst [odd, odd, far]) hp)
          have key : ∃ wr du, atI [odd, odd, far] (0 + (m : Int)) = some wr ∧ atI [V.str "", V.str "number", V.str "number"] (0 + (m : Int)) = some (.str du) ∧ Thing H10 wr ∧ ((0 + (m : Int) = 0 ∧ du = "") ∨ (((0 + (m : Int) = 1 ∧ badN wr) ∨ (0 + (m : Int) = 2 ∧ badB wr)) ∧ du = "number")) := by
            have h3 : m = 0 ∨ m = 1 ∨ m = 2 := by omega
            rcases h3 with rfl | rfl | rfl
            · exact ⟨odd, "", rfl, rfl, tree_thing tn, .inl ⟨rfl, rfl⟩⟩
            · exact ⟨odd, "number", rfl, rfl, tree_thing tn, .inr ⟨.inl ⟨rfl, bn⟩, rfl⟩⟩
            · exact ⟨far, "number", rfl, rfl, tree_thing tf, .inr ⟨.inr ⟨rfl, bf⟩, rfl⟩⟩
          obtain ⟨wr, du, ew, ed, tw, hwr⟩ := key
          refine r_ixl upd_same ew ?_
          have up := sp
          generalize upd H12 p (.lst [odd, odd, far]) = H13 at sp ⊢
          refine ⟨_, rfl, _, rfl, _, bad, _, rfl, hdoor, .inr (.inl ⟨db, tb.keep sp, shb, hb, fun H14 s14 => ?_⟩)⟩
          have sA := sp.trans s14
          refine ⟨rfl, _, rfl, iteF ?_⟩
          refine ⟨_, rfl, _, rfl, _, rfl, _, bad, wr, rfl, hdoor, .inr (.inl ⟨db, tb.keep sA, shb, hb, fun H15 s15 => ?_⟩)⟩
          have sB := sA.trans s15
          refine ⟨rfl, _, rfl, iteF ?_⟩
          have t15 := tw.keep sB
          rcases hwr with ⟨hd0, rfl⟩ | ⟨hb, rfl⟩
          · refine ⟨_, rfl, _, rfl, _, rfl, _, .ref l', wr, rfl, hdoor, .inl ⟨l', as', ds, rfl, X10'.frs.keep sB, t15, .inl hd0, fun H16 s16 => ?_⟩⟩
            have sC := sB.trans s16
            refine ⟨sz (by simp), fun p2 hp2 => ⟨_, rfl, r_ixl upd_same ed ?_⟩⟩
            have sD := sC.trans (same_upd (o := .lst [.str "", .str "number", .str "number"]) hp2)
            generalize upd H16 p2 (.lst [.str "", .str "number", .str "number"]) = H17 at sD ⊢
            refine ⟨rfl, _, rfl, iteF ?_⟩
            refine ⟨_, rfl, _, rfl, _, .ref l', .int 5, rfl, hdoor, .inl ⟨l', as', ds, rfl, X10'.frs.keep sD, .int 5, .inr ⟨5, rfl, by decide⟩, fun H18 s18 => ?_⟩⟩
            refine ⟨rfl, _, rfl, iteF ?_⟩
            exact ⟨_, _, rfl, sD.trans s18⟩
          · refine ⟨_, rfl, _, rfl, _, rfl, _, .ref l', wr, rfl, hdoor, .inr (.inr ⟨l', as', ds, rfl, X10'.frs.keep sB, t15, hb, fun H16 s16 => ?_⟩)⟩
            have sC := sB.trans s16
            refine ⟨sz (by simp), fun p2 hp2 => ⟨_, rfl, r_ixl upd_same ed ?_⟩⟩
            have sD := sC.trans (same_upd (o := .lst [.str "", .str "number", .str "number"]) hp2)
            generalize upd H16 p2 (.lst [.str "", .str "number", .str "number"]) = H17 at sD ⊢
            refine ⟨rfl, _, rfl, iteF ?_⟩
            refine ⟨_, rfl, _, rfl, _, .ref l', .int 5, rfl, hdoor, .inl ⟨l', as', ds, rfl, X10'.frs.keep sD, .int 5, .inr ⟨5, rfl, by decide⟩, fun H18 s18 => ?_⟩⟩
            refine ⟨rfl, _, rfl, iteF ?_⟩
            exact ⟨_, _, rfl, sD.trans s18⟩
        · rintro σ H12 ⟨v10, v11, rfl, s12⟩
          refine ⟨_, rfl, _, rfl, sz (by simp), fun m2 hm2 => ?_⟩
          have t2 := s12.trans (same_upd (o := .lst [bad, odd]) hm2)
          have u2 : (upd H12 m2 (.lst [bad, odd])) m2 = _ := upd_same
          generalize upd H12 m2 (.lst [bad, odd]) = H13 at t2 u2 ⊢
          refine ⟨_, .list [db, dn], rfl, .lst u2 (.cons (tb.keep t2) (.cons (tn.keep t2) .nil)), g2.sh, c2, c3, ?_⟩
          refine ⟨_, rfl, rfl, _, rfl, ?_⟩
          rw [decide_eq_true rfl]
          refine iteF ?_
          refine ⟨_, rfl, _, rfl, eq_self (X10'.frs.keep t2).dat (X10.frs.keep t2).dat (frsD_lay _) (frsD_depth _) ⟨_, rfl, iteF ?_⟩⟩
          exact ⟨_, _, _, _, _, _, _, rfl, E10.keep t2, S10.trans t2, X10.keep t2, X10'.keep t2⟩
      · rintro σ H6 ⟨v5, v6, v7, v8, v9, v10, v11, rfl, E6, S6, X6, X6'⟩
        exact ⟨_, _, _, _, _, _, _, _, _, _, _, rfl, S6⟩
    · rintro σ H2 ⟨v1, v2, v3, v4, v5, v6, v7, v8, v9, v10, v11, rfl, s2⟩
      refine ⟨sz (by simp), fun p1 hp1 => ⟨sz (by simp), fun p2 hp2 => ⟨sz (by simp), fun p3 hp3 => ⟨sz (by simp), fun p4 hp4 => ?_⟩⟩⟩⟩
      have q3 := same_upd (o := .tup [.int 10, .ref p1, .ref p2]) hp3
      have q4 := same_upd (o := .lst [.ref p3]) hp4
      have G : FrAt _ p3 p1 p2 10 [1, 1] [1, 1] := ⟨q4 _ _ upd_same, q4 _ _ (q3 _ _ (same_upd (o := .lst [.int 1, .int 1]) hp2 _ _ upd_same)), q4 _ _ (q3 _ _ upd_same), fx_ok⟩
      refine ⟨2, .ref p4, .int 3000, rfl, .inr (.inr rfl), .inl ⟨p4, [(p3, p1, p2)], [⟨10, [1, 1], [1, 1]⟩], rfl, ⟨upd_same, .cons G .nil, by simp, by simp⟩, .int 3000, .inr ⟨3000, rfl, by decide⟩, fun H3 s3 => ?_⟩⟩
      exact ⟨rfl, k H3⟩
end
end Hv
namespace Hv
open PySem L2
structure FnIn (K : PySem.W.Frag) (x : Str) (st : Stmt) : Prop where
  ex : ∃ (f : Addr) (oc : Value) (od an : Option Addr) (osl : Array (Option Value)) (kV doc pm cdv ct : Value), PySem.W.nsIn K mainGlobals x = some (some (.ref f)) ∧
    K.lookup f = some ⟨oc, od, .func (PySem.W.fnOf x x (defArgs st) (defBody st) (defScope st) .none kV doc pm an cdv ct), osl⟩ ∧ PySem.W.codeIn K cdv x = true ∧ PySem.W.keepIn K (.ref f) = true
theorem fn_in {K : PySem.W.Frag} {x : Str} {st : Stmt} {f : Addr} {oc : Value} {od an : Option Addr} {osl : Array (Option Value)} {kV doc pm cdv ct : Value} (a : PySem.W.nsIn K mainGlobals x = some (some (.ref f)))
    (l : K.lookup f = some ⟨oc, od, .func (PySem.W.fnOf x x (defArgs st) (defBody st) (defScope st) .none kV doc pm an cdv ct), osl⟩) (c : PySem.W.codeIn K cdv x = true) (k : PySem.W.keepIn K (.ref f) = true) : FnIn K x st := ⟨f, oc, od, an, osl, kV, doc, pm, cdv, ct, a, l, c, k⟩
structure TxtIn (K : PySem.W.Frag) : Prop where
  isi : PySem.W.nsIn K mainGlobals "isinstance" = some none
  int : PySem.W.nsIn K mainGlobals "int" = some none
  bool : PySem.W.nsIn K mainGlobals "bool" = some none
  list : PySem.W.nsIn K mainGlobals "list" = some none
  tuple : PySem.W.nsIn K mainGlobals "tuple" = some none
  all : PySem.W.nsIn K mainGlobals "all" = some none
  len : PySem.W.nsIn K mainGlobals "len" = some none
  sum : PySem.W.nsIn K mainGlobals "sum" = some none
  range : PySem.W.nsIn K mainGlobals "range" = some none
  max : PySem.W.nsIn K mainGlobals "max" = some none
  min : PySem.W.nsIn K mainGlobals "min" = some none
  rev : PySem.W.nsIn K mainGlobals "reversed" = some none
  zip : PySem.W.nsIn K mainGlobals "zip" = some none
  enum : PySem.W.nsIn K mainGlobals "enumerate" = some none
theorem us0 {p : List Value → Prop} (h : p []) (us : List Value) (hl : us.length = 0) : p us := by rw [List.eq_nil_of_length_eq_zero hl]; exact h
theorem usS {n : Nat} {p : List Value → Prop} (h : ∀ a r, r.length = n → p (a :: r)) (us : List Value) (hl : us.length = n + 1) : p us := by
  cases us with
  | nil => cases hl
  | cons a r => exact h a r (Nat.succ.inj hl)
theorem us1 {p : List Value → Prop} (h : ∀ a, p [a]) : ∀ us : List Value, us.length = 1 → p us := usS fun a => us0 (p := fun r => p (a :: r)) (h a)
theorem us2 {p : List Value → Prop} (h : ∀ a b, p [a, b]) : ∀ us : List Value, us.length = 2 → p us := usS fun a => us1 (p := fun r => p (a :: r)) (h a)
theorem us3 {p : List Value → Prop} (h : ∀ a b c, p [a, b, c]) : ∀ us : List Value, us.length = 3 → p us := usS fun a => us2 (p := fun r => p (a :: r)) (h a)
section
variable {P : Program} {w : World} {K : PySem.W.Frag} {mg : Str → Option Value} {base h : Heap}
theorem TxtIn.txt (T : TxtIn K) (X : K.In h) (G : h.Ns mainGlobals mg) : Txt mg :=
  have e : ∀ x, PySem.W.nsIn K mainGlobals x = some none → mg x = none := fun x z => PySem.W.mg_none_of X G z
  ⟨e _ T.isi, e _ T.int, e _ T.bool, e _ T.list, e _ T.tuple, e _ T.all, e _ T.len, e _ T.sum, e _ T.range, e _ T.max, e _ T.min, e _ T.rev, e _ T.zip, e _ T.enum⟩
theorem def_of {x : Str} {st : Stmt} {k : Nat} {ps : List Str} {sp : Sp} (D : FnIn K x st) (X : K.In h) (G : h.Ns mainGlobals mg) (ok : ∀ f fd, Fun K x x st f fd → FnOk P w K mg base CX0 k f fd ps sp)
    (hb : ∀ (kV doc pm : Value) (an : Option Addr) (cdv ct : Value) (us : List Value), us.length = ps.length → bindArgs (PySem.W.fnOf x x (defArgs st) (defBody st) (defScope st) .none kV doc pm an cdv ct) ⟨us, []⟩ = pure (ps.zip us)) : Def P w K mg base k x ps sp := by
  obtain ⟨f, oc, od, an, osl, kV, doc, pm, cdv, ct, a, l, c, kp⟩ := D.ex
  have F := fun_mk (st := st) l c kp
  exact ⟨f, _, ok _ _ F, PySem.W.mg_of X G a, kp, F.binds hb⟩
end
end Hv
namespace Hv
open PySem L2
theorem def1_of {P : Program} {w : World} {K : PySem.W.Frag} {mg : Str → Option Value} {base h : Heap} {x : Str} {st : Stmt} {k : Nat} {ps : List Str} {sp : Sp} (D : FnIn K x st) (X : K.In h) (G : h.Ns mainGlobals mg) (ok : ∀ f fd, Fun K x x st f fd → FnOk P w K mg base (CX1 P w) k f fd ps sp)
    (hb : ∀ (kV doc pm : Value) (an : Option Addr) (cdv ct : Value) (us : List Value), us.length = ps.length → bindArgs (PySem.W.fnOf x x (defArgs st) (defBody st) (defScope st) .none kV doc pm an cdv ct) ⟨us, []⟩ = pure (ps.zip us)) : Def1 P w K mg base k x ps sp := by
  obtain ⟨f, oc, od, an, osl, kV, doc, pm, cdv, ct, a, l, c, kp⟩ := D.ex
  have F := fun_mk (st := st) l c kp
  exact ⟨f, _, ok _ _ F, PySem.W.mg_of X G a, kp, F.binds hb⟩
end Hv
namespace Hv
open PySem L2
theorem all_mk {l : PySem.W.OpenLaw} {w : World} {K : PySem.W.Frag} {h : Heap} {mg : Str → Option Value} {fa : Addr} (X : K.In h) (G : h.Ns mainGlobals mg) (hfa : mg "law" = some (.ref fa)) (TI : TxtIn K)
    (i0 : FnIn K "is_whole" sWhole)
    (i1 : FnIn K "is_between" sBetw)
    (i2 : FnIn K "is_list_between" sLBetw)
    (i3 : FnIn K "is_frame" sIsFrame)
    (i4 : FnIn K "need_frame" sNeedFrame)
    (i5 : FnIn K "how_many" sHowMany)
    (i6 : FnIn K "need_number" sNeedNumber)
    (i7 : FnIn K "cut_by_parts" sCut)
    (i8 : FnIn K "figures_of" sFiguresOf)
    (i9 : FnIn K "part_sums" sPartSums)
    (i10 : FnIn K "misses_by" sMissesBy)
    (i11 : FnIn K "is_even" sIsEven)
    (i12 : FnIn K "need_frames" sNeedFrames)
    (i13 : FnIn K "is_even_number_of" sEvenOf)
    (i14 : FnIn K "keeps_each" sKeepsEach)
    (i15 : FnIn K "keeps_all" sKeepsAll)
    (i16 : FnIn K "next_keeping" sNextKeeping)
    (i17 : FnIn K "all_keeping" sAllKeeping)
    (i18 : FnIn K "_law_cell" sCell)
    (i19 : FnIn K "_law_store" sStore)
    (i20 : FnIn K "_law_take" sTake)
    (i21 : FnIn K "_law_frame" sFrame)
    (i22 : FnIn K "_law_frames" sFrames)
    (i23 : FnIn K "_law_copies" sCopies)
    (i24 : FnIn K "_law_kind" sLawKind)
    (i25 : FnIn K "_law_no_frame" sNoFrame)
    (i26 : FnIn K "_law_no_frames" sLawNoFrames)
    (i27 : FnIn K "_law_word" sLawWord)
    {cB c0 c1 c2 c3 c4 c5 c6 c7 c8 c9 : Addr} (eB : PySem.W.nsIn K mainGlobals "HalfError" = some (some (.ref cB)))
    (e0 : PySem.W.nsIn K mainGlobals "NoFrame" = some (some (.ref c0)))
    (e1 : PySem.W.nsIn K mainGlobals "NoNumber" = some (some (.ref c1)))
    (e2 : PySem.W.nsIn K mainGlobals "NoPart" = some (some (.ref c2)))
    (e3 : PySem.W.nsIn K mainGlobals "NoSum" = some (some (.ref c3)))
    (e4 : PySem.W.nsIn K mainGlobals "NoMiss" = some (some (.ref c4)))
    (e5 : PySem.W.nsIn K mainGlobals "NoEven" = some (some (.ref c5)))
    (e6 : PySem.W.nsIn K mainGlobals "NoFrames" = some (some (.ref c6)))
    (e7 : PySem.W.nsIn K mainGlobals "NoText" = some (some (.ref c7)))
    (e8 : PySem.W.nsIn K mainGlobals "NoName" = some (some (.ref c8)))
    (e9 : PySem.W.nsIn K mainGlobals "NoRow" = some (some (.ref c9)))
    (tB : PySem.W.typeIn K (.ref cB) = some (.type "type")) (mB : PySem.W.mroIn K cB (.type "BaseException") = some true)
    (q1 : PySem.W.excIn K c1 [.type "ValueError", .type "Exception", .type "BaseException", .type "object"] "ValueError.__new__" = true) (m1 : PySem.W.mroIn K c1 (.ref cB) = some true) (l1 : ClsE K c1) (v1 : PySem.W.kitOne K (.ref c1) (.type "ValueError") = some true)
    (k1_0 : PySem.W.kitOne K (.ref c1) (.ref c0) = some false)
    (k1_1 : PySem.W.kitOne K (.ref c1) (.ref c1) = some true)
    (k1_2 : PySem.W.kitOne K (.ref c1) (.ref c2) = some false)
    (k1_3 : PySem.W.kitOne K (.ref c1) (.ref c3) = some false)
    (k1_4 : PySem.W.kitOne K (.ref c1) (.ref c4) = some false)
    (k1_5 : PySem.W.kitOne K (.ref c1) (.ref c5) = some false)
    (k1_6 : PySem.W.kitOne K (.ref c1) (.ref c6) = some false)
    (k1_7 : PySem.W.kitOne K (.ref c1) (.ref c7) = some false)
    (k1_8 : PySem.W.kitOne K (.ref c1) (.ref c8) = some false)
    (k1_9 : PySem.W.kitOne K (.ref c1) (.ref c9) = some false)
    (q6 : PySem.W.excIn K c6 [.type "ValueError", .type "Exception", .type "BaseException", .type "object"] "ValueError.__new__" = true) (m6 : PySem.W.mroIn K c6 (.ref cB) = some true) (l6 : ClsE K c6) (v6 : PySem.W.kitOne K (.ref c6) (.type "ValueError") = some true)
    (k6_0 : PySem.W.kitOne K (.ref c6) (.ref c0) = some false)
    (k6_1 : PySem.W.kitOne K (.ref c6) (.ref c1) = some false)
    (k6_2 : PySem.W.kitOne K (.ref c6) (.ref c2) = some false)
    (k6_3 : PySem.W.kitOne K (.ref c6) (.ref c3) = some false)
    (k6_4 : PySem.W.kitOne K (.ref c6) (.ref c4) = some false)
    (k6_5 : PySem.W.kitOne K (.ref c6) (.ref c5) = some false)
    (k6_6 : PySem.W.kitOne K (.ref c6) (.ref c6) = some true)
    (k6_7 : PySem.W.kitOne K (.ref c6) (.ref c7) = some false)
    (k6_8 : PySem.W.kitOne K (.ref c6) (.ref c8) = some false)
    (k6_9 : PySem.W.kitOne K (.ref c6) (.ref c9) = some false)
    (gGREATEST_BOUND : ∃ t, PySem.W.nsIn K mainGlobals "GREATEST_BOUND" = some (some (.int 3000 t)))
    (gLOOKED_THROUGH : ∃ t, PySem.W.nsIn K mainGlobals "LOOKED_THROUGH" = some (some (.int 1000 t)))
    (nrepr : PySem.W.nsIn K mainGlobals "repr" = some none)
    (nValueError : PySem.W.nsIn K mainGlobals "ValueError" = some none)
    (jl : FnIn K "law" sLaw) :
    ∃ fd : FuncData, (∀ (s : Shared) (v : Value), BindsTo s fd ⟨[v], []⟩ [("script", v)]) ∧ ∀ base : Heap, K.In base → base.Ns mainGlobals mg → FnOk l.prog w K mg base CX0 16 fa fd ["script"] (spLaw K) := by
  have T := TI.txt X G
  obtain ⟨f, oc, od, an, osl, kV, doc, pm, cdv, ct, a, lk, c, kp⟩ := jl.ex
  have e := hfa.symm.trans (PySem.W.mg_of X G a)
  cases e
  have F := fun_mk (st := sLaw) lk c kp
  refine ⟨PySem.W.fnOf "law" "law" (defArgs sLaw) (defBody sLaw) (defScope sLaw) .none kV doc pm an cdv ct, fun s v => .of_eq rfl, fun base BX _ => ?_⟩
  have nrepr : mg "repr" = none := PySem.W.mg_none_of X G nrepr
  have nValueError : mg "ValueError" = none := PySem.W.mg_none_of X G nValueError
  have gGREATEST_BOUND : ∃ t, mg "GREATEST_BOUND" = some (.int 3000 t) := gGREATEST_BOUND.elim fun t z => ⟨t, PySem.W.mg_of X G z⟩
  have gLOOKED_THROUGH : ∃ t, mg "LOOKED_THROUGH" = some (.int 1000 t) := gLOOKED_THROUGH.elim fun t z => ⟨t, PySem.W.mg_of X G z⟩
  have en : ErrNames mg (cs [c0, c1, c2, c3, c4, c5, c6, c7, c8, c9]) := ⟨PySem.W.mg_of X G e0, PySem.W.mg_of X G e1, PySem.W.mg_of X G e2, PySem.W.mg_of X G e3, PySem.W.mg_of X G e4, PySem.W.mg_of X G e5, PySem.W.mg_of X G e6, PySem.W.mg_of X G e7, PySem.W.mg_of X G e8, PySem.W.mg_of X G e9, nValueError⟩
  have o1 := own_e PySem.F.excBase_ValueError BX q1
  have u1 : Up K c1 cB := ⟨m1, mB, tB⟩
  have y1 : Kind K (cs [c0, c1, c2, c3, c4, c5, c6, c7, c8, c9]) c1 1 := ⟨l1, by decide, fun j hj => match j, hj with | 0, _ => k1_0 | 1, _ => k1_1 | 2, _ => k1_2 | 3, _ => k1_3 | 4, _ => k1_4 | 5, _ => k1_5 | 6, _ => k1_6 | 7, _ => k1_7 | 8, _ => k1_8 | 9, _ => k1_9, v1⟩
  have o6 := own_e PySem.F.excBase_ValueError BX q6
  have u6 : Up K c6 cB := ⟨m6, mB, tB⟩
  have y6 : Kind K (cs [c0, c1, c2, c3, c4, c5, c6, c7, c8, c9]) c6 6 := ⟨l6, by decide, fun j hj => match j, hj with | 0, _ => k6_0 | 1, _ => k6_1 | 2, _ => k6_2 | 3, _ => k6_3 | 4, _ => k6_4 | 5, _ => k6_5 | 6, _ => k6_6 | 7, _ => k6_7 | 8, _ => k6_8 | 9, _ => k6_9, v6⟩
  have d_is_whole : Def l.prog w K mg base 1 "is_whole" ["thing"] spWhole := def_of i0 X G (fun _ _ F => ok_whole F T) fun _ _ _ _ _ _ => us1 fun _ => rfl
  have d_is_between : Def l.prog w K mg base 2 "is_between" ["thing", "least", "greatest"] spBetw := def_of i1 X G (fun _ _ F => ok_betw F d_is_whole) fun _ _ _ _ _ _ => us3 fun _ _ _ => rfl
  have d_is_list_between : Def l.prog w K mg base 3 "is_list_between" ["thing", "least", "greatest"] spLBT := def_of i2 X G (fun _ _ F => ok_lbt F T d_is_between) fun _ _ _ _ _ _ => us3 fun _ _ _ => rfl
  have d_is_frame : Def l.prog w K mg base 4 "is_frame" ["thing"] spIFT := def_of i3 X G (fun _ _ F => ok_ift F T d_is_between d_is_list_between) fun _ _ _ _ _ _ => us1 fun _ => rfl
  have d_need_frame : Def l.prog w K mg base 5 "need_frame" ["thing"] spNeedFrame := def_of i4 X G (fun _ _ F => ok_needframe F (d_is_frame.less isf_ift)) fun _ _ _ _ _ _ => us1 fun _ => rfl
  have d_how_many : Def l.prog w K mg base 6 "how_many" ["frame"] spHowMany := def_of i5 X G (fun _ _ F => ok_howmany F T d_need_frame) fun _ _ _ _ _ _ => us1 fun _ => rfl
  have d_need_number : Def l.prog w K mg base 7 "need_number" ["frame", "thing"] spNeedNumber := def_of i6 X G (fun _ _ F => ok_neednumber F d_is_between d_how_many) fun _ _ _ _ _ _ => us2 fun _ _ => rfl
  have d_cut_by_parts : Def l.prog w K mg base 1 "cut_by_parts" ["frame", "row"] spCut := def_of i7 X G (fun _ _ F => ok_cut F) fun _ _ _ _ _ _ => us2 fun _ _ => rfl
  have d_figures_of : Def l.prog w K mg base 8 "figures_of" ["frame", "n"] spFigures := def_of i8 X G (fun _ _ F => ok_figuresof F T d_need_frame d_need_number) fun _ _ _ _ _ _ => us2 fun _ _ => rfl
  have d_part_sums : Def l.prog w K mg base 9 "part_sums" ["frame", "n"] spSums := def_of i9 X G (fun _ _ F => ok_partsums F T d_figures_of d_cut_by_parts) fun _ _ _ _ _ _ => us2 fun _ _ => rfl
  have d_misses_by : Def l.prog w K mg base 10 "misses_by" ["frame", "n"] spMisses := def_of i10 X G (fun _ _ F => ok_misses F T d_part_sums) fun _ _ _ _ _ _ => us2 fun _ _ => rfl
  have d_is_even : Def l.prog w K mg base 11 "is_even" ["frame", "n"] spEven := def_of i11 X G (fun _ _ F => ok_even F d_misses_by) fun _ _ _ _ _ _ => us2 fun _ _ => rfl
  have d_need_frames : Def l.prog w K mg base 5 "need_frames" ["thing"] spNeedFrames := def_of i12 X G (fun _ _ F => ok_needframes F T (d_is_frame.less isf_ift)) fun _ _ _ _ _ _ => us1 fun _ => rfl
  have e_need_frames : Def1 l.prog w K mg base 5 "need_frames" ["thing"] (spOr spNeedFrames (spNoFs c6)) := def1_of i12 X G (fun _ _ F => (ok_needframes F T (d_is_frame.less isf_ift)).up.or (ok_needframes1 F T d_is_frame o6 en.n6)) fun _ _ _ _ _ _ => us1 fun _ => rfl
  have d_is_even_number_of : Def l.prog w K mg base 12 "is_even_number_of" ["frame", "thing"] spEvenOf := def_of i13 X G (fun _ _ F => ok_evenof F d_is_between d_how_many d_is_even) fun _ _ _ _ _ _ => us2 fun _ _ => rfl
  have d_keeps_each : Def l.prog w K mg base 13 "keeps_each" ["frames", "thing"] spKeepsEach := def_of i14 X G (fun _ _ F => ok_keepseach F d_is_even_number_of) fun _ _ _ _ _ _ => us2 fun _ _ => rfl
  have e_keeps_all : Def1 l.prog w K mg base 14 "keeps_all" ["frames", "thing"] (spOr spKeepsAll (spNoFs2 c6)) := def1_of i15 X G (fun _ _ F => (ok_keepsall F d_need_frames d_keeps_each).up.or (ok_keepsall1 F e_need_frames)) fun _ _ _ _ _ _ => us2 fun _ _ => rfl
  have e_next_keeping : Def1 l.prog w K mg base 14 "next_keeping" ["frames", "n"] (spOr spNextKeeping (spOr (spNoFs2 c6) (spNoNf c1 badN))) := def1_of i16 X G (fun _ _ F => (ok_nextkeeping F T gLOOKED_THROUGH d_is_whole d_need_frames d_keeps_each).up.or ((ok_nextkeeping1 F e_need_frames).or (ok_nextkeeping2 F d_is_whole d_need_frames o1 en.n1))) fun _ _ _ _ _ _ => us2 fun _ _ => rfl
  have e_all_keeping : Def1 l.prog w K mg base 14 "all_keeping" ["frames", "n"] (spOr spAllKeeping (spOr (spNoFs2 c6) (spNoNf c1 badB))) := def1_of i17 X G (fun _ _ F => (ok_allkeeping F T gGREATEST_BOUND d_is_between d_need_frames d_keeps_each).up.or ((ok_allkeeping1 F e_need_frames).or (ok_allkeeping2 F gGREATEST_BOUND d_is_between d_need_frames o1 en.n1))) fun _ _ _ _ _ _ => us2 fun _ _ => rfl
  have d_law_cell : Def l.prog w K mg base 1 "_law_cell" ["script", "k"] (spCell K) := def_of i18 X G (fun _ _ F => ok_cell F T) fun _ _ _ _ _ _ => us2 fun _ _ => rfl
  have d_law_store : Def l.prog w K mg base 1 "_law_store" ["cell"] spStore := def_of i19 X G (fun _ _ F => ok_store F) fun _ _ _ _ _ _ => us1 fun _ => rfl
  have d_law_take : Def l.prog w K mg base 1 "_law_take" ["store", "many"] spTake := def_of i20 X G (fun _ _ F => ok_take F) fun _ _ _ _ _ _ => us2 fun _ _ => rfl
  have d_law_frame : Def l.prog w K mg base 2 "_law_frame" ["store", "longest"] spFrame := def_of i21 X G (fun _ _ F => ok_frame F T d_law_take) fun _ _ _ _ _ _ => us2 fun _ _ => rfl
  have d_law_frames : Def l.prog w K mg base 3 "_law_frames" ["store"] spFrames := def_of i22 X G (fun _ _ F => ok_frames F T d_law_take d_law_frame) fun _ _ _ _ _ _ => us1 fun _ => rfl
  have d_law_copies : Def l.prog w K mg base 1 "_law_copies" ["frames"] spCopies := def_of i23 X G (fun _ _ F => ok_copies F T) fun _ _ _ _ _ _ => us1 fun _ => rfl
  have d_law_kind : Def l.prog w K mg base 1 "_law_kind" ["e", "due"] (spKind K (cs [c0, c1, c2, c3, c4, c5, c6, c7, c8, c9])) := def_of i24 X G (fun _ _ F => ok_kind F T en) fun _ _ _ _ _ _ => us2 fun _ _ => rfl
  have d_law_no_frame : Def l.prog w K mg base 2 "_law_no_frame" ["store", "frame"] spNoFrame := def_of i25 X G (fun _ _ F => ok_noframe F T d_law_take) fun _ _ _ _ _ _ => us2 fun _ _ => rfl
  have d_law_no_frames : Def l.prog w K mg base 3 "_law_no_frames" ["store", "frames"] spNoFrames := def_of i26 X G (fun _ _ F => ok_noframes F T d_law_take d_law_no_frame) fun _ _ _ _ _ _ => us2 fun _ _ => rfl
  have d_law_word : Def l.prog w K mg base 15 "_law_word" ["door", "frames", "n"] (spWord (cs [c0, c1, c2, c3, c4, c5, c6, c7, c8, c9])) := def_of i27 X G (fun _ _ F => ok_word F (PySem.W.mg_of X G eB) u1 u6 y1 y6 d_law_kind e_keeps_all e_next_keeping e_all_keeping) fun _ _ _ _ _ _ => us3 fun _ _ _ => rfl
  exact ok_law F T nrepr d_law_cell d_law_store d_law_take d_law_frames d_law_copies d_law_no_frames d_law_word
theorem walk {l : PySem.W.OpenLaw} {q : Program} {loose : List Str} {XP : (Str → Option Value) → Heap → Prop} {YP : World → Heap → Prop} {d : DefRec} {K : Params → PySem.W.Frag} (hn : l.most = some 63) (hdf : d.params.defaults = [])
    (hY : ∀ (w : World) (h : Heap), YP w h → (K w.params).In h)
    (F : ∀ (w : World) (mg : Str → Option Value) (fa : Addr) (h : Heap), (K w.params).In h → h.Ns mainGlobals mg → mg d.name = some (.ref fa) →
      ∃ fd : FuncData, (∀ (s : Shared) (u : Value), BindsTo s fd ⟨[u], []⟩ [("script", u)]) ∧ ∀ base : Heap, (K w.params).In base → base.Ns mainGlobals mg → FnOk l.prog w (K w.params) mg base CX0 16 fa fd ["script"] (spLaw (K w.params))) :
    PySem.W.WalkO q loose XP YP l.row.toRowW d [] (fun f vs => PySem.call f vs) :=
  L2.walk_of (n := 63) (k := 16) (x := "script") (CX := fun _ => CX0) (sp := fun w => spLaw (K w.params)) hn (by decide) hdf ⟨rfl, by decide, by decide, rfl⟩ hY F (fun _ _ a ns hl _ hS => ⟨a, ns, rfl, hS, hl, fun _ => rfl⟩) fun _ _ _ _ _ z => z
end Hv
open PySem PySem.W PyProof.Rows
theorem PySem.W.Fast.tw16681667172306963646 : True := trivial
theorem PySem.W.Fast.tw9320450921216127529 : True := trivial
theorem PySem.W.Fast.tw9162488466050590351 : True := trivial
theorem PySem.W.Fast.tw2508447520861642428 : True := trivial
theorem PySem.W.Fast.tw1171701461763539839 : True := trivial
theorem PySem.W.Fast.tw3675266241732437315 : True := trivial
theorem PySem.W.Fast.tw312561274971690434 : True := trivial
theorem PySem.W.Fast.tw13914925727131477308 : True := trivial
theorem PySem.W.Fast.tw17796326746945303656 : True := trivial
theorem PySem.W.Fast.tw15561800692937942919 : True := trivial
theorem PySem.W.Fast.tw7500009984662613012 : True := trivial
theorem PySem.W.Fast.tw17372946237424727978 : True := trivial
theorem PySem.W.Fast.tw10686266670645376963 : True := trivial
theorem PySem.W.Fast.tw3264401620777614771 : True := trivial
theorem PySem.W.Fast.tw17292575402970167396 : True := trivial
theorem PySem.W.Fast.tw3880902268905189699 : True := trivial
theorem PySem.W.Fast.tw14038113224614158989 : True := trivial
theorem PySem.W.Fast.tw6392211645932059548 : True := trivial
theorem PySem.W.Fast.tw15742945302491042911 : True := trivial
theorem PySem.W.Fast.tw5566594451258134816 : True := trivial
theorem PySem.W.Fast.tw2018767070492064918 : True := trivial
theorem PySem.W.Fast.tw7574830083229321310 : True := trivial
theorem PySem.W.Fast.tw3669672466206701286 : True := trivial
theorem PySem.W.Fast.tw6631423183079154824 : True := trivial
theorem PySem.W.Fast.tw4707159290108111236 : True := trivial
theorem PySem.W.Fast.tw6382002185867316739 : True := trivial
theorem PySem.W.Fast.tw8460606956159624943 : True := trivial
theorem PySem.W.Fast.tw16264469589857017700 : True := trivial
theorem PySem.W.Fast.tw7819930226078575161 : True := trivial
theorem PySem.W.Fast.tw11066920917160161888 : True := trivial
theorem PySem.W.Fast.tw13231337340981778472 : True := trivial
theorem PySem.W.Fast.tw15934728138236167021 : True := trivial
theorem PySem.W.Fast.tw12941004003480357660 : True := trivial
theorem PySem.W.Fast.tw14731769270491291570 : True := trivial
theorem PySem.W.Fast.tw2878711458431808461 : True := trivial
theorem PySem.W.Fast.tw15089917077000365633 : True := trivial
theorem PySem.W.Fast.tw15976467198090432161 : True := trivial
theorem PySem.W.Fast.tw16021192340748416433 : True := trivial
theorem PySem.W.Fast.tw2400426477412150523 : True := trivial
theorem PySem.W.Fast.tw12019126178201080669 : True := trivial
theorem PySem.W.Fast.tw18815238085749958 : True := trivial
theorem PySem.W.Fast.tw13805517236435261876 : True := trivial
theorem PySem.W.Fast.tw16457952871740660877 : True := trivial
theorem PySem.W.Fast.tw342875986036743051 : True := trivial
theorem PySem.W.Fast.tw10463373956194057094 : True := trivial
theorem PySem.W.Fast.tw6353343793675290545 : True := trivial
theorem PySem.W.Fast.tw10415496197573555913 : True := trivial
theorem PySem.W.Fast.tw10941710092063376198 : True := trivial
theorem PySem.W.Fast.tw3829487103106056405 : True := trivial
theorem PySem.W.Fast.tw5188750805128346862 : True := trivial
theorem PySem.W.Fast.tw13483999034806086853 : True := trivial
theorem PySem.W.Fast.tw10552496881398584163 : True := trivial
theorem PySem.W.Fast.tw10550282281654775150 : True := trivial
theorem PySem.W.Fast.tw9328996191556432350 : True := trivial
theorem PySem.W.Fast.tw2357813155158515210 : True := trivial
theorem PySem.W.Fast.tw5779905606306351350 : True := trivial
theorem PySem.W.Fast.tw14677146224248248206 : True := trivial
theorem PySem.W.Fast.tw948041962353683506 : True := trivial
theorem PySem.W.Fast.tw12551447013503060869 : True := trivial
theorem PySem.W.Fast.tw13894249512444018015 : True := trivial
theorem PySem.W.Fast.tw12058077858482245807 : True := trivial
theorem PySem.W.Fast.tw8917387741936366147 : True := trivial
theorem PySem.W.Fast.tw6551461452624770630 : True := trivial
theorem PySem.W.Fast.tw9752863848651163952 : True := trivial
theorem PySem.W.Fast.tw4892182780040558681 : True := trivial
theorem PySem.W.Fast.tw14198490605042891133 : True := trivial
theorem PySem.W.Fast.tw6330912334473503504 : True := trivial
theorem PySem.W.Fast.tw1461920617266366006 : True := trivial
theorem PySem.W.Fast.tw4295280292904326659 : True := trivial
theorem PySem.W.Fast.tw10332629022441278491 : True := trivial
theorem PySem.W.Fast.tw12975122291842500871 : True := trivial
theorem PySem.W.Fast.tw1197904420557959550 : True := trivial
theorem PySem.W.Fast.tw7454832685861352181 : True := trivial
theorem PySem.W.Fast.tw16742395602706169606 : True := trivial
theorem PySem.W.Fast.tw7849593889510786540 : True := trivial
theorem PySem.W.Fast.tw7749392766816131658 : True := trivial
theorem PySem.W.Fast.tw7294417963648249142 : True := trivial
theorem PySem.W.Fast.tw5722600746358790532 : True := trivial
theorem PySem.W.Fast.tw17536023321389165071 : True := trivial
theorem PySem.W.Fast.tw4480299018630015460 : True := trivial
theorem PySem.W.Fast.tw11276888270361930575 : True := trivial
theorem PySem.W.Fast.tw13412699200906561993 : True := trivial
theorem PySem.W.Fast.tw1403609186420950857 : True := trivial
theorem PySem.W.Fast.tw13998386725940319375 : True := trivial
theorem PySem.W.Fast.tw8254618621661455678 : True := trivial
theorem PySem.W.Fast.tw9128647406331656515 : True := trivial
theorem PySem.W.Fast.tw3753913805701319660 : True := trivial
theorem PySem.W.Fast.tw11703263749308239636 : True := trivial
theorem PySem.W.Fast.tw9398491434986284236 : True := trivial
theorem PySem.W.Fast.tw5272831445523747238 : True := trivial
theorem PySem.W.Fast.tw236366512404596147 : True := trivial
theorem PySem.W.Fast.tw6553898403662689828 : True := trivial
theorem PySem.W.Fast.tw10185086274167320337 : True := trivial
theorem PySem.W.Fast.tw10152190619794814927 : True := trivial
theorem PySem.W.Fast.tw3280666816073619250 : True := trivial
theorem PySem.W.Fast.tw3788840971341742879 : True := trivial
theorem PySem.W.Fast.tw893410907503289597 : True := trivial
theorem PySem.W.Fast.tw1263754317527595511 : True := trivial
theorem PySem.W.Fast.tw345150655734798308 : True := trivial
theorem PySem.W.Fast.tw1628322314916982871 : True := trivial
theorem PySem.W.Fast.tw10808564466682774711 : True := trivial
theorem PySem.W.Fast.tw10155549836086095690 : True := trivial
theorem PySem.W.Fast.tw414457494973102613 : True := trivial
theorem PySem.W.Fast.tw6981436301165414215 : True := trivial
theorem PySem.W.Fast.tw16191977027023087919 : True := trivial
theorem PySem.W.Fast.tw14276025549844154858 : True := trivial
theorem PySem.W.Fast.tw9906314193499605604 : True := trivial
theorem PySem.W.Fast.tw3601482281442458914 : True := trivial
theorem PySem.W.Fast.tw13267014629827398386 : True := trivial
theorem PySem.W.Fast.tw6740294776384524989 : True := trivial
theorem PySem.W.Fast.tw196926049252176689 : True := trivial
theorem PySem.W.Fast.tw16684377997206437416 : True := trivial
theorem PySem.W.Fast.tw180915807346203050 : True := trivial
theorem PySem.W.Fast.tw1455675759771083696 : True := trivial
theorem PySem.W.Fast.tw8133882648698766887 : True := trivial
theorem PySem.W.Fast.tw6640893845357196423 : True := trivial
theorem PySem.W.Fast.tw11835560678430660653 : True := trivial
theorem PySem.W.Fast.tw17248319973549750914 : True := trivial
theorem PySem.W.Fast.tw9321954753580697353 : True := trivial
theorem PySem.W.Fast.tw5520644428848176943 : True := trivial
theorem PySem.W.Fast.tw11003692448205868169 : True := trivial
theorem PySem.W.Fast.tw7257890585825726750 : True := trivial
theorem PySem.W.Fast.tw14224909184254223182 : True := trivial
theorem PySem.W.Fast.tw3875500466582717838 : True := trivial
theorem PySem.W.Fast.tw16579935267641991592 : True := trivial
theorem PySem.W.Fast.tw3935916483716436273 : True := trivial
theorem PySem.W.Fast.tw6625166672455476037 : True := trivial
theorem PySem.W.Fast.tw5757267761821217384 : True := trivial
theorem PySem.W.Fast.tw10289817723809924823 : True := trivial
theorem PySem.W.Fast.tw13990854802441231993 : True := trivial
theorem PySem.W.Fast.tw9429810659858769685 : True := trivial
theorem PySem.W.Fast.tw3483942822528875805 : True := trivial
theorem PySem.W.Fast.tw6001539383490406105 : True := trivial
theorem PySem.W.Fast.tw3521466960161168676 : True := trivial
theorem PySem.W.Fast.tw12835769860911119808 : True := trivial
theorem PySem.W.Fast.tw10239793700179792794 : True := trivial
theorem PySem.W.Fast.tw7513048961991576506 : True := trivial
theorem PySem.W.Fast.tw10498369210302326430 : True := trivial
theorem PySem.W.Fast.tw9179425424716064630 : True := trivial
theorem PySem.W.Fast.tw4970634003930134815 : True := trivial
theorem PySem.W.Fast.tw9147828843745404352 : True := trivial
theorem PySem.W.Fast.tw7138152423310929604 : True := trivial
theorem PySem.W.Fast.tw2186646960889521122 : True := trivial
theorem PySem.W.Fast.tw10127381722166576811 : True := trivial
theorem PySem.W.Fast.tw16933727869378304164 : True := trivial
theorem PySem.W.Fast.tw11053881457867194075 : True := trivial
theorem PySem.W.Fast.tw14922463771719969644 : True := trivial
theorem PySem.W.Fast.tw13658830595874855971 : True := trivial
theorem PySem.W.Fast.tw15373237182447074774 : True := trivial
theorem PySem.W.Fast.tw11095167705446023085 : True := trivial
theorem PySem.W.Fast.tw4254943054185588605 : True := trivial
theorem PySem.W.Fast.tw9883027945744989079 : True := trivial
theorem PySem.W.Fast.tw13748523110722221936 : True := trivial
theorem PySem.W.Fast.tw5459455331543865878 : True := trivial
theorem PySem.W.Fast.tw9809612306278045608 : True := trivial
theorem PySem.W.Fast.tw11534953637401497447 : True := trivial
theorem PySem.W.Fast.tw3207674831391289079 : True := trivial
theorem PySem.W.Fast.tw15321965507525541165 : True := trivial
theorem PySem.W.Fast.tw5962034004864692113 : True := trivial
theorem PySem.W.Fast.tw2297693661035274226 : True := trivial
theorem PySem.W.Fast.tw10090765468327109280 : True := trivial
theorem PySem.W.Fast.tw1788441191928402255 : True := trivial
theorem PySem.W.Fast.tw12566351850807248210 : True := trivial
theorem PySem.W.Fast.tw6203428340494980256 : True := trivial
theorem PySem.W.Fast.tw13100458360236397900 : True := trivial
theorem PySem.W.Fast.tw6539102377079853930 : True := trivial
theorem PySem.W.Fast.tw17066724291867932041 : True := trivial
theorem PySem.W.Fast.tw18338195205441109562 : True := trivial
theorem PySem.W.Fast.tw1969289342428143014 : True := trivial
theorem PySem.W.Fast.tw8937140557883557358 : True := trivial
theorem PySem.W.Fast.tw4637292851155496530 : True := trivial
theorem PySem.W.Fast.tw12751014831513106475 : True := trivial
theorem PySem.W.Fast.tw7274002549904817481 : True := trivial
theorem PySem.W.Fast.tw14891885386474755201 : True := trivial
theorem PySem.W.Fast.tw1576812266640108365 : True := trivial
theorem PySem.W.Fast.tw4200361399167372355 : True := trivial
theorem PySem.W.Fast.tw17787516107812865411 : True := trivial
theorem PySem.W.Fast.tw6865671885730574016 : True := trivial
theorem PySem.W.Fast.tw2614721488299148463 : True := trivial
theorem PySem.W.Fast.tw13204334849259866051 : True := trivial
theorem PySem.W.Fast.tw43811529637319874 : True := trivial
theorem PySem.W.Fast.tw3199226243742177113 : True := trivial
theorem PySem.W.Fast.tw3556491783055454886 : True := trivial
theorem PySem.W.Fast.tw15909740609124454030 : True := trivial
theorem PySem.W.Fast.tw1363816348743585348 : True := trivial
theorem PySem.W.Fast.tw6047937205395957850 : True := trivial
theorem PySem.W.Fast.tw4863449278523099529 : True := trivial
theorem PySem.W.Fast.tw7828377628788756519 : True := trivial
theorem PySem.W.Fast.tw14557645764471720140 : True := trivial
theorem PySem.W.Fast.tw2974148964527907663 : True := trivial
theorem PySem.W.Fast.tw8839255659744354839 : True := trivial
theorem PySem.W.Fast.tw13405830442602385447 : True := trivial
theorem PySem.W.Fast.tw10374918791648789688 : True := trivial
theorem PySem.W.Fast.tw11665236910576395209 : True := trivial
theorem PySem.W.Fast.tw17229310828549001751 : True := trivial
theorem PySem.W.Fast.tw13823015194171208152 : True := trivial
theorem PySem.W.Fast.tw10550764178629598287 : True := trivial
theorem PySem.W.Fast.tw12884908798514274725 : True := trivial
theorem PySem.W.Fast.tw3351531742172834565 : True := trivial
theorem PySem.W.Fast.tw6961719791567496986 : True := trivial
theorem PySem.W.Fast.tw7758318542008080409 : True := trivial
theorem PySem.W.Fast.tw14612444983863840373 : True := trivial
theorem PySem.W.Fast.tw13594622441951025942 : True := trivial
theorem PySem.W.Fast.tw2820906213086327190 : True := trivial
theorem PySem.W.Fast.tw17194906550766991421 : True := trivial
theorem PySem.W.Fast.tw12265789549753699286 : True := trivial
theorem PySem.W.Fast.tw8086444303889438143 : True := trivial
theorem PySem.W.Fast.tw9827073556262152760 : True := trivial
theorem PySem.W.Fast.tw712764349729771392 : True := trivial
theorem PySem.W.Fast.tw9405452550226025754 : True := trivial
theorem PySem.W.Fast.tw6106664329392937923 : True := trivial
theorem PySem.W.Fast.tw3789851048210617690 : True := trivial
theorem PySem.W.Fast.tw10151080920053559465 : True := trivial
theorem PySem.W.Fast.tw5475544864097625871 : True := trivial
theorem PySem.W.Fast.tw13013774273417593560 : True := trivial
theorem PySem.W.Fast.tw12862575601657803942 : True := trivial
theorem PySem.W.Fast.tw5372987579113808327 : True := trivial
theorem PySem.W.Fast.tw16046478309422783965 : True := trivial
theorem PySem.W.Fast.tw14744265860499044686 : True := trivial
theorem PySem.W.Fast.tw12526039923753656482 : True := trivial
theorem PySem.W.Fast.tw17980364985765811391 : True := trivial
theorem PySem.W.Fast.tw9098773868841213553 : True := trivial
theorem PySem.W.Fast.tw3834899357767551399 : True := trivial
theorem PySem.W.Fast.tw18387326977869421423 : True := trivial
theorem PySem.W.Fast.tw16216160037558472188 : True := trivial
theorem PySem.W.Fast.tw16643059318847648200 : True := trivial
theorem PySem.W.Fast.tw16274314984111971598 : True := trivial
theorem PySem.W.Fast.tw9659432439541124916 : True := trivial
theorem PySem.W.Fast.tw9915205903185028402 : True := trivial
theorem PySem.W.Fast.tw1332268858372571399 : True := trivial
theorem PySem.W.Fast.tw3155102905005968118 : True := trivial
theorem PySem.W.Fast.tw9516164451206750037 : True := trivial
theorem PySem.W.Fast.tw1251434573434635678 : True := trivial
theorem PySem.W.Fast.tw7518063345320352836 : True := trivial
theorem PySem.W.Fast.tw6295684822908456041 : True := trivial
theorem PySem.W.Fast.tw1873801129263357740 : True := trivial
theorem PySem.W.Fast.tw6683229264528104967 : True := trivial
theorem PySem.W.Fast.tw12207702701153328004 : True := trivial
theorem PySem.W.Fast.tw617814010650597592 : True := trivial
theorem PySem.W.Fast.tw17680873364779938830 : True := trivial
theorem PySem.W.Fast.tw10828516858041624121 : True := trivial
theorem PySem.W.Fast.tw10900855100747012612 : True := trivial
theorem PySem.W.Fast.tw2598815264200189019 : True := trivial
theorem PySem.W.Fast.tw7300614348163316490 : True := trivial
theorem PySem.W.Fast.tw4030574291033302954 : True := trivial
theorem PySem.W.Fast.tw14554476393020000577 : True := trivial
theorem PySem.W.Fast.tw5630252812262548807 : True := trivial
theorem PySem.W.Fast.tw17424003935003798952 : True := trivial
theorem PySem.W.Fast.tw14650608946177521420 : True := trivial
theorem PySem.W.Fast.tw3393935342887937950 : True := trivial
theorem PySem.W.Fast.tw18104881637651661662 : True := trivial
theorem PySem.W.Fast.tw5891992668655616142 : True := trivial
theorem PySem.W.Fast.tw2888231004256567609 : True := trivial
theorem PySem.W.Fast.tw4436490958213872148 : True := trivial
theorem PySem.W.Fast.tw17816620185353574404 : True := trivial
theorem PySem.W.Fast.tw14415939525114403507 : True := trivial
theorem PySem.W.Fast.tw248453507856751113 : True := trivial
theorem PySem.W.Fast.tw1867253470907492342 : True := trivial
theorem PySem.W.Fast.tw17106231115993094814 : True := trivial
theorem PySem.W.Fast.tw17832864174959706839 : True := trivial
theorem PySem.W.Fast.tw13823603819831731834 : True := trivial
theorem PySem.W.Fast.tw13338992885243227585 : True := trivial
theorem PySem.W.Fast.tw2372705443598212816 : True := trivial
theorem PySem.W.Fast.tw6818590134757051990 : True := trivial
theorem PySem.W.Fast.tw8510319396772156719 : True := trivial
theorem PySem.W.Fast.tw8161826763311342131 : True := trivial
theorem PySem.W.Fast.tw13219621017750021999 : True := trivial
theorem PySem.W.Fast.tw7955086188083106308 : True := trivial
theorem PySem.W.Fast.tw7383668364820732433 : True := trivial
theorem PySem.W.Fast.tw15355667069714121959 : True := trivial
theorem PySem.W.Fast.tw4958670082315001976 : True := trivial
theorem PySem.W.Fast.tw16630941680958182432 : True := trivial
theorem PySem.W.Fast.tw2415653212374592275 : True := trivial
theorem PySem.W.Fast.tw14420885110803920313 : True := trivial
theorem PySem.W.Fast.tw13508674831638538679 : True := trivial
theorem PySem.W.Fast.tw6405092955928704956 : True := trivial
theorem PySem.W.Fast.tw5091883153579986235 : True := trivial
theorem PySem.W.Fast.tw7610425921624082787 : True := trivial
theorem PySem.W.Fast.tw7742746022915112814 : True := trivial
theorem PySem.W.Fast.tw285749900197625210 : True := trivial
theorem PySem.W.Fast.tw2507703930889081239 : True := trivial
theorem PySem.W.Fast.tw4191089689602837715 : True := trivial
theorem PySem.W.Fast.tw8541109897611793211 : True := trivial
theorem PySem.W.Fast.tw18259814888980426540 : True := trivial
theorem PySem.W.Fast.tw5769743751623645262 : True := trivial
theorem PySem.W.Fast.tw7307970283693419109 : True := trivial
theorem PySem.W.Fast.tw3722557931456908504 : True := trivial
theorem PySem.W.Fast.tw18289767642017674882 : True := trivial
theorem PySem.W.Fast.tw16344780717362851504 : True := trivial
theorem PySem.W.Fast.tw3076442130771847682 : True := trivial
theorem PySem.W.Fast.tw15627772122978409001 : True := trivial
theorem PySem.W.Fast.tw9129103443241532582 : True := trivial
theorem PySem.W.Fast.tw1845706593384024365 : True := trivial
theorem PySem.W.Fast.tw10885694092727567002 : True := trivial
theorem PySem.W.Fast.tw5411527988892285393 : True := trivial
theorem PySem.W.Fast.tw12780391778159519434 : True := trivial
theorem PySem.W.Fast.tw18214949042830333465 : True := trivial
theorem PySem.W.Fast.tw12350944972731013274 : True := trivial
theorem PySem.W.Fast.tw2161816833052111295 : True := trivial
theorem PySem.W.Fast.tw8954267577682168120 : True := trivial
theorem PySem.W.Fast.tw16747353630060596442 : True := trivial
theorem PySem.W.Fast.tw6579318221954657214 : True := trivial
theorem PySem.W.Fast.tw13756508927798188921 : True := trivial
theorem PySem.W.Fast.tw12597193912656766747 : True := trivial
theorem PySem.W.Fast.tw14059977315292349364 : True := trivial
theorem PySem.W.Fast.tw7625035000545303600 : True := trivial
theorem PySem.W.Fast.tw10239637988316755649 : True := trivial
theorem PySem.W.Fast.tw728310272094930333 : True := trivial
theorem PySem.W.Fast.tw4173522117700682480 : True := trivial
theorem PySem.W.Fast.tw2876798748009626697 : True := trivial
theorem PySem.W.Fast.tw9780679667621002147 : True := trivial
theorem PySem.W.Fast.tw3884479685161875454 : True := trivial
theorem PySem.W.Fast.tw4528438046314681749 : True := trivial
theorem PySem.W.Fast.tw10703216823409964041 : True := trivial
theorem PySem.W.Fast.tw13075173372813282714 : True := trivial
theorem PySem.W.Fast.tw9204610240460479778 : True := trivial
theorem PySem.W.Fast.tw7471188065127143391 : True := trivial
theorem PySem.W.Fast.tw9936568592906166420 : True := trivial
theorem PySem.W.Fast.tw9014442300670701723 : True := trivial
theorem PySem.W.Fast.tw15742719088609358699 : True := trivial
theorem PySem.W.Fast.tw6648724735523771865 : True := trivial
theorem PySem.W.Fast.tw15901885368759359495 : True := trivial
theorem PySem.W.Fast.tw18423871565583935982 : True := trivial
theorem PySem.W.Fast.tw17599143067082670945 : True := trivial
theorem PySem.W.Fast.tw13270959910096673574 : True := trivial
theorem PySem.W.Fast.tw9668483127872422130 : True := trivial
theorem PySem.W.Fast.tw10469664358350271423 : True := trivial
theorem PySem.W.Fast.tw11388024040226338816 : True := trivial
theorem PySem.W.Fast.tw4505551538198352541 : True := trivial
theorem PySem.W.Fast.tw11227455318545811768 : True := trivial
theorem PySem.W.Fast.tw15877444951046753525 : True := trivial
theorem PySem.W.Fast.tw9356693454492996174 : True := trivial
theorem PySem.W.Fast.tw7348657010526074703 : True := trivial
theorem PySem.W.Fast.tw1571861394387455092 : True := trivial
theorem PySem.W.Fast.tw1413874475513290202 : True := trivial
theorem PySem.W.Fast.tw11815664703988439153 : True := trivial
theorem PySem.W.Fast.tw3611183967576986569 : True := trivial
theorem PySem.W.Fast.tw10880391658673684789 : True := trivial
theorem PySem.W.Fast.tw14727324370195991153 : True := trivial
theorem PySem.W.Fast.tw2088000772551264431 : True := trivial
theorem PySem.W.Fast.tw501657127937954028 : True := trivial
theorem PySem.W.Fast.tw17175742208915291837 : True := trivial
theorem PySem.W.Fast.tw15005475849223256540 : True := trivial
theorem PySem.W.Fast.tw10259511392572902685 : True := trivial
theorem PySem.W.Fast.tw9798784103666278181 : True := trivial
theorem PySem.W.Fast.tw2833888855435076181 : True := trivial
theorem PySem.W.Fast.tw14900736571443310413 : True := trivial
theorem PySem.W.Fast.tw9728932001115771995 : True := trivial
theorem PySem.W.Fast.tw310103462326691753 : True := trivial
theorem PySem.W.Fast.tw11126996500889354997 : True := trivial
theorem PySem.W.Fast.tw16350845721208188132 : True := trivial
theorem PySem.W.Fast.tw18358267615117622566 : True := trivial
theorem PySem.W.Fast.tw15918791168352257952 : True := trivial
theorem PySem.W.Fast.tw2662483873037448106 : True := trivial
theorem PySem.W.Fast.tw5973362852390036403 : True := trivial
theorem PySem.W.Fast.tw1298053786768081535 : True := trivial
theorem PySem.W.Fast.tw13506130378530372450 : True := trivial
theorem PySem.W.Fast.tw4196645437236032976 : True := trivial
theorem PySem.W.Fast.tw10986416062417131821 : True := trivial
theorem PySem.W.Fast.tw14950007052941746481 : True := trivial
theorem PySem.W.Fast.tw11126596193771066274 : True := trivial
theorem PySem.W.Fast.tw15952172435281738923 : True := trivial
theorem PySem.W.Fast.tw17887011219821599017 : True := trivial
theorem PySem.W.Fast.tw10277832817162116992 : True := trivial
theorem PySem.W.Fast.tw6369718928505819427 : True := trivial
theorem PySem.W.Fast.tw11786551436934326813 : True := trivial
theorem PySem.W.Fast.tw16793830278083002633 : True := trivial
theorem PySem.W.Fast.tw5885595396740809692 : True := trivial
theorem PySem.W.Fast.tw17641785591967405610 : True := trivial
set_option maxRecDepth 100000 in
set_option maxHeartbeats 0 in
theorem PySem.Challenge.cw_likehalves_k27_together_refused_holds : PySem.Challenge.rw_likehalves_k27_together_refused.Holds := by
  w_on; o_law; k_head; (case hw => w_witness2)
  k_fill
  refine Hv.walk (l := PySem.Challenge.rw_likehalves_k27_together_refused) rfl rfl (fun w h Y => PySem.W.kIn_of Y) ?F
  case F =>
    intro w mg fa h KX G hmg
    refine' Hv.all_mk KX G hmg ?t ?i0 ?i1 ?i2 ?i3 ?i4 ?i5 ?i6 ?i7 ?i8 ?i9 ?i10 ?i11 ?i12 ?i13 ?i14 ?i15 ?i16 ?i17 ?i18 ?i19 ?i20 ?i21 ?i22 ?i23 ?i24 ?i25 ?i26 ?i27 ?eB ?e0 ?e1 ?e2 ?e3 ?e4 ?e5 ?e6 ?e7 ?e8 ?e9 ?tB ?mB ?q1 ?m1 ?l1 ?v1 ?k1_0 ?k1_1 ?k1_2 ?k1_3 ?k1_4 ?k1_5 ?k1_6 ?k1_7 ?k1_8 ?k1_9 ?q6 ?m6 ?l6 ?v6 ?k6_0 ?k6_1 ?k6_2 ?k6_3 ?k6_4 ?k6_5 ?k6_6 ?k6_7 ?k6_8 ?k6_9 ?gGREATEST_BOUND ?gLOOKED_THROUGH ?nrepr ?nValueError ?jl
    case eB => k_is
    case e0 => k_is
    case e1 => k_is
    case e2 => k_is
    case e3 => k_is
    case e4 => k_is
    case e5 => k_is
    case e6 => k_is
    case e7 => k_is
    case e8 => k_is
    case e9 => k_is
    case tB => k_is
    case mB => k_is
    case q1 => kernel_rfl
    case m1 => k_is
    case l1 => exact ⟨by k_is, by k_is, by kernel_rfl, by k_is, by k_is⟩
    case v1 => kernel_rfl
    case k1_0 => kernel_rfl
    case k1_1 => kernel_rfl
    case k1_2 => kernel_rfl
    case k1_3 => kernel_rfl
    case k1_4 => kernel_rfl
    case k1_5 => kernel_rfl
    case k1_6 => kernel_rfl
    case k1_7 => kernel_rfl
    case k1_8 => kernel_rfl
    case k1_9 => kernel_rfl
    case q6 => kernel_rfl
    case m6 => k_is
    case l6 => exact ⟨by k_is, by k_is, by kernel_rfl, by k_is, by k_is⟩
    case v6 => kernel_rfl
    case k6_0 => kernel_rfl
    case k6_1 => kernel_rfl
    case k6_2 => kernel_rfl
    case k6_3 => kernel_rfl
    case k6_4 => kernel_rfl
    case k6_5 => kernel_rfl
    case k6_6 => kernel_rfl
    case k6_7 => kernel_rfl
    case k6_8 => kernel_rfl
    case k6_9 => kernel_rfl
    case gGREATEST_BOUND => exact ⟨_, by k_is⟩
    case gLOOKED_THROUGH => exact ⟨_, by k_is⟩
    case nrepr => k_is
    case nValueError => k_is
    case t => refine ⟨?_, ?_, ?_, ?_, ?_, ?_, ?_, ?_, ?_, ?_, ?_, ?_, ?_, ?_⟩ <;> k_is
    all_goals
      refine' Hv.fn_in ?a ?l ?c ?k
      (case a => k_is); (case l => k_is); (case c => k_is); (case k => k_is)
#print axioms PySem.Challenge.cw_likehalves_k27_together_refused_holds
