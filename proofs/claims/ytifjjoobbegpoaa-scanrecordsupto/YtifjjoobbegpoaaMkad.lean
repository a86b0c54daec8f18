/-
  OWN ROWS OF STRUCTS THAT THEIR OWNER WRITES FULL: one element stored (run_storeAt_mid: 'setCells') leaves the row with that element in its place.
  ROWS OF STRUCTS THAT CAME OUT, EACH ITS OWNER'S: several of them, no two the same ('RSR'); written full, each of a mark of its own ('In1R'), then made longer one by one ('In2R').
  LISTS OF STRUCTS THAT CAME OUT, EACH ITS OWNER'S, AND A SECOND LIST OF THE LONGER ONES: what is known while they are written full ('Q1'), while they are made longer ('Q2'), and when they are looked at ('Q2.cells').
  PLAIN MATHEMATICS OF ESCAPED BYTES: 'wr' (the escaped bytes of plain ones), 'fs' (the plain byte at the front), 'told' (what is told, with places), 'bad' (the first that cannot stand). No program.
  THE WALKS OF escape.Size, escape.first.
  THE WALKS OF escape.Size, escape.Wrap, escape.Open: what 'wr', 'plain' and 'badB' say, in rows of the call's own.
-/
import Derived.Test.YtifjjoobbegpoaaMkac
import Derived.Deep.MidRow
import Derived.Test.YtifjjoobbegpoaaMkaa
import Derived.Laws.BytesString
namespace Go.Proofs.Ytifjjoobbegpoaa
open Go.RowKit
namespace Os
open Vt
theorem row_setR {w : World} {base g p : Nat} {E : TypeId} {sz n cap : Nat} {xs : List Value} (h : w.ownsRow base E sz (.slice (some ⟨g, 0, none⟩) n cap) n xs) {u : Value} : (w.setCell ⟨g, p, none⟩ u).ownsRow base E sz (.slice (some ⟨g, 0, none⟩) n cap) n (xs.set p u) := by
  obtain ⟨h0, ⟨h, _⟩ | ⟨g', cap', cur, h, hb, hh, hl, hm, hc, ht⟩⟩ := h
  · cases h
  · injection h with h1 h2 h3
    injection h1 with h1
    injection h1 with h1
    subst h1 h3
    refine ⟨by rw [List.length_set]; exact h0, .inr ⟨g, cap, cur.setIfInBounds p u, rfl, hb, ?_, hl, hm, by rw [Array.size_setIfInBounds]; exact hc, ?_⟩⟩
    · have hlt := (Array.getElem?_eq_some_iff.1 hh).1
      have h' : w.heap[g] = .cells cur E (0, 0) := by simpa [Array.getElem?_eq_getElem hlt] using hh
      show (w.heap.modify g _)[g]? = _
      rw [Array.getElem?_eq_getElem (by simpa using hlt), Array.getElem_modify_self, h']
      rfl
    · rw [Array.toList_setIfInBounds, List.take_set, ht]
/-- what was put there from p on -/
def putFrom : List Value → Nat → List Value → List Value
  | l, _, [] => l
  | l, p, u :: q => putFrom (l.set p u) (p + 1) q
theorem putFrom_eq (r : List Value) : ∀ (l : List Value) (p : Nat), p + r.length ≤ l.length → putFrom l p r = l.take p ++ r ++ l.drop (p + r.length) := by
  induction r with
  | nil => intro l p _; simp [putFrom]
  | cons u q ih =>
    intro l p h
    rw [List.length_cons] at h
    rw [putFrom, ih (l.set p u) (p + 1) (by rw [List.length_set]; omega)]
    have e1 : (l.set p u).take (p + 1) = l.take p ++ [u] := by
      rw [List.take_succ_eq_append_getElem (by rw [List.length_set]; omega), List.getElem_set_self, List.take_set_of_le (Nat.le_refl _)]
    have e2 : (l.set p u).drop (p + 1 + q.length) = l.drop (p + 1 + q.length) := List.drop_set_of_lt (by omega)
    rw [e1, e2, List.length_cons, show p + (q.length + 1) = p + 1 + q.length by omega]
    simp
theorem rows_set {base g n cap sz : Nat} {E : TypeId} (r : List Value) : ∀ (w : World) (p : Nat) (xs : List Value), w.ownsRow base E sz (.slice (some ⟨g, 0, none⟩) n cap) n xs → (w.setCells g p r).ownsRow base E sz (.slice (some ⟨g, 0, none⟩) n cap) n (putFrom xs p r) := by
  induction r with
  | nil => intro w p xs h; exact h
  | cons u q ih => intro w p xs h; exact ih _ (p + 1) _ (row_setR h)
theorem flat_set {sz : Nat} {r : List Value} : ∀ (xs : List (List Value)) (k : Nat), (∀ x ∈ xs, x.length = sz) → k < xs.length → (xs.set k r).flatten = xs.flatten.take (k * sz) ++ r ++ xs.flatten.drop (k * sz + sz) := by
  intro xs
  induction xs with
  | nil => intro k _ hk; simp at hk
  | cons a q ih =>
    intro k hx hk
    have ha := hx a List.mem_cons_self
    have hq := fun x hx' => hx x (List.mem_cons_of_mem _ hx')
    cases k with
    | zero =>
      rw [List.set_cons_zero, List.flatten_cons, List.flatten_cons, Nat.zero_mul, Nat.zero_add, List.take_zero, List.nil_append, List.drop_left' ha]
    | succ k =>
      rw [List.set_cons_succ, List.flatten_cons, List.flatten_cons, ih k hq (by simpa using hk), Nat.succ_mul]
      rw [show k * sz + sz = a.length + k * sz by omega, List.take_append, List.take_of_length_le (by omega : a.length ≤ a.length + k * sz), Nat.add_sub_cancel_left]
      rw [show a.length + k * sz + sz = a.length + (k * sz + sz) by omega, List.drop_append, List.drop_of_length_le (by omega : a.length ≤ a.length + (k * sz + sz)), Nat.add_sub_cancel_left]
      simp only [List.append_assoc, List.nil_append]
      rw [show a.length + k * sz = k * sz + sz by omega]
section
variable {E : TypeId} {sz : Nat}
theorem jr_setCells {w : World} {base g n cap k : Nat} {xs : List (List Value)} (h : JR E sz w base (.slice (some ⟨g, 0, none⟩) n cap) xs) (hn : n = xs.length) (hk : k < xs.length) {r : List Value} (hr : r.length = sz) (h1 : ∀ u ∈ r, u.oneCell' = true) : JR E sz (w.setCells g (k * sz) r) base (.slice (some ⟨g, 0, none⟩) n cap) (xs.set k r) := by
  have hx : ∀ x ∈ xs, x.length = sz := fun x hx => (h.1 x hx).1
  have hkl : k * sz + r.length ≤ xs.flatten.length := by
    rw [flat_len hx, hr, ← Nat.succ_mul]
    exact Nat.mul_le_mul_right sz hk
  refine ⟨fun x hx' => ?_, ?_⟩
  · rcases List.mem_or_eq_of_mem_set hx' with hx' | hx'
    · exact h.1 x hx'
    · rw [hx']; exact ⟨hr, h1⟩
  · have h2 := h.2
    rw [← hn] at h2
    have h3 := rows_set r w (k * sz) _ h2
    rw [putFrom_eq r _ _ hkl, hr, ← flat_set xs k hx hk] at h3
    rw [List.length_set, ← hn]
    exact h3
theorem jr_thereR {w : World} {base g k n cap : Nat} {xs : List (List Value)} (h : JR E sz w base (.slice (some ⟨g, 0, none⟩) n cap) xs) (hk : k < xs.length) : w.there g (k * sz) sz := by
  intro j hj
  have hr : xs[k]? = some xs[k] := List.getElem?_eq_getElem hk
  have hl : xs[k].length = sz := (h.1 _ (List.getElem_mem hk)).1
  have hu : xs[k][j]? = some xs[k][j] := List.getElem?_eq_getElem (by omega)
  refine ⟨by rw [h.at k _ j _ hr hu]; rfl, ?_⟩
  obtain ⟨_, _, ⟨q, _⟩ | ⟨g', cap', cur, q, _, hh, _⟩⟩ := h
  · cases q
  · injection q with q _ _
    injection q with q
    injection q with q
    subst q
    simp [World.frozen?, hh]
/-- the store of one element, and what it leaves -/
theorem store_midR {w : World} {base g k n cap : Nat} {xs : List (List Value)} (h : JR E sz w base (.slice (some ⟨g, 0, none⟩) n cap) xs) (hn : n = xs.length) (hk : k < xs.length) (hi : (Try.prog.info? E).map (·.size) = some sz) {r : List Value} (hr : r.length = sz) (h1 : ∀ u ∈ r, u.oneCell' = true) :
    (Instr.storeAt E (.pointer (some ⟨g, k * sz, none⟩)) (.agg r.toArray)).run Try.prog w = .ok () (w.setCells g (k * sz) r) ∧ JR E sz (w.setCells g (k * sz) r) base (.slice (some ⟨g, 0, none⟩) n cap) (xs.set k r) := by
  have hz : r.toArray.size = sz := by simp [hr]
  refine ⟨run_storeAt_mid w g (k * sz) E r.toArray (by rw [hz]; exact jr_thereR h hk) (by rw [hz]; exact hi) ?_, jr_setCells h hn hk hr h1⟩
  rw [Array.all_eq_true']
  intro u hu
  exact h1 u (by simpa using hu)
end
theorem setCells_size (g : Nat) (r : List Value) : ∀ (w : World) (p : Nat), (w.setCells g p r).heap.size = w.heap.size := by
  induction r with
  | nil => intro w p; rfl
  | cons u q ih => intro w p; show ((w.setCell ⟨g, p, none⟩ u).setCells g (p + 1) q).heap.size = _; rw [ih]; simp [World.setCell]
theorem keepS_setCells {S : Nat → Prop} {g : Nat} (hg : ¬ S g) (r : List Value) : ∀ (w0 w : World) (p : Nat), KeepS S w0 w → KeepS S w0 (w.setCells g p r) := by
  induction r with
  | nil => intro w0 w p h; exact h
  | cons u q ih => intro w0 w p h; exact ih w0 _ (p + 1) (h.setCell (p := ⟨g, p, none⟩) hg u)
theorem others_setCells {g : Nat} (r : List Value) : ∀ (w : World) (p : Nat), KeepsOthers w (w.setCells g p r) := by
  induction r with
  | nil => intro w p; exact KeepsOthers.refl w
  | cons u q ih => intro w p; exact (KeepsOthers.setCell _ _ _).trans (ih _ (p + 1))
end Os
end Go.Proofs.Ytifjjoobbegpoaa
namespace Go.Proofs.Ytifjjoobbegpoaa
open Go.RowKit
namespace Os
open Vt Ow
theorem setCells_heap (g b : Nat) (h : b ≠ g) (r : List Value) : ∀ (w : World) (p : Nat), (w.setCells g p r).heap[b]? = w.heap[b]? := by
  induction r with
  | nil => intro w p; rfl
  | cons u q ih =>
    intro w p
    show ((w.setCell ⟨g, p, none⟩ u).setCells g (p + 1) q).heap[b]? = _
    rw [ih, set_heap w g p b u h]
theorem setCells_below {base g : Nat} (hg : base ≤ g) (r : List Value) : ∀ (w0 w : World) (p : Nat), Below base w0 w → Below base w0 (w.setCells g p r) := by
  induction r with
  | nil => intro w0 w p h; exact h
  | cons u q ih => intro w0 w p h; exact ih w0 _ (p + 1) (h.setCell hg u)
section
variable {α : Type} (mk : Nat → α)
/-- the rows while they are written full: those ahead of i are, of i the first k elements -/
def wrg (f : Nat → List α) (i k : Nat) : Nat → List α := fun t => if t < i then List.replicate (f t).length (mk t) else if t = i then List.replicate k (mk i) ++ (f i).drop k else f t
theorem rep_setg (k : Nat) (u : α) (xs : List α) (h : k < xs.length) : (List.replicate k u ++ xs.drop k).set k u = List.replicate (k + 1) u ++ xs.drop (k + 1) := by
  rw [List.set_append_right _ _ (by simp), List.length_replicate, Nat.sub_self]
  rw [List.drop_eq_getElem_cons h, List.set_cons_zero, List.replicate_succ', List.append_assoc]
  rfl
theorem wrg_next (f : Nat → List α) (i k : Nat) (h : k < (f i).length) (t : Nat) : (if t = i then (wrg mk f i k i).set k (mk i) else wrg mk f i k t) = wrg mk f i (k + 1) t := by
  unfold wrg
  by_cases hti : t = i
  · subst hti
    simp only [if_true, Nat.lt_irrefl, if_false]
    exact rep_setg k (mk t) (f t) h
  · simp only [if_neg hti]
theorem wrg_done (f : Nat → List α) (i k : Nat) (h : k = (f i).length) (t : Nat) : wrg mk f i k t = wrg mk f (i + 1) 0 t := by
  subst h
  unfold wrg
  rcases Nat.lt_trichotomy t i with q | q | q
  · rw [if_pos q, if_pos (by omega)]
  · subst q
    rw [if_neg (by omega), if_pos rfl, if_pos (by omega), List.drop_length, List.append_nil]
  · rw [if_neg (by omega), if_neg (by omega), if_neg (by omega)]
    by_cases h1 : t = i + 1
    · rw [if_pos h1, h1]; simp
    · rw [if_neg h1]
theorem wrg_zero (f : Nat → List α) (t : Nat) : f t = wrg mk f 0 0 t := by
  unfold wrg
  rw [if_neg (by omega)]
  by_cases h : t = 0
  · rw [if_pos h, h]; simp
  · rw [if_neg h]
theorem wrg_len (f : Nat → List α) (i k t : Nat) (h : k ≤ (f i).length) : (wrg mk f i k t).length = (f t).length := by
  unfold wrg
  split
  · simp
  · split
    · rename_i e; subst e; simp; omega
    · rfl
/-- a row written full -/
def fug (f : Nat → List α) (t : Nat) : List α := List.replicate (f t).length (mk t)
theorem wrg_full (f : Nat → List α) (m t : Nat) (h : t < m) : wrg mk f m 0 t = fug mk f t := by unfold wrg fug; rw [if_pos h]
theorem fug_len (f : Nat → List α) (t : Nat) : (fug mk f t).length = (f t).length := by simp [fug]
theorem fug_at (f : Nat → List α) (t k : Nat) (h : k < (f t).length) : (fug mk f t)[k]? = some (mk t) := by simp [fug, h]
theorem long_at (f : Nat → List α) (t k : Nat) (h : k < (f t).length + 64) : (fug mk f t ++ List.replicate 64 (mk t))[k]? = some (mk t) := by
  unfold fug
  rw [List.replicate_append_replicate]
  simp [h]
theorem long_len (f : Nat → List α) (t : Nat) : (fug mk f t ++ List.replicate 64 (mk t)).length = (f t).length + 64 := by simp [fug]
end
/-- the rows: each its owner's, no two the same -/
structure RSR (E : TypeId) (sz : Nat) (w : World) (base : Nat) (vs : List Value) (f : Nat → List (List Value)) : Prop where
  row : ∀ i, i < vs.length → JR E sz w base (vs.getD i nil) (f i)
  apart : ∀ i j g, i < vs.length → j < vs.length → i ≠ j → (vs.getD i nil).ownBlock = some g → (vs.getD j nil).ownBlock ≠ some g
section
variable {E : TypeId} {sz : Nat}
theorem JR.rlow {w : World} {base : Nat} {v : Value} {xs : List (List Value)} (h : JR E sz w base v xs) {b' : Nat} (hb : b' ≤ base) : JR E sz w b' v xs := h.lower hb
theorem RSR.eq {w : World} {base : Nat} {vs : List Value} {f f' : Nat → List (List Value)} (h : RSR E sz w base vs f) (e : ∀ t, t < vs.length → f t = f' t) : RSR E sz w base vs f' := ⟨fun i hi => by rw [← e i hi]; exact h.row i hi, h.apart⟩
theorem RSR.keep {w w' : World} {base : Nat} {vs : List Value} {f : Nat → List (List Value)} (h : RSR E sz w base vs f) (hb : Below w.heap.size w w') : RSR E sz w' base vs f := ⟨fun i hi => (h.row i hi).keepAll hb, h.apart⟩
/-- a row of structs and a row of other things -/
theorem jr_ne_jv {w : World} {b1 b2 : Nat} {v1 v2 : Value} {x1 : List (List Value)} {E2 : TypeId} {x2 : List Value} (h1 : JR E sz w b1 v1 x1) (h2 : JV E2 w b2 v2 x2) (hE : E ≠ E2) {g : Nat} (hg : v1.ownBlock = some g) : v2.ownBlock ≠ some g := by
  intro hg2
  obtain ⟨_, _, ⟨rfl, _⟩ | ⟨g1, c1, cur1, rfl, _, hh1, _⟩⟩ := h1
  · cases hg
  · obtain ⟨_, _, ⟨rfl, _⟩ | ⟨g2, c2, cur2, rfl, _, hh2, _⟩⟩ := h2
    · cases hg2
    · have e1 : g1 = g := by simpa [Value.ownBlock] using hg
      have e2 : g2 = g := by simpa [Value.ownBlock] using hg2
      rw [e1] at hh1
      rw [e2, hh1] at hh2
      injection hh2 with hh2
      injection hh2 with _ h3 _
      exact hE h3
/-- one element of a row is written -/
theorem RSR.put {w : World} {base : Nat} {vs : List Value} {f : Nat → List (List Value)} (h : RSR E sz w base vs f) {i g n cap k : Nat} (hi : i < vs.length) (hk : k < (f i).length) (hv : vs.getD i nil = .slice (some ⟨g, 0, none⟩) n cap) {r : List Value} (hr : r.length = sz) (h1 : ∀ u ∈ r, u.oneCell' = true) :
    RSR E sz (w.setCells g (k * sz) r) base vs (fun t => if t = i then (f i).set k r else f t) ∧ Kept w (w.setCells g (k * sz) r) vs ∧ base ≤ g := by
  have hrow := h.row i hi
  rw [hv] at hrow
  have hn : n = (f i).length := by
    obtain ⟨a, c, e, _⟩ := hrow.shape
    injection e
  have hb : base ≤ g := hrow.blk_ge g rfl
  refine ⟨⟨fun t ht => ?_, h.apart⟩, ⟨by rw [setCells_size]; exact Nat.le_refl _, fun b _ hb => setCells_heap g b (fun e => ?_) r w _⟩, hb⟩
  · by_cases hti : t = i
    · subst hti
      simp only [if_true]
      rw [hv]
      exact jr_setCells hrow hn hk hr h1
    · simp only [if_neg hti]
      refine jr_same (h.row t ht) fun b hb => setCells_heap g b (fun e => ?_) r w _
      refine h.apart t i b ht hi hti hb ?_
      rw [hv, e]; rfl
  · refine hb i hi ?_
    rw [hv, e]; rfl
/-- all that is known while the rows are written full -/
structure In1R (E : TypeId) (sz : Nat) (mk : Nat → List Value) (w : World) (base : Nat) (vs : List Value) (f : Nat → List (List Value)) (wr : World) (i k : Nat) : Prop where
  rows : RSR E sz wr base vs (wrg mk f i k)
  below : Below base w wr
  kept : Kept w wr vs
variable {mk : Nat → List Value}
theorem In1R.start {w w0 : World} {base : Nat} {vs : List Value} {f : Nat → List (List Value)} (h : RSR E sz w0 base vs f) (hb : Below base w w0) (hk : Kept w w0 vs) : In1R E sz mk w base vs f w0 0 0 := ⟨h.eq fun t _ => wrg_zero mk f t, hb, hk⟩
theorem In1R.put {w : World} {base : Nat} {vs : List Value} {f : Nat → List (List Value)} {wr : World} {i k : Nat} (h : In1R E sz mk w base vs f wr i k) (hi : i < vs.length) (hk : k < (f i).length) {g n c : Nat} (hv : vs.getD i nil = .slice (some ⟨g, 0, none⟩) n c) (hr : (mk i).length = sz) (h1 : ∀ u ∈ mk i, u.oneCell' = true) : In1R E sz mk w base vs f (wr.setCells g (k * sz) (mk i)) i (k + 1) := by
  obtain ⟨h2, h3, h4⟩ := h.rows.put (k := k) hi (by rw [wrg_len mk f i k i (by omega)]; exact hk) hv hr h1
  exact ⟨h2.eq fun t _ => wrg_next mk f i k hk t, setCells_below h4 _ _ _ _ h.below, h.kept.trans h3⟩
theorem In1R.next {w : World} {base : Nat} {vs : List Value} {f : Nat → List (List Value)} {wr : World} {i k : Nat} (h : In1R E sz mk w base vs f wr i k) (hk : k = (f i).length) : In1R E sz mk w base vs f wr (i + 1) 0 := ⟨h.rows.eq fun t _ => wrg_done mk f i k hk t, h.below, h.kept⟩
/-- a list of another type stands while an element is written -/
theorem RSR.jv {w : World} {base b2 : Nat} {vs : List Value} {f : Nat → List (List Value)} (h : RSR E sz w base vs f) {E2 : TypeId} (hE : E ≠ E2) {v2 : Value} {xs : List Value} (h2 : JV E2 w b2 v2 xs) {i g n cap p : Nat} (hi : i < vs.length) (hv : vs.getD i nil = .slice (some ⟨g, 0, none⟩) n cap) (r : List Value) : JV E2 (w.setCells g p r) b2 v2 xs := by
  have hrow := h.row i hi
  rw [hv] at hrow
  refine h2.same fun b hb => setCells_heap g b (fun e => ?_) r w p
  exact jr_ne_jv hrow h2 hE (g := g) rfl (by rw [← e]; exact hb)
/-- all that is known while the rows are made longer -/
structure In2R (E : TypeId) (sz : Nat) (mk : Nat → List Value) (w : World) (base : Nat) (vs : List Value) (f : Nat → List (List Value)) (wr : World) (i : Nat) (gs : List Value) : Prop where
  rows : RSR E sz wr base vs (fug mk f)
  len : gs.length = i
  grow : ∀ t, t < i → JR E sz wr base (gs.getD t nil) (fug mk f t ++ List.replicate 64 (mk t))
  apart : ∀ t s b, t < i → i ≤ s → s < vs.length → (gs.getD t nil).ownBlock = some b → (vs.getD s nil).ownBlock ≠ some b
  below : Below base w wr
  kept : Kept w wr vs
theorem In1R.two {w : World} {base : Nat} {vs : List Value} {f : Nat → List (List Value)} {wr : World} (h : In1R E sz mk w base vs f wr vs.length 0) : In2R E sz mk w base vs f wr 0 [] :=
  ⟨h.rows.eq fun t ht => wrg_full mk f vs.length t ht, rfl, fun t ht => by omega, fun t s b ht => by omega, h.below, h.kept⟩
/-- a row was made longer, and what came of it was put into a list of another type: w' is the world behind -/
theorem In2R.step {w : World} {base : Nat} {vs : List Value} {f : Nat → List (List Value)} {W wk w' : World} {i : Nat} {gv : Value} {gs : List Value} (h : In2R E sz mk w base vs f W i gs) (hbase : base ≤ w.heap.size) (hi : i < vs.length)
    (hx : ExtR E sz W base (vs.getD i nil) (fug mk f i) (mk i) 64 gv wk) (hrest : ∀ {v : Value} {xs : List (List Value)}, JR E sz wk base v xs → JR E sz w' base v xs) (hbel : Below base wk w') (hk : ∀ b, b < w.heap.size → wk.heap.size ≤ w'.heap.size ∧ w'.heap[b]? = wk.heap[b]?) (hsz : wk.heap.size ≤ w'.heap.size) : In2R E sz mk w base vs f w' (i + 1) (gs ++ [gv]) := by
  have hri := h.rows.row i hi
  have k1 : ∀ {v : Value} {xs : List (List Value)}, JR E sz W base v xs → (∀ b, v.ownBlock = some b → (vs.getD i nil).ownBlock ≠ some b) → JR E sz wk base v xs := fun {v xs} hv hne => jr_same hv fun b hb => hx.block b (hv.blk_lt b hb) fun e => hne b hb e.symm
  have hrows : ∀ t, t < vs.length → JR E sz wk base (vs.getD t nil) (fug mk f t) := by
    intro t ht
    by_cases e : t = i
    · subst e; exact hx.old
    · exact k1 (h.rows.row t ht) fun b hb => h.rows.apart t i b ht hi e hb
  have hgrow : ∀ t, t < i + 1 → JR E sz wk base ((gs ++ [gv]).getD t nil) (fug mk f t ++ List.replicate 64 (mk t)) := by
    intro t ht
    rw [getD_snoc h.len]
    by_cases e : t = i
    · subst e; rw [if_pos rfl]; exact hx.row
    · rw [if_neg e]
      exact k1 (h.grow t (by omega)) fun b hb => h.apart t i b (by omega) (Nat.le_refl _) hi hb
  have h1 := h.kept.1
  have h2 := hx.size
  refine ⟨⟨fun t ht => hrest (hrows t ht), h.rows.apart⟩, by simp [h.len], fun t ht => hrest (hgrow t ht), ?_, ?_, ?_⟩
  · intro t s b ht hs hsl hb
    rw [getD_snoc h.len] at hb
    by_cases e : t = i
    · subst e
      rw [if_pos rfl] at hb
      rcases hx.way with ⟨g, cap, e1, e2⟩ | ⟨e1, _⟩ | ⟨g, e1, e2⟩
      · refine h.rows.apart t s b hi hsl (by omega) ?_
        rw [e2] at hb
        rw [e1]; exact hb
      · omega
      · intro q
        rw [e1] at hb
        injection hb with hb
        have := (h.rows.row s hsl).blk_lt b q
        omega
    · rw [if_neg e] at hb
      exact h.apart t s b (by omega) (by omega) hsl hb
  · have hb1 : Below base W wk := ⟨hx.os, hx.tape, hx.output, hx.size, fun b hb => hx.block b (by omega) (fun e => by have := hri.blk_ge b e.symm; omega)⟩
    exact (h.below.trans hb1).trans hbel
  · refine ⟨by omega, fun b hb hn => ?_⟩
    rw [(hk b hb).2, hx.block b (by omega) (fun e => hn i hi e.symm), h.kept.2 b hb hn]
/-- a list of another type stands while a row is made longer -/
theorem RSR.jvx {w : World} {base b2 : Nat} {vs : List Value} {f : Nat → List (List Value)} {i : Nat} {xs : List (List Value)} {r0 : List Value} {k : Nat} {gv : Value} {wk : World} (h : RSR E sz w base vs f) {E2 : TypeId} (hE : E ≠ E2) {v2 : Value} {ys : List Value} (h2 : JV E2 w b2 v2 ys) (hi : i < vs.length) (hx : ExtR E sz w base (vs.getD i nil) xs r0 k gv wk) : JV E2 wk b2 v2 ys :=
  h2.same fun b hb => hx.block b (h2.blk_lt b hb) fun e => jr_ne_jv (h.row i hi) h2 hE (g := b) e.symm hb
/-- rows of structs stand while a list of another type is made longer -/
theorem jr_after {base : Nat} {E2 : TypeId} (hE : E ≠ E2) {wk w' : World} {V2 V3 gv : Value} {gs : List Value} {o : Obj} (hlong : JV E2 wk base V2 gs) (hp : AppPost E2 (wk.alloc o) base V2 gs gv V3 w') {v : Value} {xs : List (List Value)} (hv : JR E sz wk base v xs) : JR E sz w' base v xs := by
  have hsz : (wk.alloc o).heap.size = wk.heap.size + 1 := by simp
  refine jr_same hv fun b hb => ?_
  have hlt := hv.blk_lt b hb
  rw [hp.grown.block b (by rw [hsz]; omega) (fun e => jr_ne_jv hv hlong hE hb e.symm)]
  exact ((Below.refl wk.heap.size wk).alloc (Nat.le_refl _) o).block b hlt
end
end Os
end Go.Proofs.Ytifjjoobbegpoaa
namespace Go.Proofs.Ytifjjoobbegpoaa
open Go.RowKit
namespace Os
open Vt Ow
section
variable {E LS : TypeId} {sz : Nat} {mk : Nat → List Value}
/-- while the rows are written full -/
structure Q1 (E LS : TypeId) (sz : Nat) (mk : Nat → List Value) (w : World) (base : Nat) (LV : Value) (vs : List Value) (f : Nat → List (List Value)) (wr : World) (i k : Nat) : Prop where
  in1 : In1R E sz mk w base vs f wr i k
  list : JV LS wr base LV vs
theorem Q1.put {w : World} {base : Nat} {LV : Value} {vs : List Value} {f : Nat → List (List Value)} {wr : World} {i k : Nat} (hE : E ≠ LS) (h : Q1 E LS sz mk w base LV vs f wr i k) (hi : i < vs.length) (hk : k < (f i).length) {g n c : Nat} (hv : vs.getD i Ow.nil = .slice (some ⟨g, 0, none⟩) n c) (hr : (mk i).length = sz) (h1 : ∀ u ∈ mk i, u.oneCell' = true) : Q1 E LS sz mk w base LV vs f (wr.setCells g (k * sz) (mk i)) i (k + 1) :=
  ⟨h.in1.put hi hk hv hr h1, h.in1.rows.jv hE h.list hi hv _⟩
theorem Q1.next {w : World} {base : Nat} {LV : Value} {vs : List Value} {f : Nat → List (List Value)} {wr : World} {i k : Nat} (h : Q1 E LS sz mk w base LV vs f wr i k) (hk : k = (f i).length) : Q1 E LS sz mk w base LV vs f wr (i + 1) 0 := ⟨h.in1.next hk, h.list⟩
theorem Q1.drewN {w : World} {base : Nat} {LV : Value} {vs : List Value} {f : Nat → List (List Value)} {wr : World} {i k : Nat} (h : Q1 E LS sz mk w base LV vs f wr i k) (n : Nat) : Q1 E LS sz mk w base LV vs f (wr.drewN n) i k :=
  ⟨⟨⟨fun t ht => (h.in1.rows.row t ht).drewN n, h.in1.rows.apart⟩, below_drewN h.in1.below n, h.in1.kept⟩, h.list⟩
theorem Q1.drew {w : World} {base : Nat} {LV : Value} {vs : List Value} {f : Nat → List (List Value)} {wr : World} {i k : Nat} (h : Q1 E LS sz mk w base LV vs f wr i k) : Q1 E LS sz mk w base LV vs f wr.drew i k :=
  ⟨⟨⟨fun t ht => (h.in1.rows.row t ht).drew, h.in1.rows.apart⟩, h.in1.below.drew, h.in1.kept⟩, h.list⟩
/-- what stands at a place of the list of lists -/
theorem Q1.cells {w : World} {base gl cl : Nat} {vs : List Value} {f : Nat → List (List Value)} {wr : World} {i k : Nat} (h : Q1 E LS sz mk w base (.slice (some ⟨gl, 0, none⟩) vs.length cl) vs f wr i k) (hi : i < vs.length) (hk : k ≤ (f i).length) : ∃ a3 c3, vs.getD i Ow.nil = .slice a3 (f i).length c3 ∧ (f i).length ≤ c3 ∧ wr.cell? ⟨gl, i, none⟩ = some (.slice a3 (f i).length c3) ∧ (k < (f i).length → ∃ g3, a3 = some ⟨g3, 0, none⟩) := by
  have hcl := (h.list.at.2.2.2.2.2 i _ (getD_at hi)).1
  have hrow := h.in1.rows.row i hi
  obtain ⟨a3, c3, hv3, hle3⟩ := hrow.shape
  rw [wrg_len mk f i k i hk] at hv3 hle3
  rw [hv3] at hcl
  refine ⟨a3, c3, hv3, hle3, hcl, fun hlt => ?_⟩
  obtain ⟨g3, c', e, _⟩ := hrow.nn (by intro e; have := wrg_len mk f i k i hk; rw [e] at this; simp at this; omega)
  rw [hv3] at e
  injection e with e
  exact ⟨g3, e⟩
/-- a place of a list that is to be written -/
theorem Q1.there {w : World} {base : Nat} {LV : Value} {vs : List Value} {f : Nat → List (List Value)} {wr : World} {i k : Nat} (h : Q1 E LS sz mk w base LV vs f wr i k) (hi : i < vs.length) (hk : k < (f i).length) {g n c : Nat} (hv : vs.getD i Ow.nil = .slice (some ⟨g, 0, none⟩) n c) : ∀ j, j < sz → (∃ u, wr.cell? ⟨g, k * sz + j, none⟩ = some u) ∧ wr.frozen? ⟨g, k * sz + j, none⟩ = false := by
  have hrow := h.in1.rows.row i hi
  rw [hv] at hrow
  have ht := jr_thereR hrow (k := k) (by rw [wrg_len mk f i k i (by omega)]; exact hk)
  exact fun j hj => ⟨Option.isSome_iff_exists.1 (ht j hj).1, (ht j hj).2⟩
theorem Q1.thereR {w : World} {base : Nat} {LV : Value} {vs : List Value} {f : Nat → List (List Value)} {wr : World} {i k : Nat} (h : Q1 E LS sz mk w base LV vs f wr i k) (hi : i < vs.length) (hk : k < (f i).length) {g n c : Nat} (hv : vs.getD i Ow.nil = .slice (some ⟨g, 0, none⟩) n c) : wr.there g (k * sz) sz := by
  have hrow := h.in1.rows.row i hi
  rw [hv] at hrow
  exact jr_thereR hrow (k := k) (by rw [wrg_len mk f i k i (by omega)]; exact hk)
/-- while the rows are made longer -/
structure Q2 (E LS : TypeId) (sz : Nat) (mk : Nat → List Value) (w : World) (base : Nat) (LV : Value) (vs : List Value) (f : Nat → List (List Value)) (wr : World) (i : Nat) (gs : List Value) (GV : Value) : Prop where
  in2 : In2R E sz mk w base vs f wr i gs
  list : JV LS wr base LV vs
  long : JV LS wr base GV gs
  fresh : ∀ b, GV.ownBlock = some b → w.heap.size ≤ b
theorem Q1.two {w : World} {base : Nat} {LV : Value} {vs : List Value} {f : Nat → List (List Value)} {wr : World} (h : Q1 E LS sz mk w base LV vs f wr vs.length 0) : Q2 E LS sz mk w base LV vs f wr 0 [] (.slice none 0 0) :=
  ⟨h.in1.two, h.list, ⟨by simp, rfl, .inl ⟨rfl, rfl⟩⟩, fun b hb => by cases hb⟩
theorem Q2.lists {w : World} {base : Nat} {LV GV gv : Value} {vs gs : List Value} {f : Nat → List (List Value)} {W wk : World} {i k : Nat} (hE : E ≠ LS) (h : Q2 E LS sz mk w base LV vs f W i gs GV) (hi : i < vs.length) (hx : ExtR E sz W base (vs.getD i Ow.nil) (fug mk f i) (mk i) k gv wk) : JV LS wk base LV vs ∧ JV LS wk base GV gs :=
  ⟨h.in2.rows.jvx hE h.list hi hx, h.in2.rows.jvx hE h.long hi hx⟩
theorem Q2.step {w : World} {base : Nat} {LV GV GV' gv : Value} {vs gs : List Value} {f : Nat → List (List Value)} {W wk w' : World} {i : Nat} {o : Obj} (hE : E ≠ LS) (h : Q2 E LS sz mk w base LV vs f W i gs GV) (hbase : base ≤ w.heap.size) (hL : ∀ b, LV.ownBlock = some b → b < w.heap.size) (hi : i < vs.length)
    (hx : ExtR E sz W base (vs.getD i Ow.nil) (fug mk f i) (mk i) 64 gv wk) (hp : AppPost LS (wk.alloc o) base GV gs gv GV' w') : Q2 E LS sz mk w base LV vs f w' (i + 1) (gs ++ [gv]) GV' := by
  obtain ⟨hl, hg⟩ := h.lists hE hi hx
  have hr : ∀ {v : Value} {xs : List (List Value)}, JR E sz wk base v xs → JR E sz w' base v xs := fun hv => jr_after hE hg hp hv
  have hsz : (wk.alloc o).heap.size = wk.heap.size + 1 := by simp
  have h1 := h.in2.kept.1
  have h2 := hx.size
  have h3 := hp.grown.size
  have hal : Below wk.heap.size wk (wk.alloc o) := (Below.refl _ _).alloc (Nat.le_refl _) o
  have hkb : ∀ b, b < w.heap.size → w'.heap[b]? = wk.heap[b]? := by
    intro b hb
    rw [hp.grown.block b (by omega) (fun e => by have := h.fresh b e.symm; omega)]
    exact hal.block b (by omega)
  refine ⟨h.in2.step hbase hi hx hr ?_ (fun b hb => ⟨by omega, hkb b hb⟩) (by omega), hl.same fun b hb => hkb b (hL b hb), hp.row, ?_⟩
  · exact ((hal.mono (by omega)).grown hp.grown (by omega) fun q hq => hg.blk_ge q hq)
  · intro b hb
    rcases hp.way with ⟨g, cap, e1, e2⟩ | ⟨⟨g, e1, e2⟩, _⟩
    · refine h.fresh b ?_
      rw [e1]
      rw [e2] at hb
      exact hb
    · rw [e1] at hb
      injection hb with hb
      omega
theorem Q2.row {w : World} {base gl cl : Nat} {vs gs : List Value} {f : Nat → List (List Value)} {wr : World} {m : Nat} {GV : Value} (h : Q2 E LS sz mk w base (.slice (some ⟨gl, 0, none⟩) vs.length cl) vs f wr m gs GV) {i : Nat} (hi : i < vs.length) : ∃ a3 c3, vs.getD i Ow.nil = .slice a3 (f i).length c3 ∧ (f i).length ≤ c3 ∧ wr.cell? ⟨gl, i, none⟩ = some (.slice a3 (f i).length c3) := by
  have hcl := (h.list.at.2.2.2.2.2 i _ (getD_at hi)).1
  obtain ⟨a3, c3, hv3, hle3⟩ := (h.in2.rows.row i hi).shape
  rw [fug_len] at hv3 hle3
  rw [hv3] at hcl
  exact ⟨a3, c3, hv3, hle3, hcl⟩
/-- what is read when all are looked at: of the i-th list, and of the longer one -/
theorem Q2.cells {w : World} {base gl cl : Nat} {vs gs : List Value} {f : Nat → List (List Value)} {wr : World} {GV : Value} (h : Q2 E LS sz mk w base (.slice (some ⟨gl, 0, none⟩) vs.length cl) vs f wr vs.length gs GV) {i : Nat} (hi : i < vs.length) :
    ∃ g2 c2 a3 c3 g4 c4, GV = .slice (some ⟨g2, 0, none⟩) vs.length c2 ∧ vs.length ≤ c2 ∧ c2 ≤ maxLen ∧ wr.cell? ⟨gl, i, none⟩ = some (.slice a3 (f i).length c3) ∧ (f i).length ≤ c3 ∧ wr.cell? ⟨g2, i, none⟩ = some (.slice (some ⟨g4, 0, none⟩) ((f i).length + 64) c4) ∧ (f i).length + 64 ≤ c4 ∧
      (∀ k, k < (f i).length + 64 → ∀ j u, (mk i)[j]? = some u → wr.cell? ⟨g4, k * sz + j, none⟩ = some u) ∧ ∀ k, k < (f i).length → ∃ g3, a3 = some ⟨g3, 0, none⟩ ∧ ∀ j u, (mk i)[j]? = some u → wr.cell? ⟨g3, k * sz + j, none⟩ = some u := by
  obtain ⟨a3, c3, hv3, hle3, hcl⟩ := h.row hi
  have hgl : gs.length = vs.length := h.in2.len
  have hgr := h.in2.grow i hi
  obtain ⟨g4, c4, e4, h4, _⟩ := hgr.nn (by intro e; have := long_len mk f i; rw [e] at this; simp at this)
  rw [long_len] at e4 h4
  rw [e4] at hgr
  have hlong := h.long
  obtain ⟨_, _, ⟨e1, e2⟩ | ⟨g2, cap, cur, e1, _⟩⟩ := h.long
  · omega
  · rw [hgl] at e1
    rw [e1] at hlong
    obtain ⟨_, hc, hm, _, _, hcg⟩ := hlong.at
    have hcl2 := (hcg i _ (getD_at (by omega))).1
    rw [e4] at hcl2
    have hrow := h.in2.rows.row i hi
    refine ⟨g2, cap, a3, c3, g4, c4, e1, hc, hm, hcl, hle3, hcl2, h4, fun k hk j u hu => hgr.at k _ j u (long_at mk f i k hk) hu, fun k hk => ?_⟩
    obtain ⟨g3, c', e, _⟩ := hrow.nn (by intro e; have := fug_len mk f i; rw [e] at this; simp at this; omega)
    rw [hv3] at e
    injection e with e _ _
    subst e
    rw [hv3] at hrow
    exact ⟨g3, rfl, fun j u hu => hrow.at k _ j u (fug_at mk f i k hk) hu⟩
theorem Q2.keep {w : World} {base : Nat} {LV GV : Value} {vs gs : List Value} {f : Nat → List (List Value)} {wr w' : World} {i : Nat} (h : Q2 E LS sz mk w base LV vs f wr i gs GV) (hbase : base ≤ w.heap.size) (hb : Below wr.heap.size wr w') : Q2 E LS sz mk w base LV vs f w' i gs GV :=
  ⟨⟨h.in2.rows.keep hb, h.in2.len, fun t ht => (h.in2.grow t ht).keepAll hb, h.in2.apart, h.in2.below.trans (hb.mono (Nat.le_trans hbase h.in2.kept.1)), h.in2.kept.trans ⟨hb.size, fun b hlt _ => hb.block b hlt⟩⟩, h.list.below hb, h.long.below hb, h.fresh⟩
end
end Os
end Go.Proofs.Ytifjjoobbegpoaa
namespace Go.Proofs.Ytifjjoobbegpoaa
namespace Vt
def e1 (c : Nat) : List Nat := if c = 167 then [166, 1] else if c = 166 then [166, 0] else [c]
def wr : List Nat → List Nat
  | [] => []
  | c :: r => e1 c ++ wr r
theorem e1_lead : e1 167 = [166, 1] := rfl
theorem e1_esc : e1 166 = [166, 0] := rfl
theorem e1_any {c : Nat} (h : c ≠ 167) (h2 : c ≠ 166) : e1 c = [c] := by unfold e1; rw [if_neg h, if_neg h2]
theorem wr_append (a b : List Nat) : wr (a ++ b) = wr a ++ wr b := by
  induction a with
  | nil => rfl
  | cons c r ih => rw [List.cons_append, wr, wr, ih, List.append_assoc]
theorem wr_one (c : Nat) : wr [c] = e1 c := by simp [wr]
theorem wr_succ {l : List Nat} {k : Nat} (h : k < l.length) : wr (l.take (k + 1)) = wr (l.take k) ++ e1 (l.getD k 0) := by
  rw [take_succ_getD h, wr_append, wr_one]
theorem e1_len (c : Nat) : 1 ≤ (e1 c).length ∧ (e1 c).length ≤ 2 := by
  unfold e1
  split
  · simp
  · split <;> simp
theorem wr_len (l : List Nat) : l.length ≤ (wr l).length ∧ (wr l).length ≤ 2 * l.length := by
  induction l with
  | nil => simp [wr]
  | cons c r ih =>
    have := e1_len c
    rw [wr, List.length_append, List.length_cons]; omega
theorem e1_byt {c : Nat} (h : c < 256) : Byt (e1 c) := by
  unfold e1
  split
  · intro x hx; simp at hx; omega
  · split
    · intro x hx; simp at hx; omega
    · intro x hx; simp at hx; omega
theorem wr_byt {l : List Nat} (h : Byt l) : Byt (wr l) := by
  induction l with
  | nil => exact byt_nil
  | cons c r ih => rw [wr]; exact byt_app (e1_byt (h c List.mem_cons_self)) (ih fun x hx => h x (List.mem_cons_of_mem _ hx))
theorem e1_no (c : Nat) : ∀ x ∈ e1 c, x ≠ 167 := by
  unfold e1
  split
  · intro x hx; simp at hx; omega
  · split
    · intro x hx; simp at hx; omega
    · intro x hx; simp at hx; omega
theorem wr_no (l : List Nat) : ∀ x ∈ wr l, x ≠ 167 := by
  induction l with
  | nil => intro x hx; simp [wr] at hx
  | cons c r ih =>
    intro x hx
    rw [wr] at hx
    rcases List.mem_append.1 hx with hx | hx
    · exact e1_no c x hx
    · exact ih x hx
theorem wr_no_at {l : List Nat} {k : Nat} (h : k < (wr l).length) : (wr l).getD k 0 ≠ 167 := by
  apply wr_no l
  rw [List.getD_eq_getElem?_getD, List.getElem?_eq_getElem h]
  exact List.getElem_mem h
/-- the plain byte at the front, how many bytes it takes, what is wrong -/
def fs (l : List Nat) : Nat × Nat × Nat :=
  if l.getD 0 0 = 167 then (0, 0, 31) else if l.getD 0 0 ≠ 166 then (l.getD 0 0, 1, 0) else if l.length = 1 then (0, 0, 32)
  else if l.getD 1 0 = 0 then (166, 2, 0) else if l.getD 1 0 = 1 then (167, 2, 0) else (0, 0, 32)
/-- what is told: the places from at_ on -/
def told : Nat → Nat → List Nat → List (Nat × Nat)
  | 0, _, _ => []
  | f + 1, at_, l => if l = [] then [] else if (fs l).2.2 = 0 then (at_, (fs l).1) :: told f (at_ + (fs l).2.1) (l.drop (fs l).2.1) else []
/-- what is wrong, and where -/
def bad : Nat → Nat → List Nat → Nat × Nat
  | 0, _, _ => (0, 0)
  | f + 1, at_, l => if l = [] then (0, 0) else if (fs l).2.2 = 0 then bad f (at_ + (fs l).2.1) (l.drop (fs l).2.1) else ((fs l).2.2, at_)
theorem fs_front (c : Nat) (r : List Nat) : fs (e1 c ++ r) = (c, (e1 c).length, 0) := by
  by_cases h : c = 167
  · subst h; simp [e1, fs]
  · by_cases h2 : c = 166
    · subst h2; simp [e1, fs]
    · rw [e1_any h h2]; simp [fs, h, h2]
theorem fs_ok {l : List Nat} (hne : l ≠ []) (h : (fs l).2.2 = 0) : l = e1 (fs l).1 ++ l.drop (fs l).2.1 ∧ (fs l).2.1 = (e1 (fs l).1).length := by
  match l, hne with
  | [c], _ =>
    unfold fs at *
    by_cases h1 : c = 167
    · simp [h1] at h
    · by_cases h2 : c = 166
      · simp [h2] at h
      · simp [h1, h2, e1_any h1 h2]
  | c :: d :: r, _ =>
    unfold fs at *
    by_cases h1 : c = 167
    · simp [h1] at h
    · by_cases h2 : c = 166
      · by_cases h3 : d = 0
        · simp [h2, h3, e1]
        · by_cases h4 : d = 1
          · simp [h2, h4, e1]
          · simp [h2, h3, h4] at h
      · simp [h1, h2, e1_any h1 h2]
theorem fs_len {l : List Nat} (hne : l ≠ []) (h : (fs l).2.2 = 0) : 1 ≤ (fs l).2.1 ∧ (fs l).2.1 ≤ l.length ∧ (fs l).2.1 ≤ 2 := by
  have h1 := fs_ok hne h
  have h2 := e1_len (fs l).1
  have h3 := congrArg List.length h1.1
  rw [List.length_append] at h3
  omega
theorem fs_byt {l : List Nat} (hb : Byt l) : (fs l).1 < 256 := by
  have := getD_lt hb 0
  unfold fs
  repeat' split
  all_goals (simp only; omega)
theorem fs_err (l : List Nat) : (fs l).2.2 = 0 ∨ (fs l).2.2 = 31 ∧ l.getD 0 0 = 167 ∨ (fs l).2.2 = 32 ∧ l.getD 0 0 = 166 := by
  unfold fs
  by_cases h1 : l.getD 0 0 = 167
  · rw [if_pos h1]; exact .inr (.inl ⟨rfl, h1⟩)
  · rw [if_neg h1]
    by_cases h2 : l.getD 0 0 = 166
    · rw [if_neg (by simpa using h2)]
      repeat' split
      all_goals first | exact .inl rfl | exact .inr (.inr ⟨rfl, h2⟩)
    · rw [if_pos h2]; simp
theorem fs_bad {l : List Nat} (h : (fs l).2.2 ≠ 0) : (fs l).1 = 0 ∧ (fs l).2.1 = 0 := by
  unfold fs at *
  repeat' split at h
  all_goals first | (exact absurd rfl h) | skip
  all_goals simp_all
def toldB (at_ : Nat) (l : List Nat) : List (Nat × Nat) := told l.length at_ l
def badB (at_ : Nat) (l : List Nat) : Nat × Nat := bad l.length at_ l
theorem told_fuel (f : Nat) : ∀ (g at_ : Nat) (l : List Nat), l.length ≤ f → l.length ≤ g → told f at_ l = told g at_ l ∧ bad f at_ l = bad g at_ l := by
  induction f with
  | zero =>
    intro g at_ l h1 h2
    obtain rfl : l = [] := List.length_eq_zero_iff.1 (by omega)
    cases g with
    | zero => exact ⟨rfl, rfl⟩
    | succ g => simp [told, bad]
  | succ f ih =>
    intro g at_ l h1 h2
    cases g with
    | zero =>
      obtain rfl : l = [] := List.length_eq_zero_iff.1 (by omega)
      simp [told, bad]
    | succ g =>
      unfold told bad
      by_cases h : l = []
      · simp [h]
      · rw [if_neg h, if_neg h, if_neg h, if_neg h]
        by_cases he : (fs l).2.2 = 0
        · have := fs_len h he
          have hh := ih g (at_ + (fs l).2.1) (l.drop (fs l).2.1) (by rw [List.length_drop]; omega) (by rw [List.length_drop]; omega)
          rw [if_pos he, if_pos he, if_pos he, if_pos he, hh.1, hh.2]; exact ⟨rfl, rfl⟩
        · rw [if_neg he, if_neg he, if_neg he, if_neg he]; exact ⟨rfl, rfl⟩
theorem toldB_nil (at_ : Nat) : toldB at_ [] = [] := rfl
theorem badB_nil (at_ : Nat) : badB at_ [] = (0, 0) := rfl
theorem toldB_ok {at_ : Nat} {l : List Nat} (h : l ≠ []) (he : (fs l).2.2 = 0) : toldB at_ l = (at_, (fs l).1) :: toldB (at_ + (fs l).2.1) (l.drop (fs l).2.1) := by
  have hd := fs_len h he
  obtain ⟨m, hm⟩ : ∃ m, l.length = m + 1 := ⟨l.length - 1, by omega⟩
  unfold toldB
  rw [hm, told, if_neg h, if_pos he, (told_fuel m _ _ _ (by rw [List.length_drop]; omega) (Nat.le_refl _)).1]
theorem badB_ok {at_ : Nat} {l : List Nat} (h : l ≠ []) (he : (fs l).2.2 = 0) : badB at_ l = badB (at_ + (fs l).2.1) (l.drop (fs l).2.1) := by
  have hd := fs_len h he
  obtain ⟨m, hm⟩ : ∃ m, l.length = m + 1 := ⟨l.length - 1, by omega⟩
  unfold badB
  rw [hm, bad, if_neg h, if_pos he, (told_fuel m _ _ _ (by rw [List.length_drop]; omega) (Nat.le_refl _)).2]
theorem toldB_err {at_ : Nat} {l : List Nat} (he : (fs l).2.2 ≠ 0) : toldB at_ l = [] := by
  unfold toldB
  cases l with
  | nil => rfl
  | cons x r => rw [List.length_cons, told, if_neg (by simp), if_neg he]
theorem badB_err {at_ : Nat} {l : List Nat} (h : l ≠ []) (he : (fs l).2.2 ≠ 0) : badB at_ l = ((fs l).2.2, at_) := by
  unfold badB
  cases l with
  | nil => exact absurd rfl h
  | cons x r => rw [List.length_cons, bad, if_neg (by simp), if_neg he]
/-- plain bytes with the places of what they are written as -/
def pl : Nat → List Nat → List (Nat × Nat)
  | _, [] => []
  | p, c :: r => (p, c) :: pl (p + (e1 c).length) r
theorem e1_ne (c : Nat) (r : List Nat) : e1 c ++ r ≠ [] := by
  have := e1_len c
  intro e
  have := congrArg List.length e
  rw [List.length_append, List.length_nil] at this
  omega
theorem both_wr (p r : List Nat) : ∀ at_, toldB at_ (wr p ++ r) = pl at_ p ++ toldB (at_ + (wr p).length) r ∧ badB at_ (wr p ++ r) = badB (at_ + (wr p).length) r := by
  induction p with
  | nil => intro at_; exact ⟨rfl, rfl⟩
  | cons c q ih =>
    intro at_
    have hf := fs_front c (wr q ++ r)
    have hne := e1_ne c (wr q ++ r)
    rw [wr, List.append_assoc, toldB_ok hne (by rw [hf]), badB_ok hne (by rw [hf]), hf]
    simp only
    rw [List.drop_left' rfl, (ih _).1, (ih _).2, pl, List.length_append, Nat.add_assoc]
    exact ⟨rfl, rfl⟩
theorem toldB_wr (p : List Nat) (at_ : Nat) : toldB at_ (wr p) = pl at_ p := by
  have := (both_wr p [] at_).1
  rwa [List.append_nil, toldB_nil, List.append_nil] at this
theorem badB_wr (p : List Nat) (at_ : Nat) : badB at_ (wr p) = (0, 0) := by
  have := (both_wr p [] at_).2
  rwa [List.append_nil, badB_nil] at this
theorem pl_len (at_ : Nat) (p : List Nat) : (pl at_ p).length = p.length := by
  induction p generalizing at_ with
  | nil => rfl
  | cons c r ih => simp [pl, ih]
theorem pl_snd (at_ : Nat) (p : List Nat) : (pl at_ p).map Prod.snd = p := by
  induction p generalizing at_ with
  | nil => rfl
  | cons c r ih => simp [pl, ih]
theorem pl_at (p : Nat) (l : List Nat) (k : Nat) (hk : k < l.length) : (pl p l)[k]? = some (p + (wr (l.take k)).length, l.getD k 0) := by
  induction l generalizing p k with
  | nil => simp at hk
  | cons x r ih =>
    cases k with
    | zero => simp [pl, wr]
    | succ k =>
      rw [pl, List.getElem?_cons_succ, ih _ k (by simpa using hk), List.take_succ_cons, wr, List.length_append, List.getD_cons_succ, Nat.add_assoc]
/-- whatever bytes: escaped ones, and behind them nothing, or what cannot stand -/
theorem parts (n : Nat) : ∀ l : List Nat, l.length ≤ n → ∃ p r, l = wr p ++ r ∧ (r = [] ∨ r ≠ [] ∧ (fs r).2.2 ≠ 0) := by
  induction n with
  | zero => intro l h; exact ⟨[], [], List.length_eq_zero_iff.1 (by omega), .inl rfl⟩
  | succ n ih =>
    intro l h
    by_cases h0 : l = []
    · exact ⟨[], [], h0, .inl rfl⟩
    · by_cases he : (fs l).2.2 = 0
      · have h1 := fs_len h0 he
        have h2 := fs_ok h0 he
        obtain ⟨p, r, e, hr⟩ := ih (l.drop (fs l).2.1) (by rw [List.length_drop]; omega)
        refine ⟨(fs l).1 :: p, r, ?_, hr⟩
        rw [wr, List.append_assoc, ← e]; exact h2.1
      · exact ⟨[], l, rfl, .inr ⟨h0, he⟩⟩
theorem part (l : List Nat) : ∃ p r, l = wr p ++ r ∧ (r = [] ∨ r ≠ [] ∧ (fs r).2.2 ≠ 0) := parts _ l (Nat.le_refl _)
theorem part_byt {p r l : List Nat} (h : l = wr p ++ r) (hb : Byt l) : Byt p := by
  induction p generalizing l with
  | nil => exact byt_nil
  | cons c q ih =>
    intro x hx
    rw [wr, List.append_assoc] at h
    rcases List.mem_cons.1 hx with rfl | hx
    · have h1 := e1_len x
      by_cases h2 : x = 167
      · omega
      · by_cases h3 : x = 166
        · omega
        · rw [e1_any h2 h3] at h; exact hb x (by rw [h]; simp)
    · exact ih (l := wr q ++ r) rfl (fun y hy => hb y (by rw [h]; exact List.mem_append_right _ hy)) x hx
/-- .. what is told of such bytes -/
theorem part_fine {p : List Nat} : toldB 0 (wr p ++ []) = pl 0 p ∧ badB 0 (wr p ++ []) = (0, 0) := by
  rw [List.append_nil]; exact ⟨toldB_wr p 0, badB_wr p 0⟩
theorem part_bad {p r : List Nat} (h : r ≠ []) (he : (fs r).2.2 ≠ 0) : toldB 0 (wr p ++ r) = pl 0 p ∧ badB 0 (wr p ++ r) = ((fs r).2.2, (wr p).length) := by
  have := both_wr p r 0
  rw [toldB_err he, badB_err h he, List.append_nil, Nat.zero_add] at this
  exact this
theorem toldB_len (at_ : Nat) (l : List Nat) : (toldB at_ l).length ≤ l.length := by
  have key : ∀ f at_ l, (told f at_ l).length ≤ f := by
    intro f
    induction f with
    | zero => intro at_ l; simp [told]
    | succ f ih =>
      intro at_ l
      unfold told
      split
      · simp
      · split
        · rw [List.length_cons]; have := ih (at_ + (fs l).2.1) (l.drop (fs l).2.1); omega
        · simp
  exact key _ _ _
/-- the plain bytes of escaped ones -/
def plain (l : List Nat) : List Nat := (toldB 0 l).map Prod.snd
theorem plain_len (l : List Nat) : (plain l).length ≤ l.length := by
  unfold plain; rw [List.length_map]; exact toldB_len 0 l
theorem plain_byt {l : List Nat} (hb : Byt l) : Byt (plain l) := by
  obtain ⟨p, r, e, h⟩ := part l
  have hp := part_byt e hb
  subst e
  unfold plain
  rcases h with rfl | ⟨h1, h2⟩
  · rw [part_fine.1, pl_snd]; exact hp
  · rw [(part_bad h1 h2).1, pl_snd]; exact hp
theorem plain_wr (p : List Nat) : plain (wr p) = p := by unfold plain; rw [toldB_wr, pl_snd]
/-- what is opened comes, wrapped, to what was opened -/
theorem only {l : List Nat} (h : (badB 0 l).1 = 0) : wr (plain l) = l := by
  obtain ⟨p, r, e, hr⟩ := part l
  subst e
  rcases hr with rfl | ⟨h1, h2⟩
  · rw [List.append_nil, plain_wr]
  · rw [(part_bad h1 h2).2] at h; exact absurd h h2
theorem badB_place {l : List Nat} (h : (badB 0 l).1 ≠ 0) : (badB 0 l).2 < l.length ∧ ((badB 0 l).1 = 31 ∧ l.getD (badB 0 l).2 0 = 167 ∨ (badB 0 l).1 = 32 ∧ l.getD (badB 0 l).2 0 = 166) := by
  obtain ⟨p, r, e, hr⟩ := part l
  subst e
  rcases hr with rfl | ⟨h1, h2⟩
  · rw [part_fine.2] at h; exact absurd rfl h
  · rw [(part_bad h1 h2).2]
    simp only
    have hpos : 0 < r.length := List.length_pos_iff.2 h1
    refine ⟨by rw [List.length_append]; omega, ?_⟩
    have hg : (wr p ++ r).getD (wr p).length 0 = r.getD 0 0 := by
      rw [List.getD_eq_getElem?_getD, List.getElem?_append_right (Nat.le_refl _), Nat.sub_self, List.getD_eq_getElem?_getD]
    rw [hg]
    rcases fs_err r with h3 | h3 | h3
    · exact absurd h3 h2
    · exact .inl h3
    · exact .inr h3
theorem badB_zero {l : List Nat} (h : (badB 0 l).1 = 0) : badB 0 l = (0, 0) := by
  obtain ⟨p, r, e, hr⟩ := part l
  subst e
  rcases hr with rfl | ⟨h1, h2⟩
  · exact part_fine.2
  · rw [(part_bad h1 h2).2] at h; exact absurd h h2
end Vt
end Go.Proofs.Ytifjjoobbegpoaa
namespace Go.Proofs.Ytifjjoobbegpoaa
open Go.RowKit
namespace Vt
def eans (d : Nat × Nat × Nat) : Value := .tuple #[.int .u8 (d.1 : Int), .int .i64 (d.2.1 : Int), .int .i64 (d.2.2 : Int)]
theorem fs_1 {l : List Nat} (h : l.getD 0 0 = 167) : fs l = (0, 0, 31) := by unfold fs; rw [if_pos h]
theorem fs_2 {l : List Nat} (h : l.getD 0 0 ≠ 167) (h2 : l.getD 0 0 ≠ 166) : fs l = (l.getD 0 0, 1, 0) := by unfold fs; rw [if_neg h, if_pos h2]
theorem fs_3 {l : List Nat} (h : l.getD 0 0 = 166) (h2 : l.length = 1) : fs l = (0, 0, 32) := by unfold fs; rw [if_neg (by omega), if_neg (by simpa using h), if_pos h2]
theorem fs_4 {l : List Nat} (h : l.getD 0 0 = 166) (h2 : l.length ≠ 1) : fs l = if l.getD 1 0 = 0 then (166, 2, 0) else if l.getD 1 0 = 1 then (167, 2, 0) else (0, 0, 32) := by unfold fs; rw [if_neg (by omega), if_neg (by simpa using h), if_neg h2]
set_option maxRecDepth 100000 in
set_option maxHeartbeats 400000 in
theorem first_is (b off c : Nat) (l : List Nat) (w : World) (hb : Byt l) (hr : Row w b off l) (hne : l ≠ []) :
    Calls Try.prog 92 #[.slice (some ⟨b, off, none⟩) l.length c] w fun e w' => e = .returned (eans (fs l)) ∧ w' = w := by
  have hpos : 0 < l.length := List.length_pos_iff.2 hne
  have h0 := hr 0 hpos
  rw [Nat.add_zero] at h0
  have hx := getD_lt hb 0
  have hy := getD_lt hb 1
  have h1 : 1 < l.length → w.cell? ⟨b, off + 1, none⟩ = some (.int .u8 ((l.getD 1 0 : Nat) : Int)) := hr 1
  have F1 := hd (@fs_1 l)
  have F2 := hd (@fs_2 l)
  have F3 := hd (@fs_3 l)
  have F4 := hd (@fs_4 l)
  clear hr hb hne
  generalize l.getD 0 0 = x at *
  generalize l.getD 1 0 = y at *
  by_cases c1 : x = 167
  · subst c1
    rw [F1.out rfl]
    go_enter Try.func92, Try.ntmps92
    go_wp2_with fail
    go_ret3
    exact ⟨rfl, rfl⟩
  · by_cases c2 : x = 166
    · subst c2
      by_cases c3 : l.length = 1
      · rw [F3.out rfl c3]
        clear F1 F2 F3 F4 h1
        rw [c3]
        go_enter Try.func92, Try.ntmps92
        go_wp2_with fail
        go_ret3
        exact ⟨rfl, rfl⟩
      · rw [F4.out rfl c3]
        have h2 := h1 (by omega)
        have hl2 : ((l.length : Int) == 1) = false := by simp; omega
        clear F1 F2 F3 F4 h1
        by_cases c4 : y = 0
        · subst c4
          go_enter Try.func92, Try.ntmps92
          go_wp2_with fail
          go_ret3
          exact ⟨rfl, rfl⟩
        · by_cases c5 : y = 1
          · subst c5
            go_enter Try.func92, Try.ntmps92
            go_wp2_with fail
            go_ret3
            exact ⟨rfl, rfl⟩
          · rw [if_neg c4, if_neg c5]
            go_enter Try.func92, Try.ntmps92
            go_wp2_with fail
            go_ret3
            exact ⟨rfl, rfl⟩
    · rw [F2.out c1 c2]
      clear F1 F2 F3 F4 h1
      go_enter Try.func92, Try.ntmps92
      go_wp2_with fail
      go_ret3
      exact ⟨rfl, rfl⟩
end Vt
end Go.Proofs.Ytifjjoobbegpoaa
namespace Go.Proofs.Ytifjjoobbegpoaa
open Go.RowKit
namespace Vt
set_option maxRecDepth 100000 in
set_option maxHeartbeats 400000 in
theorem esize_row (b off c : Nat) (l : List Nat) (w : World) (hb : Byt l) (hr : Row w b off l) (hm : l.length ≤ 281474976710656) :
    Calls Try.prog 84 #[.slice (some ⟨b, off, none⟩) l.length c] w fun e w' => e = .returned (.int .i64 (((wr l).length : Nat) : Int)) ∧ w' = w := by
  have HR := hd hr
  have HB := hd hb
  clear hr hb
  go_enter Try.func84, Try.ntmps84
  go_wp2_with fail
  go_loop [3, 10] (fun s i => ∃ k n : Nat, k ≤ l.length ∧ i = .int .i64 (k : Int) ∧ s = .int .i64 (n : Int) ∧ n + k = l.length + (wr (l.take k)).length) (fun _ i => l.length - (intOf i).toNat)
  case atStart => exact ⟨0, l.length, by omega, rfl, rfl, by simp [wr]⟩
  case round =>
    obtain ⟨k, n, hk, rfl, rfl, hn⟩ := hrel
    by_cases hlt : k < l.length
    · have hc := HR.out k hlt
      have hx := getD_lt HB.out k
      have hs := congrArg List.length (wr_succ hlt)
      rw [List.length_append] at hs
      have hw := (wr_len (l.take k)).2
      have hw2 := (wr_len (l.take k)).1
      rw [List.length_take, show min k l.length = k by omega] at hw hw2
      generalize l.getD k 0 = x at *
      have HS : Hid (x = 167 → n + 1 + (k + 1) = l.length + (wr (l.take (k + 1))).length) := by
        show x = 167 → _
        intro h; subst h; rw [hs, e1_lead]; simp; omega
      have HS2 : Hid (x = 166 → n + 1 + (k + 1) = l.length + (wr (l.take (k + 1))).length) := by
        show x = 166 → _
        intro h; subst h; rw [hs, e1_esc]; simp; omega
      have HS3 : Hid (x ≠ 167 → x ≠ 166 → n + (k + 1) = l.length + (wr (l.take (k + 1))).length) := by
        show x ≠ 167 → x ≠ 166 → _
        intro h h2; rw [hs, e1_any h h2]; simp; omega
      have hn2 : n ≤ 3 * l.length := by omega
      clear hs hw hw2 hn
      by_cases c1 : x = 167
      · have HZ := hd (HS.out c1)
        subst c1
        clear HS HS2 HS3
        go_wp2_with fail
        go_round
        case rel => exact ⟨k + 1, n + 1, by omega, by go_num, by go_num, HZ.out⟩
        case measure => simp [intOf]; omega
      · by_cases c2 : x = 166
        · have HZ := hd (HS2.out c2)
          subst c2
          clear HS HS2 HS3
          go_wp2_with fail
          go_round
          case rel => exact ⟨k + 1, n + 1, by omega, by go_num, by go_num, HZ.out⟩
          case measure => simp [intOf]; omega
        · have HZ := hd (HS3.out c1 c2)
          have e1 : ((x : Int) == 167) = false := by simp; omega
          have e2 : ((x : Int) == 166) = false := by simp; omega
          clear HS HS2 HS3
          go_wp2_with fail
          go_round
          case rel => exact ⟨k + 1, n, by omega, by go_num, by go_num, HZ.out⟩
          case measure => simp [intOf]; omega
    · obtain rfl : k = l.length := by omega
      have HN : Hid (n = (wr l).length) := by
        show n = (wr l).length
        rw [List.take_length] at hn; omega
      clear hn
      go_wp2
      go_ret
      exact ⟨by rw [HN.out]; rfl, rfl⟩
set_option maxRecDepth 100000 in
set_option maxHeartbeats 400000 in
theorem esize_nil (a : Option Addr) (c : Nat) (w : World) :
    Calls Try.prog 84 #[.slice a 0 c] w fun e w' => e = .returned (.int .i64 0) ∧ w' = w := by
  go_enter Try.func84, Try.ntmps84
  go_wp2_with fail
  go_loop [3, 10] (fun s i => i = .int .i64 0 ∧ s = .int .i64 0) (fun _ _ => 0)
  case atStart => exact ⟨rfl, rfl⟩
  case round =>
    obtain ⟨rfl, rfl⟩ := hrel
    go_wp2
    go_ret
    exact ⟨rfl, rfl⟩
theorem esize_is (v : Value) (l : List Nat) (w : World) (h : IsB w v l) (hm : l.length ≤ 281474976710656) :
    Calls Try.prog 84 #[v] w fun e w' => e = .returned (.int .i64 (((wr l).length : Nat) : Int)) ∧ w' = w := by
  obtain ⟨hl, _, ⟨rfl, a, c, rfl⟩ | ⟨b, off, c, rfl, h1, h2, _, hr⟩⟩ := h
  · exact esize_nil a c w
  · exact esize_row b off c l w hl hr hm
theorem cell_two_new (w : World) (x y : Value) (t : TypeId) : ∀ j u, [x, y][j]? = some u → (w.alloc (.cells #[x, y] t)).cell? ((⟨w.heap.size, 0, none⟩ : Addr).add j) = some u := by
  intro j u hj
  rw [add_at, Nat.zero_add, World.cell?_alloc_new]
  match j, hj with
  | 0, hj => simpa using hj
  | 1, hj => simpa using hj
  | j + 2, hj => simp at hj
theorem jb_snoc2 {w : World} {base : Nat} {a : Option Addr} {n cap x y : Nat} {l : List Nat} (hx : x < 256) (hy : y < 256) (hb : Byt l) (hn : n = l.length) (h : w.ownsRow base 5 1 (.slice a (n + 2) cap) (n + 2) (bs l ++ [.int .u8 (x : Int), .int .u8 (y : Int)])) : JB w base (.slice a (n + 2) cap) (l ++ [x, y]) := by
  refine ⟨byt_app hb (by intro z hz; simp at hz; omega), ?_⟩
  subst hn
  rw [List.length_append, ← bs_app]
  exact h
set_option maxRecDepth 100000 in
set_option maxHeartbeats 400000 in
theorem wrap_row (b off c : Nat) (l : List Nat) (w : World) (hl : Byt l) (hb : b < w.heap.size) (hr : Row w b off l) (hm : l.length ≤ 140737488355328) :
    Calls Try.prog 66 #[.slice (some ⟨b, off, none⟩) l.length c] w fun e w' => e = .returned (.slice (some ⟨w.heap.size, 0, none⟩) (wr l).length (wr l).length) ∧ JB w' w.heap.size (.slice (some ⟨w.heap.size, 0, none⟩) (wr l).length (wr l).length) (wr l) ∧ Below w.heap.size w w' := by
  have HC := hd (esize_row b off c l w hl hr (by omega))
  have hlen := (wr_len l).2
  have HR := hd hr
  have HL := hd hl
  obtain ⟨i0, hi, hz0, hz1, hz2⟩ := info_parts info_u8
  clear hr hl
  generalize hcap : (wr l).length = cap at *
  have HCAP := hd hcap
  clear hcap
  go_enter Try.func66, Try.ntmps66
  go_wp2_with fail
  refine Calls.mono HC.out ?_
  rintro e w' ⟨rfl, rfl⟩
  clear HC
  go_wp2_with (at_make; refine wpList_make_own _ rfl _ _ 22 rfl w'.heap.size 5 i0 (.int .u8 0) 1 Try.underlying22 hi hz0 hz1 .i64 .i64 (cap : Int) cap rfl rfl rfl (by rw [hz2]; omega) (by unfold maxLen; omega) (Nat.le_refl _) ?_; intro w1 hown hgrow)
  have HB1 : Hid (Below w'.heap.size w' w1) := (Below.refl _ _).grown hgrow (Nat.le_refl _) (fun k hk => by cases hk)
  have HO1 : Hid (JB w1 w'.heap.size (.slice (some ⟨w'.heap.size, 0, none⟩) 0 cap) []) := ⟨byt_nil, hown⟩
  clear hown hgrow
  go_loopw [3, 11] (fun v i wr => ∃ k : Nat, k ≤ l.length ∧ i = .int .i64 (k : Int) ∧ v = .slice (some ⟨w'.heap.size, 0, none⟩) (Vt.wr (l.take k)).length cap ∧ JB wr w'.heap.size (.slice (some ⟨w'.heap.size, 0, none⟩) (Vt.wr (l.take k)).length cap) (Vt.wr (l.take k)) ∧ Below w'.heap.size w' wr) (fun _ i _ => l.length - (intOf i).toNat)
  case atStart => exact ⟨0, by omega, rfl, rfl, HO1.out, HB1.out⟩
  case round =>
    clear HO1 HB1
    obtain ⟨k, hk, rfl, rfl, hJ, hB⟩ := hrel
    have HJ := hd hJ
    have HB := hd hB
    clear hJ hB
    by_cases hlt : k < l.length
    · have hc : wr.cell? ⟨b, off + k, none⟩ = some (.int .u8 ((l.getD k 0 : Nat) : Int)) := by
        rw [HB.out.cell hb]; exact HR.out k hlt
      have hx := getD_lt HL.out k
      have HE := hd (wr_succ hlt)
      have hec : (Vt.wr (l.take (k + 1))).length ≤ cap := by
        rw [← HCAP.out]
        have : Vt.wr l = Vt.wr (l.take (k + 1)) ++ Vt.wr (l.drop (k + 1)) := by rw [← wr_append, List.take_append_drop]
        rw [this, List.length_append]; omega
      have hfit : (Vt.wr (l.take k)).length + (e1 (l.getD k 0)).length ≤ cap := by
        have := congrArg List.length HE.out
        rw [List.length_append] at this; omega
      clear hec
      have HO := hd HJ.out.2
      generalize l.getD k 0 = x at *
      generalize henc : Vt.wr (l.take k) = acc at *
      clear henc
      by_cases c1 : x = 167
      · subst c1
        rw [e1_lead] at HE hfit
        have hfit2 : acc.length + 2 ≤ cap := hfit
        clear hfit
        go_wp2_with (at_builtin; refine wpList_append_fits _ rfl _ _ 22 rfl w'.heap.size 5 i0 1 Try.underlying22 hi hz1 w'.heap.size acc.length cap (bs acc) rfl (HO.out.alloc _) ⟨wr.heap.size, 0, none⟩ 2 2 [_, _] rfl rfl (cell_two_new _ _ _ _) (by simp [Value.oneCell']) hfit2 ?_; intro w2 hown2 hgrow2)
        have HO2 := hd (jb_snoc2 (x := 166) (y := 1) (by omega) (by omega) HJ.out.1 rfl hown2)
        have HB2 := hd ((HB.out.alloc HB.out.size _).grown hgrow2 (by have := HB.out.size; simp; omega) (fun k hk => by cases hk; exact Nat.le_refl _))
        rw [← HE.out] at HO2
        have HFL : Hid (acc.length + 2 = (Vt.wr (l.take (k + 1))).length) := by
          show acc.length + 2 = _
          rw [HE.out]; simp
        rw [HFL.out] at HO2
        clear hown2 hgrow2 HO
        rw [HFL.out]
        go_roundw
        case rel => exact ⟨k + 1, by omega, by go_num, rfl, HO2.out, HB2.out⟩
        case measure => simp [intOf]; omega
      · by_cases c2 : x = 166
        · subst c2
          rw [e1_esc] at HE hfit
          have hfit2 : acc.length + 2 ≤ cap := hfit
          clear hfit
          go_wp2_with (at_builtin; refine wpList_append_fits _ rfl _ _ 22 rfl w'.heap.size 5 i0 1 Try.underlying22 hi hz1 w'.heap.size acc.length cap (bs acc) rfl (HO.out.alloc _) ⟨wr.heap.size, 0, none⟩ 2 2 [_, _] rfl rfl (cell_two_new _ _ _ _) (by simp [Value.oneCell']) hfit2 ?_; intro w2 hown2 hgrow2)
          have HO2 := hd (jb_snoc2 (x := 166) (y := 0) (by omega) (by omega) HJ.out.1 rfl hown2)
          have HB2 := hd ((HB.out.alloc HB.out.size _).grown hgrow2 (by have := HB.out.size; simp; omega) (fun k hk => by cases hk; exact Nat.le_refl _))
          rw [← HE.out] at HO2
          have HFL : Hid (acc.length + 2 = (Vt.wr (l.take (k + 1))).length) := by
            show acc.length + 2 = _
            rw [HE.out]; simp
          rw [HFL.out] at HO2
          clear hown2 hgrow2 HO
          rw [HFL.out]
          go_roundw
          case rel => exact ⟨k + 1, by omega, by go_num, rfl, HO2.out, HB2.out⟩
          case measure => simp [intOf]; omega
        · rw [e1_any c1 c2] at HE hfit
          have hfit2 : acc.length + 1 ≤ cap := hfit
          have q1 : ((x : Int) == 167) = false := by simp; omega
          have q2 : ((x : Int) == 166) = false := by simp; omega
          clear hfit
          go_wp2_with (at_builtin; refine wpList_append_fits _ rfl _ _ 22 rfl w'.heap.size 5 i0 1 Try.underlying22 hi hz1 w'.heap.size acc.length cap (bs acc) rfl (HO.out.alloc _) ⟨wr.heap.size, 0, none⟩ 1 1 [_] rfl rfl (cell_one_new _ _ _) (by simp [Value.oneCell']) hfit2 ?_; intro w2 hown2 hgrow2)
          have HO2 := hd (jb_snoc (y := x) rfl hx HJ.out.1 rfl hown2)
          have HB2 := hd ((HB.out.alloc HB.out.size _).grown hgrow2 (by have := HB.out.size; simp; omega) (fun k hk => by cases hk; exact Nat.le_refl _))
          rw [← HE.out] at HO2
          have HFL : Hid (acc.length + 1 = (Vt.wr (l.take (k + 1))).length) := by
            show acc.length + 1 = _
            rw [HE.out]; simp
          rw [HFL.out] at HO2
          clear hown2 hgrow2 HO
          rw [HFL.out]
          go_roundw
          case rel => exact ⟨k + 1, by omega, by go_num, rfl, HO2.out, HB2.out⟩
          case measure => simp [intOf]; omega
    · obtain rfl : k = l.length := by omega
      rw [List.take_length, HCAP.out] at HJ
      go_wp2
      go_ret
      exact ⟨by rw [show (Vt.wr (l.take l.length)).length = cap by rw [List.take_length]; exact HCAP.out]; rfl, HJ.out, HB.out⟩
set_option maxRecDepth 100000 in
set_option maxHeartbeats 400000 in
theorem wrap_nil (a : Option Addr) (c : Nat) (w : World) :
    Calls Try.prog 66 #[.slice a 0 c] w fun e w' => e = .returned (.slice (some ⟨w.heap.size, 0, none⟩) 0 0) ∧ JB w' w.heap.size (.slice (some ⟨w.heap.size, 0, none⟩) 0 0) [] ∧ Below w.heap.size w w' := by
  obtain ⟨i0, hi, hz0, hz1, hz2⟩ := info_parts info_u8
  go_enter Try.func66, Try.ntmps66
  go_wp2_with fail
  refine Calls.mono (esize_nil a c w) ?_
  rintro e w' ⟨rfl, rfl⟩
  go_wp2_with (at_make; refine wpList_make_own _ rfl _ _ 22 rfl w'.heap.size 5 i0 (.int .u8 0) 1 Try.underlying22 hi hz0 hz1 .i64 .i64 0 0 rfl rfl rfl (by rw [hz2]; omega) (by unfold maxLen; omega) (Nat.le_refl _) ?_; intro w1 hown hgrow)
  have HB1 : Hid (Below w'.heap.size w' w1) := (Below.refl _ _).grown hgrow (Nat.le_refl _) (fun k hk => by cases hk)
  have HO1 : Hid (JB w1 w'.heap.size (.slice (some ⟨w'.heap.size, 0, none⟩) 0 0) []) := ⟨byt_nil, hown⟩
  clear hown hgrow
  go_loopw [3, 11] (fun v i wr => i = .int .i64 0 ∧ v = .slice (some ⟨w'.heap.size, 0, none⟩) 0 0 ∧ wr = w1) (fun _ _ _ => 0)
  case atStart => exact ⟨rfl, rfl, rfl⟩
  case round =>
    obtain ⟨rfl, rfl, rfl⟩ := hrel
    go_wp2
    go_ret
    exact ⟨rfl, HO1.out, HB1.out⟩
theorem wrap_is (v : Value) (l : List Nat) (w : World) (h : IsB w v l) (hm : l.length ≤ 140737488355328) :
    Calls Try.prog 66 #[v] w fun e w' => e = .returned (.slice (some ⟨w.heap.size, 0, none⟩) (wr l).length (wr l).length) ∧ JB w' w.heap.size (.slice (some ⟨w.heap.size, 0, none⟩) (wr l).length (wr l).length) (wr l) ∧ Below w.heap.size w w' := by
  obtain ⟨hl, _, ⟨rfl, a, c, rfl⟩ | ⟨b, off, c, rfl, _, _, hb, hr⟩⟩ := h
  · exact wrap_nil a c w
  · exact wrap_row b off c l w hl hb hr hm
end Vt
end Go.Proofs.Ytifjjoobbegpoaa
