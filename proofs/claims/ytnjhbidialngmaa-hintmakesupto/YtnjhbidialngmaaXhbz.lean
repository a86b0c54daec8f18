/-
  ROWS OF STRUCTS THAT CAME OUT, EACH ITS OWNER'S: several of them, no two the same ('RSR'); written full, each of a mark of its own ('In1R'), then made longer one by one ('In2R').
  LISTS OF STRUCTS THAT CAME OUT, EACH ITS OWNER'S, AND A SECOND LIST OF THE LONGER ONES: what is known while they are written full ('Q1'), while they are made longer ('Q2'), and when they are looked at ('Q2.cells').
-/
import Derived.Test.YtnjhbidialngmaaXhbx
import Derived.Test.YtnjhbidialngmaaXhby
namespace Go.Proofs.Ytnjhbidialngmaa
open Go.RowKit
namespace Os
open Vt Ow
theorem setCells_heap (g b : Nat) (h : b ≠ g) (r : List Value) : ∀ (w : World) (p : Nat), (w.setCells g p r).heap[b]? = w.heap[b]? := by
  induction r with
  | nil => intro w p; rfl
  | cons u q ih =>
    intro w p
    show ((w.setCell ⟨g, p, none⟩ u).setCells g (p + 1) q).heap[b]? = _
    rw [ih, set_heap w g p b u h]
theorem setCells_below {base g : Nat} (hg : base ≤ g) (r : List Value) : ∀ (w0 w : World) (p : Nat), Below base w0 w → Below base w0 (w.setCells g p r) := by
  induction r with
  | nil => intro w0 w p h; exact h
  | cons u q ih => intro w0 w p h; exact ih w0 _ (p + 1) (h.setCell hg u)
section
variable {α : Type} (mk : Nat → α)
/-- the rows while they are written full: those ahead of i are, of i the first k elements -/
def wrg (f : Nat → List α) (i k : Nat) : Nat → List α := fun t => if t < i then List.replicate (f t).length (mk t) else if t = i then List.replicate k (mk i) ++ (f i).drop k else f t
theorem rep_setg (k : Nat) (u : α) (xs : List α) (h : k < xs.length) : (List.replicate k u ++ xs.drop k).set k u = List.replicate (k + 1) u ++ xs.drop (k + 1) := by
  rw [List.set_append_right _ _ (by simp), List.length_replicate, Nat.sub_self]
  rw [List.drop_eq_getElem_cons h, List.set_cons_zero, List.replicate_succ', List.append_assoc]
  rfl
theorem wrg_next (f : Nat → List α) (i k : Nat) (h : k < (f i).length) (t : Nat) : (if t = i then (wrg mk f i k i).set k (mk i) else wrg mk f i k t) = wrg mk f i (k + 1) t := by
  unfold wrg
  by_cases hti : t = i
  · subst hti
    simp only [if_true, Nat.lt_irrefl, if_false]
    exact rep_setg k (mk t) (f t) h
  · simp only [if_neg hti]
theorem wrg_done (f : Nat → List α) (i k : Nat) (h : k = (f i).length) (t : Nat) : wrg mk f i k t = wrg mk f (i + 1) 0 t := by
  subst h
  unfold wrg
  rcases Nat.lt_trichotomy t i with q | q | q
  · rw [if_pos q, if_pos (by omega)]
  · subst q
    rw [if_neg (by omega), if_pos rfl, if_pos (by omega), List.drop_length, List.append_nil]
  · rw [if_neg (by omega), if_neg (by omega), if_neg (by omega)]
    by_cases h1 : t = i + 1
    · rw [if_pos h1, h1]; simp
    · rw [if_neg h1]
theorem wrg_zero (f : Nat → List α) (t : Nat) : f t = wrg mk f 0 0 t := by
  unfold wrg
  rw [if_neg (by omega)]
  by_cases h : t = 0
  · rw [if_pos h, h]; simp
  · rw [if_neg h]
theorem wrg_len (f : Nat → List α) (i k t : Nat) (h : k ≤ (f i).length) : (wrg mk f i k t).length = (f t).length := by
  unfold wrg
  split
  · simp
  · split
    · rename_i e; subst e; simp; omega
    · rfl
/-- a row written full -/
def fug (f : Nat → List α) (t : Nat) : List α := List.replicate (f t).length (mk t)
theorem wrg_full (f : Nat → List α) (m t : Nat) (h : t < m) : wrg mk f m 0 t = fug mk f t := by unfold wrg fug; rw [if_pos h]
theorem fug_len (f : Nat → List α) (t : Nat) : (fug mk f t).length = (f t).length := by simp [fug]
theorem fug_at (f : Nat → List α) (t k : Nat) (h : k < (f t).length) : (fug mk f t)[k]? = some (mk t) := by simp [fug, h]
theorem long_at (f : Nat → List α) (t k : Nat) (h : k < (f t).length + 64) : (fug mk f t ++ List.replicate 64 (mk t))[k]? = some (mk t) := by
  unfold fug
  rw [List.replicate_append_replicate]
  simp [h]
theorem long_len (f : Nat → List α) (t : Nat) : (fug mk f t ++ List.replicate 64 (mk t)).length = (f t).length + 64 := by simp [fug]
end
/-- the rows: each its owner's, no two the same -/
structure RSR (E : TypeId) (sz : Nat) (w : World) (base : Nat) (vs : List Value) (f : Nat → List (List Value)) : Prop where
  row : ∀ i, i < vs.length → JR E sz w base (vs.getD i nil) (f i)
  apart : ∀ i j g, i < vs.length → j < vs.length → i ≠ j → (vs.getD i nil).ownBlock = some g → (vs.getD j nil).ownBlock ≠ some g
section
variable {E : TypeId} {sz : Nat}
theorem RSR.eq {w : World} {base : Nat} {vs : List Value} {f f' : Nat → List (List Value)} (h : RSR E sz w base vs f) (e : ∀ t, t < vs.length → f t = f' t) : RSR E sz w base vs f' := ⟨fun i hi => by rw [← e i hi]; exact h.row i hi, h.apart⟩
theorem RSR.keep {w w' : World} {base : Nat} {vs : List Value} {f : Nat → List (List Value)} (h : RSR E sz w base vs f) (hb : Below w.heap.size w w') : RSR E sz w' base vs f := ⟨fun i hi => (h.row i hi).keepAll hb, h.apart⟩
/-- a row of structs and a row of other things -/
theorem jr_ne_jv {w : World} {b1 b2 : Nat} {v1 v2 : Value} {x1 : List (List Value)} {E2 : TypeId} {x2 : List Value} (h1 : JR E sz w b1 v1 x1) (h2 : JV E2 w b2 v2 x2) (hE : E ≠ E2) {g : Nat} (hg : v1.ownBlock = some g) : v2.ownBlock ≠ some g := by
  intro hg2
  obtain ⟨_, _, ⟨rfl, _⟩ | ⟨g1, c1, cur1, rfl, _, hh1, _⟩⟩ := h1
  · cases hg
  · obtain ⟨_, _, ⟨rfl, _⟩ | ⟨g2, c2, cur2, rfl, _, hh2, _⟩⟩ := h2
    · cases hg2
    · have e1 : g1 = g := by simpa [Value.ownBlock] using hg
      have e2 : g2 = g := by simpa [Value.ownBlock] using hg2
      rw [e1] at hh1
      rw [e2, hh1] at hh2
      injection hh2 with hh2
      injection hh2 with _ h3 _
      exact hE h3
/-- one element of a row is written -/
theorem RSR.put {w : World} {base : Nat} {vs : List Value} {f : Nat → List (List Value)} (h : RSR E sz w base vs f) {i g n cap k : Nat} (hi : i < vs.length) (hk : k < (f i).length) (hv : vs.getD i nil = .slice (some ⟨g, 0, none⟩) n cap) {r : List Value} (hr : r.length = sz) (h1 : ∀ u ∈ r, u.oneCell' = true) :
    RSR E sz (w.setCells g (k * sz) r) base vs (fun t => if t = i then (f i).set k r else f t) ∧ Kept w (w.setCells g (k * sz) r) vs ∧ base ≤ g := by
  have hrow := h.row i hi
  rw [hv] at hrow
  have hn : n = (f i).length := by
    obtain ⟨a, c, e, _⟩ := hrow.shape
    injection e
  have hb : base ≤ g := hrow.blk_ge g rfl
  refine ⟨⟨fun t ht => ?_, h.apart⟩, ⟨by rw [setCells_size]; exact Nat.le_refl _, fun b _ hb => setCells_heap g b (fun e => ?_) r w _⟩, hb⟩
  · by_cases hti : t = i
    · subst hti
      simp only [if_true]
      rw [hv]
      exact jr_setCells hrow hn hk hr h1
    · simp only [if_neg hti]
      refine jr_same (h.row t ht) fun b hb => setCells_heap g b (fun e => ?_) r w _
      refine h.apart t i b ht hi hti hb ?_
      rw [hv, e]; rfl
  · refine hb i hi ?_
    rw [hv, e]; rfl
/-- all that is known while the rows are written full -/
structure In1R (E : TypeId) (sz : Nat) (mk : Nat → List Value) (w : World) (base : Nat) (vs : List Value) (f : Nat → List (List Value)) (wr : World) (i k : Nat) : Prop where
  rows : RSR E sz wr base vs (wrg mk f i k)
  below : Below base w wr
  kept : Kept w wr vs
variable {mk : Nat → List Value}
theorem In1R.start {w w0 : World} {base : Nat} {vs : List Value} {f : Nat → List (List Value)} (h : RSR E sz w0 base vs f) (hb : Below base w w0) (hk : Kept w w0 vs) : In1R E sz mk w base vs f w0 0 0 := ⟨h.eq fun t _ => wrg_zero mk f t, hb, hk⟩
theorem In1R.put {w : World} {base : Nat} {vs : List Value} {f : Nat → List (List Value)} {wr : World} {i k : Nat} (h : In1R E sz mk w base vs f wr i k) (hi : i < vs.length) (hk : k < (f i).length) {g n c : Nat} (hv : vs.getD i nil = .slice (some ⟨g, 0, none⟩) n c) (hr : (mk i).length = sz) (h1 : ∀ u ∈ mk i, u.oneCell' = true) : In1R E sz mk w base vs f (wr.setCells g (k * sz) (mk i)) i (k + 1) := by
  obtain ⟨h2, h3, h4⟩ := h.rows.put (k := k) hi (by rw [wrg_len mk f i k i (by omega)]; exact hk) hv hr h1
  exact ⟨h2.eq fun t _ => wrg_next mk f i k hk t, setCells_below h4 _ _ _ _ h.below, h.kept.trans h3⟩
theorem In1R.next {w : World} {base : Nat} {vs : List Value} {f : Nat → List (List Value)} {wr : World} {i k : Nat} (h : In1R E sz mk w base vs f wr i k) (hk : k = (f i).length) : In1R E sz mk w base vs f wr (i + 1) 0 := ⟨h.rows.eq fun t _ => wrg_done mk f i k hk t, h.below, h.kept⟩
/-- a list of another type stands while an element is written -/
theorem RSR.jv {w : World} {base b2 : Nat} {vs : List Value} {f : Nat → List (List Value)} (h : RSR E sz w base vs f) {E2 : TypeId} (hE : E ≠ E2) {v2 : Value} {xs : List Value} (h2 : JV E2 w b2 v2 xs) {i g n cap p : Nat} (hi : i < vs.length) (hv : vs.getD i nil = .slice (some ⟨g, 0, none⟩) n cap) (r : List Value) : JV E2 (w.setCells g p r) b2 v2 xs := by
  have hrow := h.row i hi
  rw [hv] at hrow
  refine h2.same fun b hb => setCells_heap g b (fun e => ?_) r w p
  exact jr_ne_jv hrow h2 hE (g := g) rfl (by rw [← e]; exact hb)
/-- all that is known while the rows are made longer -/
structure In2R (E : TypeId) (sz : Nat) (mk : Nat → List Value) (w : World) (base : Nat) (vs : List Value) (f : Nat → List (List Value)) (wr : World) (i : Nat) (gs : List Value) : Prop where
  rows : RSR E sz wr base vs (fug mk f)
  len : gs.length = i
  grow : ∀ t, t < i → JR E sz wr base (gs.getD t nil) (fug mk f t ++ List.replicate 64 (mk t))
  apart : ∀ t s b, t < i → i ≤ s → s < vs.length → (gs.getD t nil).ownBlock = some b → (vs.getD s nil).ownBlock ≠ some b
  below : Below base w wr
  kept : Kept w wr vs
theorem In1R.two {w : World} {base : Nat} {vs : List Value} {f : Nat → List (List Value)} {wr : World} (h : In1R E sz mk w base vs f wr vs.length 0) : In2R E sz mk w base vs f wr 0 [] :=
  ⟨h.rows.eq fun t ht => wrg_full mk f vs.length t ht, rfl, fun t ht => by omega, fun t s b ht => by omega, h.below, h.kept⟩
/-- a row was made longer, and what came of it was put into a list of another type: w' is the world behind -/
theorem In2R.step {w : World} {base : Nat} {vs : List Value} {f : Nat → List (List Value)} {W wk w' : World} {i : Nat} {gv : Value} {gs : List Value} (h : In2R E sz mk w base vs f W i gs) (hbase : base ≤ w.heap.size) (hi : i < vs.length)
    (hx : ExtR E sz W base (vs.getD i nil) (fug mk f i) (mk i) 64 gv wk) (hrest : ∀ {v : Value} {xs : List (List Value)}, JR E sz wk base v xs → JR E sz w' base v xs) (hbel : Below base wk w') (hk : ∀ b, b < w.heap.size → wk.heap.size ≤ w'.heap.size ∧ w'.heap[b]? = wk.heap[b]?) (hsz : wk.heap.size ≤ w'.heap.size) : In2R E sz mk w base vs f w' (i + 1) (gs ++ [gv]) := by
  have hri := h.rows.row i hi
  have k1 : ∀ {v : Value} {xs : List (List Value)}, JR E sz W base v xs → (∀ b, v.ownBlock = some b → (vs.getD i nil).ownBlock ≠ some b) → JR E sz wk base v xs := fun {v xs} hv hne => jr_same hv fun b hb => hx.block b (hv.blk_lt b hb) fun e => hne b hb e.symm
  have hrows : ∀ t, t < vs.length → JR E sz wk base (vs.getD t nil) (fug mk f t) := by
    intro t ht
    by_cases e : t = i
    · subst e; exact hx.old
    · exact k1 (h.rows.row t ht) fun b hb => h.rows.apart t i b ht hi e hb
  have hgrow : ∀ t, t < i + 1 → JR E sz wk base ((gs ++ [gv]).getD t nil) (fug mk f t ++ List.replicate 64 (mk t)) := by
    intro t ht
    rw [getD_snoc h.len]
    by_cases e : t = i
    · subst e; rw [if_pos rfl]; exact hx.row
    · rw [if_neg e]
      exact k1 (h.grow t (by omega)) fun b hb => h.apart t i b (by omega) (Nat.le_refl _) hi hb
  have h1 := h.kept.1
  have h2 := hx.size
  refine ⟨⟨fun t ht => hrest (hrows t ht), h.rows.apart⟩, by simp [h.len], fun t ht => hrest (hgrow t ht), ?_, ?_, ?_⟩
  · intro t s b ht hs hsl hb
    rw [getD_snoc h.len] at hb
    by_cases e : t = i
    · subst e
      rw [if_pos rfl] at hb
      rcases hx.way with ⟨g, cap, e1, e2⟩ | ⟨e1, _⟩ | ⟨g, e1, e2⟩
      · refine h.rows.apart t s b hi hsl (by omega) ?_
        rw [e2] at hb
        rw [e1]; exact hb
      · omega
      · intro q
        rw [e1] at hb
        injection hb with hb
        have := (h.rows.row s hsl).blk_lt b q
        omega
    · rw [if_neg e] at hb
      exact h.apart t s b (by omega) (by omega) hsl hb
  · have hb1 : Below base W wk := ⟨hx.os, hx.tape, hx.output, hx.size, fun b hb => hx.block b (by omega) (fun e => by have := hri.blk_ge b e.symm; omega)⟩
    exact (h.below.trans hb1).trans hbel
  · refine ⟨by omega, fun b hb hn => ?_⟩
    rw [(hk b hb).2, hx.block b (by omega) (fun e => hn i hi e.symm), h.kept.2 b hb hn]
/-- a list of another type stands while a row is made longer -/
theorem RSR.jvx {w : World} {base b2 : Nat} {vs : List Value} {f : Nat → List (List Value)} {i : Nat} {xs : List (List Value)} {r0 : List Value} {k : Nat} {gv : Value} {wk : World} (h : RSR E sz w base vs f) {E2 : TypeId} (hE : E ≠ E2) {v2 : Value} {ys : List Value} (h2 : JV E2 w b2 v2 ys) (hi : i < vs.length) (hx : ExtR E sz w base (vs.getD i nil) xs r0 k gv wk) : JV E2 wk b2 v2 ys :=
  h2.same fun b hb => hx.block b (h2.blk_lt b hb) fun e => jr_ne_jv (h.row i hi) h2 hE (g := b) e.symm hb
/-- rows of structs stand while a list of another type is made longer -/
theorem jr_after {base : Nat} {E2 : TypeId} (hE : E ≠ E2) {wk w' : World} {V2 V3 gv : Value} {gs : List Value} {o : Obj} (hlong : JV E2 wk base V2 gs) (hp : AppPost E2 (wk.alloc o) base V2 gs gv V3 w') {v : Value} {xs : List (List Value)} (hv : JR E sz wk base v xs) : JR E sz w' base v xs := by
  have hsz : (wk.alloc o).heap.size = wk.heap.size + 1 := by simp
  refine jr_same hv fun b hb => ?_
  have hlt := hv.blk_lt b hb
  rw [hp.grown.block b (by rw [hsz]; omega) (fun e => jr_ne_jv hv hlong hE hb e.symm)]
  exact ((Below.refl wk.heap.size wk).alloc (Nat.le_refl _) o).block b hlt
end
end Os
end Go.Proofs.Ytnjhbidialngmaa
namespace Go.Proofs.Ytnjhbidialngmaa
open Go.RowKit
namespace Os
open Vt Ow
section
variable {E LS : TypeId} {sz : Nat} {mk : Nat → List Value}
/-- while the rows are written full -/
structure Q1 (E LS : TypeId) (sz : Nat) (mk : Nat → List Value) (w : World) (base : Nat) (LV : Value) (vs : List Value) (f : Nat → List (List Value)) (wr : World) (i k : Nat) : Prop where
  in1 : In1R E sz mk w base vs f wr i k
  list : JV LS wr base LV vs
theorem Q1.put {w : World} {base : Nat} {LV : Value} {vs : List Value} {f : Nat → List (List Value)} {wr : World} {i k : Nat} (hE : E ≠ LS) (h : Q1 E LS sz mk w base LV vs f wr i k) (hi : i < vs.length) (hk : k < (f i).length) {g n c : Nat} (hv : vs.getD i Ow.nil = .slice (some ⟨g, 0, none⟩) n c) (hr : (mk i).length = sz) (h1 : ∀ u ∈ mk i, u.oneCell' = true) : Q1 E LS sz mk w base LV vs f (wr.setCells g (k * sz) (mk i)) i (k + 1) :=
  ⟨h.in1.put hi hk hv hr h1, h.in1.rows.jv hE h.list hi hv _⟩
theorem Q1.next {w : World} {base : Nat} {LV : Value} {vs : List Value} {f : Nat → List (List Value)} {wr : World} {i k : Nat} (h : Q1 E LS sz mk w base LV vs f wr i k) (hk : k = (f i).length) : Q1 E LS sz mk w base LV vs f wr (i + 1) 0 := ⟨h.in1.next hk, h.list⟩
theorem Q1.drewN {w : World} {base : Nat} {LV : Value} {vs : List Value} {f : Nat → List (List Value)} {wr : World} {i k : Nat} (h : Q1 E LS sz mk w base LV vs f wr i k) (n : Nat) : Q1 E LS sz mk w base LV vs f (wr.drewN n) i k :=
  ⟨⟨⟨fun t ht => (h.in1.rows.row t ht).drewN n, h.in1.rows.apart⟩, below_drewN h.in1.below n, h.in1.kept⟩, h.list⟩
theorem Q1.drew {w : World} {base : Nat} {LV : Value} {vs : List Value} {f : Nat → List (List Value)} {wr : World} {i k : Nat} (h : Q1 E LS sz mk w base LV vs f wr i k) : Q1 E LS sz mk w base LV vs f wr.drew i k :=
  ⟨⟨⟨fun t ht => (h.in1.rows.row t ht).drew, h.in1.rows.apart⟩, h.in1.below.drew, h.in1.kept⟩, h.list⟩
/-- what stands at a place of the list of lists -/
theorem Q1.cells {w : World} {base gl cl : Nat} {vs : List Value} {f : Nat → List (List Value)} {wr : World} {i k : Nat} (h : Q1 E LS sz mk w base (.slice (some ⟨gl, 0, none⟩) vs.length cl) vs f wr i k) (hi : i < vs.length) (hk : k ≤ (f i).length) : ∃ a3 c3, vs.getD i Ow.nil = .slice a3 (f i).length c3 ∧ (f i).length ≤ c3 ∧ wr.cell? ⟨gl, i, none⟩ = some (.slice a3 (f i).length c3) ∧ (k < (f i).length → ∃ g3, a3 = some ⟨g3, 0, none⟩) := by
  have hcl := (h.list.at.2.2.2.2.2 i _ (getD_at hi)).1
  have hrow := h.in1.rows.row i hi
  obtain ⟨a3, c3, hv3, hle3⟩ := hrow.shape
  rw [wrg_len mk f i k i hk] at hv3 hle3
  rw [hv3] at hcl
  refine ⟨a3, c3, hv3, hle3, hcl, fun hlt => ?_⟩
  obtain ⟨g3, c', e, _⟩ := hrow.nn (by intro e; have := wrg_len mk f i k i hk; rw [e] at this; simp at this; omega)
  rw [hv3] at e
  injection e with e
  exact ⟨g3, e⟩
/-- a place of a list that is to be written -/
theorem Q1.there {w : World} {base : Nat} {LV : Value} {vs : List Value} {f : Nat → List (List Value)} {wr : World} {i k : Nat} (h : Q1 E LS sz mk w base LV vs f wr i k) (hi : i < vs.length) (hk : k < (f i).length) {g n c : Nat} (hv : vs.getD i Ow.nil = .slice (some ⟨g, 0, none⟩) n c) : ∀ j, j < sz → (∃ u, wr.cell? ⟨g, k * sz + j, none⟩ = some u) ∧ wr.frozen? ⟨g, k * sz + j, none⟩ = false := by
  have hrow := h.in1.rows.row i hi
  rw [hv] at hrow
  have ht := jr_thereR hrow (k := k) (by rw [wrg_len mk f i k i (by omega)]; exact hk)
  exact fun j hj => ⟨Option.isSome_iff_exists.1 (ht j hj).1, (ht j hj).2⟩
/-- while the rows are made longer -/
structure Q2 (E LS : TypeId) (sz : Nat) (mk : Nat → List Value) (w : World) (base : Nat) (LV : Value) (vs : List Value) (f : Nat → List (List Value)) (wr : World) (i : Nat) (gs : List Value) (GV : Value) : Prop where
  in2 : In2R E sz mk w base vs f wr i gs
  list : JV LS wr base LV vs
  long : JV LS wr base GV gs
  fresh : ∀ b, GV.ownBlock = some b → w.heap.size ≤ b
theorem Q1.two {w : World} {base : Nat} {LV : Value} {vs : List Value} {f : Nat → List (List Value)} {wr : World} (h : Q1 E LS sz mk w base LV vs f wr vs.length 0) : Q2 E LS sz mk w base LV vs f wr 0 [] (.slice none 0 0) :=
  ⟨h.in1.two, h.list, ⟨by simp, rfl, .inl ⟨rfl, rfl⟩⟩, fun b hb => by cases hb⟩
theorem Q2.lists {w : World} {base : Nat} {LV GV gv : Value} {vs gs : List Value} {f : Nat → List (List Value)} {W wk : World} {i k : Nat} (hE : E ≠ LS) (h : Q2 E LS sz mk w base LV vs f W i gs GV) (hi : i < vs.length) (hx : ExtR E sz W base (vs.getD i Ow.nil) (fug mk f i) (mk i) k gv wk) : JV LS wk base LV vs ∧ JV LS wk base GV gs :=
  ⟨h.in2.rows.jvx hE h.list hi hx, h.in2.rows.jvx hE h.long hi hx⟩
theorem Q2.step {w : World} {base : Nat} {LV GV GV' gv : Value} {vs gs : List Value} {f : Nat → List (List Value)} {W wk w' : World} {i : Nat} {o : Obj} (hE : E ≠ LS) (h : Q2 E LS sz mk w base LV vs f W i gs GV) (hbase : base ≤ w.heap.size) (hL : ∀ b, LV.ownBlock = some b → b < w.heap.size) (hi : i < vs.length)
    (hx : ExtR E sz W base (vs.getD i Ow.nil) (fug mk f i) (mk i) 64 gv wk) (hp : AppPost LS (wk.alloc o) base GV gs gv GV' w') : Q2 E LS sz mk w base LV vs f w' (i + 1) (gs ++ [gv]) GV' := by
  obtain ⟨hl, hg⟩ := h.lists hE hi hx
  have hr : ∀ {v : Value} {xs : List (List Value)}, JR E sz wk base v xs → JR E sz w' base v xs := fun hv => jr_after hE hg hp hv
  have hsz : (wk.alloc o).heap.size = wk.heap.size + 1 := by simp
  have h1 := h.in2.kept.1
  have h2 := hx.size
  have h3 := hp.grown.size
  have hal : Below wk.heap.size wk (wk.alloc o) := (Below.refl _ _).alloc (Nat.le_refl _) o
  have hkb : ∀ b, b < w.heap.size → w'.heap[b]? = wk.heap[b]? := by
    intro b hb
    rw [hp.grown.block b (by omega) (fun e => by have := h.fresh b e.symm; omega)]
    exact hal.block b (by omega)
  refine ⟨h.in2.step hbase hi hx hr ?_ (fun b hb => ⟨by omega, hkb b hb⟩) (by omega), hl.same fun b hb => hkb b (hL b hb), hp.row, ?_⟩
  · exact ((hal.mono (by omega)).grown hp.grown (by omega) fun q hq => hg.blk_ge q hq)
  · intro b hb
    rcases hp.way with ⟨g, cap, e1, e2⟩ | ⟨⟨g, e1, e2⟩, _⟩
    · refine h.fresh b ?_
      rw [e1]
      rw [e2] at hb
      exact hb
    · rw [e1] at hb
      injection hb with hb
      omega
theorem Q2.row {w : World} {base gl cl : Nat} {vs gs : List Value} {f : Nat → List (List Value)} {wr : World} {m : Nat} {GV : Value} (h : Q2 E LS sz mk w base (.slice (some ⟨gl, 0, none⟩) vs.length cl) vs f wr m gs GV) {i : Nat} (hi : i < vs.length) : ∃ a3 c3, vs.getD i Ow.nil = .slice a3 (f i).length c3 ∧ (f i).length ≤ c3 ∧ wr.cell? ⟨gl, i, none⟩ = some (.slice a3 (f i).length c3) := by
  have hcl := (h.list.at.2.2.2.2.2 i _ (getD_at hi)).1
  obtain ⟨a3, c3, hv3, hle3⟩ := (h.in2.rows.row i hi).shape
  rw [fug_len] at hv3 hle3
  rw [hv3] at hcl
  exact ⟨a3, c3, hv3, hle3, hcl⟩
/-- what is read when all are looked at: of the i-th list, and of the longer one -/
theorem Q2.cells {w : World} {base gl cl : Nat} {vs gs : List Value} {f : Nat → List (List Value)} {wr : World} {GV : Value} (h : Q2 E LS sz mk w base (.slice (some ⟨gl, 0, none⟩) vs.length cl) vs f wr vs.length gs GV) {i : Nat} (hi : i < vs.length) :
    ∃ g2 c2 a3 c3 g4 c4, GV = .slice (some ⟨g2, 0, none⟩) vs.length c2 ∧ vs.length ≤ c2 ∧ c2 ≤ maxLen ∧ wr.cell? ⟨gl, i, none⟩ = some (.slice a3 (f i).length c3) ∧ (f i).length ≤ c3 ∧ wr.cell? ⟨g2, i, none⟩ = some (.slice (some ⟨g4, 0, none⟩) ((f i).length + 64) c4) ∧ (f i).length + 64 ≤ c4 ∧
      (∀ k, k < (f i).length + 64 → ∀ j u, (mk i)[j]? = some u → wr.cell? ⟨g4, k * sz + j, none⟩ = some u) ∧ ∀ k, k < (f i).length → ∃ g3, a3 = some ⟨g3, 0, none⟩ ∧ ∀ j u, (mk i)[j]? = some u → wr.cell? ⟨g3, k * sz + j, none⟩ = some u := by
  obtain ⟨a3, c3, hv3, hle3, hcl⟩ := h.row hi
  have hgl : gs.length = vs.length := h.in2.len
  have hgr := h.in2.grow i hi
  obtain ⟨g4, c4, e4, h4, _⟩ := hgr.nn (by intro e; have := long_len mk f i; rw [e] at this; simp at this)
  rw [long_len] at e4 h4
  rw [e4] at hgr
  have hlong := h.long
  obtain ⟨_, _, ⟨e1, e2⟩ | ⟨g2, cap, cur, e1, _⟩⟩ := h.long
  · omega
  · rw [hgl] at e1
    rw [e1] at hlong
    obtain ⟨_, hc, hm, _, _, hcg⟩ := hlong.at
    have hcl2 := (hcg i _ (getD_at (by omega))).1
    rw [e4] at hcl2
    have hrow := h.in2.rows.row i hi
    refine ⟨g2, cap, a3, c3, g4, c4, e1, hc, hm, hcl, hle3, hcl2, h4, fun k hk j u hu => hgr.at k _ j u (long_at mk f i k hk) hu, fun k hk => ?_⟩
    obtain ⟨g3, c', e, _⟩ := hrow.nn (by intro e; have := fug_len mk f i; rw [e] at this; simp at this; omega)
    rw [hv3] at e
    injection e with e _ _
    subst e
    rw [hv3] at hrow
    exact ⟨g3, rfl, fun j u hu => hrow.at k _ j u (fug_at mk f i k hk) hu⟩
theorem Q2.keep {w : World} {base : Nat} {LV GV : Value} {vs gs : List Value} {f : Nat → List (List Value)} {wr w' : World} {i : Nat} (h : Q2 E LS sz mk w base LV vs f wr i gs GV) (hbase : base ≤ w.heap.size) (hb : Below wr.heap.size wr w') : Q2 E LS sz mk w base LV vs f w' i gs GV :=
  ⟨⟨h.in2.rows.keep hb, h.in2.len, fun t ht => (h.in2.grow t ht).keepAll hb, h.in2.apart, h.in2.below.trans (hb.mono (Nat.le_trans hbase h.in2.kept.1)), h.in2.kept.trans ⟨hb.size, fun b hlt _ => hb.block b hlt⟩⟩, h.list.below hb, h.long.below hb, h.fresh⟩
end
end Os
end Go.Proofs.Ytnjhbidialngmaa
