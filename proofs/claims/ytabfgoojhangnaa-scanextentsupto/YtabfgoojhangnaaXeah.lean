/-
  A BOX OF TWO LISTS OF LISTS: rows of structs that came out, each its owner's, and the longer ones: what is known while the first are written full ('B1'), while the longer ones are made ('B2'), and when they are looked at ('B3').
  PLAIN MATHEMATICS OF ESCAPED BYTES: 'wr' (the escaped bytes of plain ones), 'fs' (the plain byte at the front), 'told' (what is told, with places), 'bad' (the first that cannot stand). No program.
-/
import Derived.Test.YtabfgoojhangnaaXeag
import Derived.Test.YtabfgoojhangnaaXeaa
namespace Go.Proofs.Ytabfgoojhangnaa
open Go.RowKit
namespace Os
open Vt Ow
/-- what is none of the rows, nor the box X, is as it was -/
def KeptX (X : Nat) (w w' : World) (vs : List Value) : Prop := w.heap.size ≤ w'.heap.size ∧ ∀ b, b < w.heap.size → b ≠ X → (∀ i, i < vs.length → (vs.getD i Ow.nil).ownBlock ≠ some b) → w'.heap[b]? = w.heap[b]?
theorem KeptX.refl (X : Nat) (w : World) (vs : List Value) : KeptX X w w vs := ⟨Nat.le_refl _, fun _ _ _ _ => rfl⟩
theorem KeptX.trans {X : Nat} {a b c : World} {vs : List Value} (h : KeptX X a b vs) (k : KeptX X b c vs) : KeptX X a c vs := ⟨Nat.le_trans h.1 k.1, fun x hx hX hn => (k.2 x (Nat.lt_of_lt_of_le hx h.1) hX hn).trans (h.2 x hx hX hn)⟩
theorem Kept.toX {X : Nat} {w w' : World} {vs : List Value} (h : Kept w w' vs) : KeptX X w w' vs := ⟨h.1, fun b hb _ hn => h.2 b hb hn⟩
theorem jr_ne_blk {E T : TypeId} {sz : Nat} {w : World} {b1 X : Nat} {v1 : Value} {x1 : List (List Value)} {cs : List Value} (h1 : JR E sz w b1 v1 x1) (h2 : Blk w X T cs) (hE : E ≠ T) {g : Nat} (hg : v1.ownBlock = some g) : g ≠ X := fun e => JR.not_blk h1 h2 (fun q => hE q.symm) (by rw [hg, e])
section
variable {E LS BT : TypeId} {sz : Nat} {mk : Nat → List Value}
/-- while the rows are written full -/
structure B1 (E LS BT : TypeId) (sz : Nat) (mk : Nat → List Value) (w : World) (base X : Nat) (LV : Value) (vs : List Value) (f : Nat → List (List Value)) (wr : World) (i k : Nat) : Prop where
  rows : RSR E sz wr base vs (wrg mk f i k)
  list : JV LS wr base LV vs
  box : Blk wr X BT [LV, .slice none 0 0]
  below : Below base w wr
  kept : KeptX X w wr vs
theorem B1.start {w : World} {base X : Nat} {LV : Value} {vs : List Value} {f : Nat → List (List Value)} (h : RSR E sz w base vs f) (hl : JV LS w base LV vs) (hb : Blk w X BT [LV, .slice none 0 0]) : B1 E LS BT sz mk w base X LV vs f w 0 0 := ⟨h.eq fun t _ => wrg_zero mk f t, hl, hb, Below.refl _ _, KeptX.refl _ _ _⟩
theorem B1.put {w : World} {base X : Nat} {LV : Value} {vs : List Value} {f : Nat → List (List Value)} {wr : World} {i k : Nat} (hE : E ≠ LS) (hT : E ≠ BT) (h : B1 E LS BT sz mk w base X LV vs f wr i k) (hi : i < vs.length) (hk : k < (f i).length) {g n c : Nat} (hv : vs.getD i Ow.nil = .slice (some ⟨g, 0, none⟩) n c) (hr : (mk i).length = sz) (h1 : ∀ u ∈ mk i, u.oneCell' = true) : B1 E LS BT sz mk w base X LV vs f (wr.setCells g (k * sz) (mk i)) i (k + 1) := by
  obtain ⟨h2, h3, h4⟩ := h.rows.put (k := k) hi (by rw [wrg_len mk f i k i (by omega)]; exact hk) hv hr h1
  have hrow := h.rows.row i hi
  rw [hv] at hrow
  refine ⟨h2.eq fun t _ => wrg_next mk f i k hk t, h.rows.jv hE h.list hi hv _, ?_, setCells_below h4 _ _ _ _ h.below, h.kept.trans (Kept.toX h3)⟩
  show (wr.setCells g (k * sz) (mk i)).heap[X]? = _
  rw [setCells_heap g X (fun e => jr_ne_blk hrow h.box hT (g := g) rfl e.symm) (mk i) wr _]
  exact h.box
theorem B1.next {w : World} {base X : Nat} {LV : Value} {vs : List Value} {f : Nat → List (List Value)} {wr : World} {i k : Nat} (h : B1 E LS BT sz mk w base X LV vs f wr i k) (hk : k = (f i).length) : B1 E LS BT sz mk w base X LV vs f wr (i + 1) 0 := ⟨h.rows.eq fun t _ => wrg_done mk f i k hk t, h.list, h.box, h.below, h.kept⟩
theorem B1.drewN {w : World} {base X : Nat} {LV : Value} {vs : List Value} {f : Nat → List (List Value)} {wr : World} {i k : Nat} (h : B1 E LS BT sz mk w base X LV vs f wr i k) (n : Nat) : B1 E LS BT sz mk w base X LV vs f (wr.drewN n) i k :=
  ⟨⟨fun t ht => (h.rows.row t ht).drewN n, h.rows.apart⟩, h.list, h.box, below_drewN h.below n, h.kept⟩
theorem B1.drew {w : World} {base X : Nat} {LV : Value} {vs : List Value} {f : Nat → List (List Value)} {wr : World} {i k : Nat} (h : B1 E LS BT sz mk w base X LV vs f wr i k) : B1 E LS BT sz mk w base X LV vs f wr.drew i k :=
  ⟨⟨fun t ht => (h.rows.row t ht).drew, h.rows.apart⟩, h.list, h.box, h.below.drew, h.kept⟩
/-- what stands at a place of the list of lists -/
theorem B1.cells {w : World} {base X gl cl : Nat} {vs : List Value} {f : Nat → List (List Value)} {wr : World} {i k : Nat} (h : B1 E LS BT sz mk w base X (.slice (some ⟨gl, 0, none⟩) vs.length cl) vs f wr i k) (hi : i < vs.length) (hk : k ≤ (f i).length) : ∃ a3 c3, vs.getD i Ow.nil = .slice a3 (f i).length c3 ∧ (f i).length ≤ c3 ∧ wr.cell? ⟨gl, i, none⟩ = some (.slice a3 (f i).length c3) ∧ (k < (f i).length → ∃ g3, a3 = some ⟨g3, 0, none⟩) := by
  have hcl := (h.list.at.2.2.2.2.2 i _ (getD_at hi)).1
  have hrow := h.rows.row i hi
  obtain ⟨a3, c3, hv3, hle3⟩ := hrow.shape
  rw [wrg_len mk f i k i hk] at hv3 hle3
  rw [hv3] at hcl
  refine ⟨a3, c3, hv3, hle3, hcl, fun hlt => ?_⟩
  obtain ⟨g3, c', e, _⟩ := hrow.nn (by intro e; have := wrg_len mk f i k i hk; rw [e] at this; simp at this; omega)
  rw [hv3] at e
  injection e with e
  exact ⟨g3, e⟩
/-- a place of a list that is to be written -/
theorem B1.there {w : World} {base X : Nat} {LV : Value} {vs : List Value} {f : Nat → List (List Value)} {wr : World} {i k : Nat} (h : B1 E LS BT sz mk w base X LV vs f wr i k) (hi : i < vs.length) (hk : k < (f i).length) {g n c : Nat} (hv : vs.getD i Ow.nil = .slice (some ⟨g, 0, none⟩) n c) : ∀ j, j < sz → (∃ u, wr.cell? ⟨g, k * sz + j, none⟩ = some u) ∧ wr.frozen? ⟨g, k * sz + j, none⟩ = false := by
  have hrow := h.rows.row i hi
  rw [hv] at hrow
  have ht := jr_thereR hrow (k := k) (by rw [wrg_len mk f i k i (by omega)]; exact hk)
  exact fun j hj => ⟨Option.isSome_iff_exists.1 (ht j hj).1, (ht j hj).2⟩
/-- while the rows are made longer -/
structure B2 (E LS BT : TypeId) (sz : Nat) (mk : Nat → List Value) (w : World) (base X : Nat) (LV : Value) (vs : List Value) (f : Nat → List (List Value)) (wr : World) (i : Nat) (gs : List Value) (GV : Value) : Prop where
  rows : RSR E sz wr base vs (fug mk f)
  len : gs.length = i
  grow : ∀ t, t < i → JR E sz wr base (gs.getD t Ow.nil) (fug mk f t ++ List.replicate 64 (mk t))
  apart : ∀ t s b, t < i → i ≤ s → s < vs.length → (gs.getD t Ow.nil).ownBlock = some b → (vs.getD s Ow.nil).ownBlock ≠ some b
  list : JV LS wr base LV vs
  long : JV LS wr base GV gs
  box : Blk wr X BT [LV, GV]
  fresh : ∀ b, GV.ownBlock = some b → w.heap.size ≤ b
  below : Below base w wr
  kept : KeptX X w wr vs
theorem B1.two {w : World} {base X : Nat} {LV : Value} {vs : List Value} {f : Nat → List (List Value)} {wr : World} (h : B1 E LS BT sz mk w base X LV vs f wr vs.length 0) : B2 E LS BT sz mk w base X LV vs f wr 0 [] (.slice none 0 0) :=
  ⟨h.rows.eq fun t ht => wrg_full mk f vs.length t ht, rfl, fun t ht => by omega, fun t s b ht => by omega, h.list, ⟨by simp, rfl, .inl ⟨rfl, rfl⟩⟩, h.box, (fun b hb => by cases hb), h.below, h.kept⟩
theorem B2.lists {w : World} {base X : Nat} {LV GV gv : Value} {vs gs : List Value} {f : Nat → List (List Value)} {W wk : World} {i k : Nat} (hE : E ≠ LS) (hT : E ≠ BT) (h : B2 E LS BT sz mk w base X LV vs f W i gs GV) (hi : i < vs.length) (hx : ExtR E sz W base (vs.getD i Ow.nil) (fug mk f i) (mk i) k gv wk) : JV LS wk base LV vs ∧ JV LS wk base GV gs ∧ Blk wk X BT [LV, GV] :=
  ⟨h.rows.jvx hE h.list hi hx, h.rows.jvx hE h.long hi hx, (hx.block X h.box.lt fun e => jr_ne_blk (h.rows.row i hi) h.box hT e.symm rfl).trans h.box⟩
/-- the box stands while the list of the longer ones is made longer -/
theorem boxX_after {base X : Nat} {wk w' : World} {V2 V3 gv : Value} {gs cs : List Value} {o : Obj} (hbox : Blk wk X BT cs) (hlong : JV LS wk base V2 gs) (hT2 : LS ≠ BT) (hp : AppPost LS (wk.alloc o) base V2 gs gv V3 w') : Blk w' X BT cs := by
  have hsz : (wk.alloc o).heap.size = wk.heap.size + 1 := by simp
  refine (hp.grown.block X (by rw [hsz]; have := hbox.lt; omega) (fun e => hlong.ne_blk hbox hT2 e.symm rfl)).trans ?_
  exact (((Below.refl wk.heap.size wk).alloc (Nat.le_refl _) o).block X hbox.lt).trans hbox
theorem B2.step {w : World} {base X : Nat} {LV GV GV' gv : Value} {vs gs : List Value} {f : Nat → List (List Value)} {W wk w' : World} {i : Nat} {o : Obj} (hE : E ≠ LS) (hT : E ≠ BT) (hT2 : LS ≠ BT) (h : B2 E LS BT sz mk w base X LV vs f W i gs GV) (hX : base ≤ X) (hXs : X < w.heap.size) (hL : ∀ b, LV.ownBlock = some b → b < w.heap.size) (hi : i < vs.length)
    (hx : ExtR E sz W base (vs.getD i Ow.nil) (fug mk f i) (mk i) 64 gv wk) (hp : AppPost LS (wk.alloc o) base GV gs gv GV' w') : B2 E LS BT sz mk w base X LV vs f (w'.setCell ⟨X, 1, none⟩ GV') (i + 1) (gs ++ [gv]) GV' := by
  have hri := h.rows.row i hi
  obtain ⟨hlist, hlong, hbox⟩ := h.lists hE hT hi hx
  have k1 : ∀ {v : Value} {xs : List (List Value)}, JR E sz W base v xs → (∀ b, v.ownBlock = some b → (vs.getD i Ow.nil).ownBlock ≠ some b) → JR E sz wk base v xs := fun {v xs} hv hne => jr_same hv fun b hb => hx.block b (hv.blk_lt b hb) fun e => hne b hb e.symm
  have hrows : ∀ t, t < vs.length → JR E sz wk base (vs.getD t Ow.nil) (fug mk f t) := by
    intro t ht
    by_cases e : t = i
    · subst e; exact hx.old
    · exact k1 (h.rows.row t ht) fun b hb => h.rows.apart t i b ht hi e hb
  have hgrow : ∀ t, t < i + 1 → JR E sz wk base ((gs ++ [gv]).getD t Ow.nil) (fug mk f t ++ List.replicate 64 (mk t)) := by
    intro t ht
    rw [getD_snoc h.len]
    by_cases e : t = i
    · subst e; rw [if_pos rfl]; exact hx.row
    · rw [if_neg e]
      exact k1 (h.grow t (by omega)) fun b hb => h.apart t i b (by omega) (Nat.le_refl _) hi hb
  have hsz : (wk.alloc o).heap.size = wk.heap.size + 1 := by simp
  have h1 := h.kept.1
  have h2 := hx.size
  have h3 := hp.grown.size
  have hal : ∀ b, b < wk.heap.size → (wk.alloc o).heap[b]? = wk.heap[b]? := fun b hb => ((Below.refl wk.heap.size wk).alloc (Nat.le_refl _) o).block b hb
  have hbox' : Blk w' X BT [LV, GV] := boxX_after hbox hlong hT2 hp
  have k2 : ∀ {v : Value} {xs : List (List Value)}, JR E sz wk base v xs → JR E sz (w'.setCell ⟨X, 1, none⟩ GV') base v xs := by
    intro v xs hv
    have hv' := jr_after hE hlong hp hv
    refine jr_same hv' fun b hb => ?_
    exact set_heap w' X 1 b _ (jr_ne_blk hv' hbox' hT hb)
  have hl' : JV LS w' base LV vs := hlist.same fun b hb => by
    have := hL b hb
    rw [hp.grown.block b (by omega) (fun e => by have := h.fresh b e.symm; omega)]
    exact hal b (by omega)
  refine ⟨⟨fun t ht => k2 (hrows t ht), h.rows.apart⟩, by simp [h.len], fun t ht => k2 (hgrow t ht), ?_, hl'.same fun b hb => set_heap w' X 1 b _ (hl'.ne_blk hbox' hT2 hb), hp.row.same fun b hb => set_heap w' X 1 b _ (hp.row.ne_blk hbox' hT2 hb), hbox'.set (j := 1) GV', ?_, ?_, ?_⟩
  · intro t s b ht hs hsl hb
    rw [getD_snoc h.len] at hb
    by_cases e : t = i
    · subst e
      rw [if_pos rfl] at hb
      rcases hx.way with ⟨g, cap, e1, e2⟩ | ⟨e1, _⟩ | ⟨g, e1, e2⟩
      · refine h.rows.apart t s b hi hsl (by omega) ?_
        rw [e2] at hb
        rw [e1]; exact hb
      · omega
      · intro q
        rw [e1] at hb
        injection hb with hb
        have := (h.rows.row s hsl).blk_lt b q
        omega
    · rw [if_neg e] at hb
      exact h.apart t s b (by omega) (by omega) hsl hb
  · intro b hb
    rcases hp.way with ⟨g, cap, e1, e2⟩ | ⟨⟨g, e1, e2⟩, _⟩
    · refine h.fresh b ?_
      rw [e1]
      rw [e2] at hb
      exact hb
    · rw [e1] at hb
      injection hb with hb
      omega
  · have hb1 : Below base W wk := ⟨hx.os, hx.tape, hx.output, hx.size, fun b hb => hx.block b (by omega) (fun e => by have := hri.blk_ge b e.symm; omega)⟩
    have hb2 : Below base W (wk.alloc o) := hb1.alloc (by omega) o
    have hb3 : Below base W w' := hb2.grown hp.grown (by rw [hsz]; omega) fun q hq => hlong.blk_ge q hq
    exact h.below.trans (hb3.setCell hX _)
  · refine ⟨by rw [set_size]; omega, fun b hb hbX hn => ?_⟩
    rw [set_heap w' X 1 b _ hbX, hp.grown.block b (by rw [hsz]; omega) (fun e => by have := h.fresh b e.symm; omega), hal b (by omega), hx.block b (by omega) (fun e => hn i hi e.symm), h.kept.2 b hb hbX hn]
theorem B2.row {w : World} {base X gl cl : Nat} {vs gs : List Value} {f : Nat → List (List Value)} {wr : World} {m : Nat} {GV : Value} (h : B2 E LS BT sz mk w base X (.slice (some ⟨gl, 0, none⟩) vs.length cl) vs f wr m gs GV) {i : Nat} (hi : i < vs.length) : ∃ a3 c3, vs.getD i Ow.nil = .slice a3 (f i).length c3 ∧ (f i).length ≤ c3 ∧ wr.cell? ⟨gl, i, none⟩ = some (.slice a3 (f i).length c3) := by
  have hcl := (h.list.at.2.2.2.2.2 i _ (getD_at hi)).1
  obtain ⟨a3, c3, hv3, hle3⟩ := (h.rows.row i hi).shape
  rw [fug_len] at hv3 hle3
  rw [hv3] at hcl
  exact ⟨a3, c3, hv3, hle3, hcl⟩
/-- what is looked at -/
structure B3 (E LS BT : TypeId) (sz : Nat) (mk : Nat → List Value) (base X : Nat) (LV : Value) (vs : List Value) (f : Nat → List (List Value)) (wr : World) (gs : List Value) (GV : Value) : Prop where
  rows : ∀ i, i < vs.length → JR E sz wr base (vs.getD i Ow.nil) (fug mk f i)
  len : gs.length = vs.length
  grow : ∀ t, t < vs.length → JR E sz wr base (gs.getD t Ow.nil) (fug mk f t ++ List.replicate 64 (mk t))
  list : JV LS wr base LV vs
  long : JV LS wr base GV gs
  box : Blk wr X BT [LV, GV]
theorem B2.three {w : World} {base X : Nat} {LV GV : Value} {vs gs : List Value} {f : Nat → List (List Value)} {wr : World} (h : B2 E LS BT sz mk w base X LV vs f wr vs.length gs GV) : B3 E LS BT sz mk base X LV vs f wr gs GV := ⟨h.rows.row, h.len, h.grow, h.list, h.long, h.box⟩
theorem B3.keep {base X : Nat} {LV GV : Value} {vs gs : List Value} {f : Nat → List (List Value)} {wr w' : World} (h : B3 E LS BT sz mk base X LV vs f wr gs GV) (hb : Below wr.heap.size wr w') : B3 E LS BT sz mk base X LV vs f w' gs GV :=
  ⟨fun i hi => (h.rows i hi).keepAll hb, h.len, fun t ht => (h.grow t ht).keepAll hb, h.list.below hb, h.long.below hb, h.box.keep hb⟩
theorem B3.drewN {base X : Nat} {LV GV : Value} {vs gs : List Value} {f : Nat → List (List Value)} {wr : World} (h : B3 E LS BT sz mk base X LV vs f wr gs GV) (n : Nat) : B3 E LS BT sz mk base X LV vs f (wr.drewN n) gs GV := ⟨h.rows, h.len, h.grow, h.list, h.long, h.box⟩
/-- rows of another type were written full and made longer -/
theorem B3.other {E2 : TypeId} {sz2 : Nat} {base b2 X : Nat} {LV GV : Value} {vs gs us : List Value} {f : Nat → List (List Value)} {f2 : Nat → List (List Value)} {wr w' : World} (h : B3 E LS BT sz mk base X LV vs f wr gs GV) (hu : RSR E2 sz2 wr b2 us f2) (hk : Kept wr w' us) (h1 : E2 ≠ E) (h2 : E2 ≠ LS) (h3 : E2 ≠ BT) : B3 E LS BT sz mk base X LV vs f w' gs GV := by
  have hJR : ∀ {v : Value} {xs : List (List Value)}, JR E sz wr base v xs → JR E sz w' base v xs := by
    intro v xs hv
    refine jr_same hv fun b hb => hk.2 b (hv.blk_lt b hb) fun i hi e => ?_
    have hr := hu.row i hi
    obtain ⟨_, _, ⟨rfl, _⟩ | ⟨g1, c1, cur1, rfl, _, hh1, _⟩⟩ := hv
    · cases hb
    · obtain ⟨_, _, ⟨e2, _⟩ | ⟨g2, c2, cur2, e2, _, hh2, _⟩⟩ := hr
      · rw [e2] at e; cases e
      · rw [e2] at e
        have q1 : g1 = b := by simpa [Value.ownBlock] using hb
        have q2 : g2 = b := by simpa [Value.ownBlock] using e
        rw [q1] at hh1
        rw [q2, hh1] at hh2
        injection hh2 with hh2
        injection hh2 with _ q3 _
        exact h1 q3.symm
  have hJV : ∀ {v : Value} {xs : List Value}, JV LS wr base v xs → JV LS w' base v xs := fun {v xs} hv => hv.same fun b hb => hk.2 b (hv.blk_lt b hb) fun i hi e => jr_ne_jv (hu.row i hi) hv h2 e hb
  refine ⟨fun i hi => hJR (h.rows i hi), h.len, fun t ht => hJR (h.grow t ht), hJV h.list, hJV h.long, ?_⟩
  exact (hk.2 X h.box.lt fun i hi e => jr_ne_blk (hu.row i hi) h.box h3 e rfl).trans h.box
/-- what is read when all are looked at: of the i-th list, and of the longer one -/
theorem B3.cells {base X gl cl : Nat} {vs gs : List Value} {f : Nat → List (List Value)} {wr : World} {GV : Value} (h : B3 E LS BT sz mk base X (.slice (some ⟨gl, 0, none⟩) vs.length cl) vs f wr gs GV) {i : Nat} (hi : i < vs.length) :
    ∃ g2 c2 a3 c3 g4 c4, GV = .slice (some ⟨g2, 0, none⟩) vs.length c2 ∧ vs.length ≤ c2 ∧ c2 ≤ maxLen ∧ wr.cell? ⟨gl, i, none⟩ = some (.slice a3 (f i).length c3) ∧ (f i).length ≤ c3 ∧ wr.cell? ⟨g2, i, none⟩ = some (.slice (some ⟨g4, 0, none⟩) ((f i).length + 64) c4) ∧ (f i).length + 64 ≤ c4 ∧
      (∀ k, k < (f i).length + 64 → ∀ j u, (mk i)[j]? = some u → wr.cell? ⟨g4, k * sz + j, none⟩ = some u) ∧ ∀ k, k < (f i).length → ∃ g3, a3 = some ⟨g3, 0, none⟩ ∧ ∀ j u, (mk i)[j]? = some u → wr.cell? ⟨g3, k * sz + j, none⟩ = some u := by
  have hcl := (h.list.at.2.2.2.2.2 i _ (getD_at hi)).1
  have hrow := h.rows i hi
  obtain ⟨a3, c3, hv3, hle3⟩ := hrow.shape
  rw [fug_len] at hv3 hle3
  rw [hv3] at hcl
  have hgl : gs.length = vs.length := h.len
  have hgr := h.grow i hi
  obtain ⟨g4, c4, e4, h4, _⟩ := hgr.nn (by intro e; have := long_len mk f i; rw [e] at this; simp at this)
  rw [long_len] at e4 h4
  rw [e4] at hgr
  have hlong := h.long
  obtain ⟨_, _, ⟨e1, e2⟩ | ⟨g2, cap, cur, e1, _⟩⟩ := h.long
  · omega
  · rw [hgl] at e1
    rw [e1] at hlong
    obtain ⟨_, hc, hm, _, _, hcg⟩ := hlong.at
    have hcl2 := (hcg i _ (getD_at (by omega))).1
    rw [e4] at hcl2
    refine ⟨g2, cap, a3, c3, g4, c4, e1, hc, hm, hcl, hle3, hcl2, h4, fun k hk j u hu => hgr.at k _ j u (long_at mk f i k hk) hu, fun k hk => ?_⟩
    obtain ⟨g3, c', e, _⟩ := hrow.nn (by intro e; have := fug_len mk f i; rw [e] at this; simp at this; omega)
    rw [hv3] at e
    injection e with e _ _
    subst e
    rw [hv3] at hrow
    exact ⟨g3, rfl, fun j u hu => hrow.at k _ j u (fug_at mk f i k hk) hu⟩
end
end Os
end Go.Proofs.Ytabfgoojhangnaa
namespace Go.Proofs.Ytabfgoojhangnaa
namespace Vt
def e1 (c : Nat) : List Nat := if c = 167 then [166, 1] else if c = 166 then [166, 0] else [c]
def wr : List Nat → List Nat
  | [] => []
  | c :: r => e1 c ++ wr r
theorem e1_lead : e1 167 = [166, 1] := rfl
theorem e1_esc : e1 166 = [166, 0] := rfl
theorem e1_any {c : Nat} (h : c ≠ 167) (h2 : c ≠ 166) : e1 c = [c] := by unfold e1; rw [if_neg h, if_neg h2]
theorem wr_append (a b : List Nat) : wr (a ++ b) = wr a ++ wr b := by
  induction a with
  | nil => rfl
  | cons c r ih => rw [List.cons_append, wr, wr, ih, List.append_assoc]
theorem wr_one (c : Nat) : wr [c] = e1 c := by simp [wr]
theorem wr_succ {l : List Nat} {k : Nat} (h : k < l.length) : wr (l.take (k + 1)) = wr (l.take k) ++ e1 (l.getD k 0) := by
  rw [take_succ_getD h, wr_append, wr_one]
theorem e1_len (c : Nat) : 1 ≤ (e1 c).length ∧ (e1 c).length ≤ 2 := by
  unfold e1
  split
  · simp
  · split <;> simp
theorem wr_len (l : List Nat) : l.length ≤ (wr l).length ∧ (wr l).length ≤ 2 * l.length := by
  induction l with
  | nil => simp [wr]
  | cons c r ih =>
    have := e1_len c
    rw [wr, List.length_append, List.length_cons]; omega
theorem e1_byt {c : Nat} (h : c < 256) : Byt (e1 c) := by
  unfold e1
  split
  · intro x hx; simp at hx; omega
  · split
    · intro x hx; simp at hx; omega
    · intro x hx; simp at hx; omega
theorem wr_byt {l : List Nat} (h : Byt l) : Byt (wr l) := by
  induction l with
  | nil => exact byt_nil
  | cons c r ih => rw [wr]; exact byt_app (e1_byt (h c List.mem_cons_self)) (ih fun x hx => h x (List.mem_cons_of_mem _ hx))
theorem e1_no (c : Nat) : ∀ x ∈ e1 c, x ≠ 167 := by
  unfold e1
  split
  · intro x hx; simp at hx; omega
  · split
    · intro x hx; simp at hx; omega
    · intro x hx; simp at hx; omega
theorem wr_no (l : List Nat) : ∀ x ∈ wr l, x ≠ 167 := by
  induction l with
  | nil => intro x hx; simp [wr] at hx
  | cons c r ih =>
    intro x hx
    rw [wr] at hx
    rcases List.mem_append.1 hx with hx | hx
    · exact e1_no c x hx
    · exact ih x hx
theorem wr_no_at {l : List Nat} {k : Nat} (h : k < (wr l).length) : (wr l).getD k 0 ≠ 167 := by
  apply wr_no l
  rw [List.getD_eq_getElem?_getD, List.getElem?_eq_getElem h]
  exact List.getElem_mem h
/-- the plain byte at the front, how many bytes it takes, what is wrong -/
def fs (l : List Nat) : Nat × Nat × Nat :=
  if l.getD 0 0 = 167 then (0, 0, 31) else if l.getD 0 0 ≠ 166 then (l.getD 0 0, 1, 0) else if l.length = 1 then (0, 0, 32)
  else if l.getD 1 0 = 0 then (166, 2, 0) else if l.getD 1 0 = 1 then (167, 2, 0) else (0, 0, 32)
/-- what is told: the places from at_ on -/
def told : Nat → Nat → List Nat → List (Nat × Nat)
  | 0, _, _ => []
  | f + 1, at_, l => if l = [] then [] else if (fs l).2.2 = 0 then (at_, (fs l).1) :: told f (at_ + (fs l).2.1) (l.drop (fs l).2.1) else []
/-- what is wrong, and where -/
def bad : Nat → Nat → List Nat → Nat × Nat
  | 0, _, _ => (0, 0)
  | f + 1, at_, l => if l = [] then (0, 0) else if (fs l).2.2 = 0 then bad f (at_ + (fs l).2.1) (l.drop (fs l).2.1) else ((fs l).2.2, at_)
theorem fs_front (c : Nat) (r : List Nat) : fs (e1 c ++ r) = (c, (e1 c).length, 0) := by
  by_cases h : c = 167
  · subst h; simp [e1, fs]
  · by_cases h2 : c = 166
    · subst h2; simp [e1, fs]
    · rw [e1_any h h2]; simp [fs, h, h2]
theorem fs_ok {l : List Nat} (hne : l ≠ []) (h : (fs l).2.2 = 0) : l = e1 (fs l).1 ++ l.drop (fs l).2.1 ∧ (fs l).2.1 = (e1 (fs l).1).length := by
  match l, hne with
  | [c], _ =>
    unfold fs at *
    by_cases h1 : c = 167
    · simp [h1] at h
    · by_cases h2 : c = 166
      · simp [h2] at h
      · simp [h1, h2, e1_any h1 h2]
  | c :: d :: r, _ =>
    unfold fs at *
    by_cases h1 : c = 167
    · simp [h1] at h
    · by_cases h2 : c = 166
      · by_cases h3 : d = 0
        · simp [h2, h3, e1]
        · by_cases h4 : d = 1
          · simp [h2, h4, e1]
          · simp [h2, h3, h4] at h
      · simp [h1, h2, e1_any h1 h2]
theorem fs_len {l : List Nat} (hne : l ≠ []) (h : (fs l).2.2 = 0) : 1 ≤ (fs l).2.1 ∧ (fs l).2.1 ≤ l.length ∧ (fs l).2.1 ≤ 2 := by
  have h1 := fs_ok hne h
  have h2 := e1_len (fs l).1
  have h3 := congrArg List.length h1.1
  rw [List.length_append] at h3
  omega
theorem fs_byt {l : List Nat} (hb : Byt l) : (fs l).1 < 256 := by
  have := getD_lt hb 0
  unfold fs
  repeat' split
  all_goals (simp only; omega)
theorem fs_err (l : List Nat) : (fs l).2.2 = 0 ∨ (fs l).2.2 = 31 ∧ l.getD 0 0 = 167 ∨ (fs l).2.2 = 32 ∧ l.getD 0 0 = 166 := by
  unfold fs
  by_cases h1 : l.getD 0 0 = 167
  · rw [if_pos h1]; exact .inr (.inl ⟨rfl, h1⟩)
  · rw [if_neg h1]
    by_cases h2 : l.getD 0 0 = 166
    · rw [if_neg (by simpa using h2)]
      repeat' split
      all_goals first | exact .inl rfl | exact .inr (.inr ⟨rfl, h2⟩)
    · rw [if_pos h2]; simp
theorem fs_bad {l : List Nat} (h : (fs l).2.2 ≠ 0) : (fs l).1 = 0 ∧ (fs l).2.1 = 0 := by
  unfold fs at *
  repeat' split at h
  all_goals first | (exact absurd rfl h) | skip
  all_goals simp_all
def toldB (at_ : Nat) (l : List Nat) : List (Nat × Nat) := told l.length at_ l
def badB (at_ : Nat) (l : List Nat) : Nat × Nat := bad l.length at_ l
theorem told_fuel (f : Nat) : ∀ (g at_ : Nat) (l : List Nat), l.length ≤ f → l.length ≤ g → told f at_ l = told g at_ l ∧ bad f at_ l = bad g at_ l := by
  induction f with
  | zero =>
    intro g at_ l h1 h2
    obtain rfl : l = [] := List.length_eq_zero_iff.1 (by omega)
    cases g with
    | zero => exact ⟨rfl, rfl⟩
    | succ g => simp [told, bad]
  | succ f ih =>
    intro g at_ l h1 h2
    cases g with
    | zero =>
      obtain rfl : l = [] := List.length_eq_zero_iff.1 (by omega)
      simp [told, bad]
    | succ g =>
      unfold told bad
      by_cases h : l = []
      · simp [h]
      · rw [if_neg h, if_neg h, if_neg h, if_neg h]
        by_cases he : (fs l).2.2 = 0
        · have := fs_len h he
          have hh := ih g (at_ + (fs l).2.1) (l.drop (fs l).2.1) (by rw [List.length_drop]; omega) (by rw [List.length_drop]; omega)
          rw [if_pos he, if_pos he, if_pos he, if_pos he, hh.1, hh.2]; exact ⟨rfl, rfl⟩
        · rw [if_neg he, if_neg he, if_neg he, if_neg he]; exact ⟨rfl, rfl⟩
theorem toldB_nil (at_ : Nat) : toldB at_ [] = [] := rfl
theorem badB_nil (at_ : Nat) : badB at_ [] = (0, 0) := rfl
theorem toldB_ok {at_ : Nat} {l : List Nat} (h : l ≠ []) (he : (fs l).2.2 = 0) : toldB at_ l = (at_, (fs l).1) :: toldB (at_ + (fs l).2.1) (l.drop (fs l).2.1) := by
  have hd := fs_len h he
  obtain ⟨m, hm⟩ : ∃ m, l.length = m + 1 := ⟨l.length - 1, by omega⟩
  unfold toldB
  rw [hm, told, if_neg h, if_pos he, (told_fuel m _ _ _ (by rw [List.length_drop]; omega) (Nat.le_refl _)).1]
theorem badB_ok {at_ : Nat} {l : List Nat} (h : l ≠ []) (he : (fs l).2.2 = 0) : badB at_ l = badB (at_ + (fs l).2.1) (l.drop (fs l).2.1) := by
  have hd := fs_len h he
  obtain ⟨m, hm⟩ : ∃ m, l.length = m + 1 := ⟨l.length - 1, by omega⟩
  unfold badB
  rw [hm, bad, if_neg h, if_pos he, (told_fuel m _ _ _ (by rw [List.length_drop]; omega) (Nat.le_refl _)).2]
theorem toldB_err {at_ : Nat} {l : List Nat} (he : (fs l).2.2 ≠ 0) : toldB at_ l = [] := by
  unfold toldB
  cases l with
  | nil => rfl
  | cons x r => rw [List.length_cons, told, if_neg (by simp), if_neg he]
theorem badB_err {at_ : Nat} {l : List Nat} (h : l ≠ []) (he : (fs l).2.2 ≠ 0) : badB at_ l = ((fs l).2.2, at_) := by
  unfold badB
  cases l with
  | nil => exact absurd rfl h
  | cons x r => rw [List.length_cons, bad, if_neg (by simp), if_neg he]
/-- plain bytes with the places of what they are written as -/
def pl : Nat → List Nat → List (Nat × Nat)
  | _, [] => []
  | p, c :: r => (p, c) :: pl (p + (e1 c).length) r
theorem e1_ne (c : Nat) (r : List Nat) : e1 c ++ r ≠ [] := by
  have := e1_len c
  intro e
  have := congrArg List.length e
  rw [List.length_append, List.length_nil] at this
  omega
theorem both_wr (p r : List Nat) : ∀ at_, toldB at_ (wr p ++ r) = pl at_ p ++ toldB (at_ + (wr p).length) r ∧ badB at_ (wr p ++ r) = badB (at_ + (wr p).length) r := by
  induction p with
  | nil => intro at_; exact ⟨rfl, rfl⟩
  | cons c q ih =>
    intro at_
    have hf := fs_front c (wr q ++ r)
    have hne := e1_ne c (wr q ++ r)
    rw [wr, List.append_assoc, toldB_ok hne (by rw [hf]), badB_ok hne (by rw [hf]), hf]
    simp only
    rw [List.drop_left' rfl, (ih _).1, (ih _).2, pl, List.length_append, Nat.add_assoc]
    exact ⟨rfl, rfl⟩
theorem toldB_wr (p : List Nat) (at_ : Nat) : toldB at_ (wr p) = pl at_ p := by
  have := (both_wr p [] at_).1
  rwa [List.append_nil, toldB_nil, List.append_nil] at this
theorem badB_wr (p : List Nat) (at_ : Nat) : badB at_ (wr p) = (0, 0) := by
  have := (both_wr p [] at_).2
  rwa [List.append_nil, badB_nil] at this
theorem pl_len (at_ : Nat) (p : List Nat) : (pl at_ p).length = p.length := by
  induction p generalizing at_ with
  | nil => rfl
  | cons c r ih => simp [pl, ih]
theorem pl_snd (at_ : Nat) (p : List Nat) : (pl at_ p).map Prod.snd = p := by
  induction p generalizing at_ with
  | nil => rfl
  | cons c r ih => simp [pl, ih]
theorem pl_at (p : Nat) (l : List Nat) (k : Nat) (hk : k < l.length) : (pl p l)[k]? = some (p + (wr (l.take k)).length, l.getD k 0) := by
  induction l generalizing p k with
  | nil => simp at hk
  | cons x r ih =>
    cases k with
    | zero => simp [pl, wr]
    | succ k =>
      rw [pl, List.getElem?_cons_succ, ih _ k (by simpa using hk), List.take_succ_cons, wr, List.length_append, List.getD_cons_succ, Nat.add_assoc]
/-- whatever bytes: escaped ones, and behind them nothing, or what cannot stand -/
theorem parts (n : Nat) : ∀ l : List Nat, l.length ≤ n → ∃ p r, l = wr p ++ r ∧ (r = [] ∨ r ≠ [] ∧ (fs r).2.2 ≠ 0) := by
  induction n with
  | zero => intro l h; exact ⟨[], [], List.length_eq_zero_iff.1 (by omega), .inl rfl⟩
  | succ n ih =>
    intro l h
    by_cases h0 : l = []
    · exact ⟨[], [], h0, .inl rfl⟩
    · by_cases he : (fs l).2.2 = 0
      · have h1 := fs_len h0 he
        have h2 := fs_ok h0 he
        obtain ⟨p, r, e, hr⟩ := ih (l.drop (fs l).2.1) (by rw [List.length_drop]; omega)
        refine ⟨(fs l).1 :: p, r, ?_, hr⟩
        rw [wr, List.append_assoc, ← e]; exact h2.1
      · exact ⟨[], l, rfl, .inr ⟨h0, he⟩⟩
theorem part (l : List Nat) : ∃ p r, l = wr p ++ r ∧ (r = [] ∨ r ≠ [] ∧ (fs r).2.2 ≠ 0) := parts _ l (Nat.le_refl _)
theorem part_byt {p r l : List Nat} (h : l = wr p ++ r) (hb : Byt l) : Byt p := by
  induction p generalizing l with
  | nil => exact byt_nil
  | cons c q ih =>
    intro x hx
    rw [wr, List.append_assoc] at h
    rcases List.mem_cons.1 hx with rfl | hx
    · have h1 := e1_len x
      by_cases h2 : x = 167
      · omega
      · by_cases h3 : x = 166
        · omega
        · rw [e1_any h2 h3] at h; exact hb x (by rw [h]; simp)
    · exact ih (l := wr q ++ r) rfl (fun y hy => hb y (by rw [h]; exact List.mem_append_right _ hy)) x hx
/-- .. what is told of such bytes -/
theorem part_fine {p : List Nat} : toldB 0 (wr p ++ []) = pl 0 p ∧ badB 0 (wr p ++ []) = (0, 0) := by
  rw [List.append_nil]; exact ⟨toldB_wr p 0, badB_wr p 0⟩
theorem part_bad {p r : List Nat} (h : r ≠ []) (he : (fs r).2.2 ≠ 0) : toldB 0 (wr p ++ r) = pl 0 p ∧ badB 0 (wr p ++ r) = ((fs r).2.2, (wr p).length) := by
  have := both_wr p r 0
  rw [toldB_err he, badB_err h he, List.append_nil, Nat.zero_add] at this
  exact this
theorem toldB_len (at_ : Nat) (l : List Nat) : (toldB at_ l).length ≤ l.length := by
  have key : ∀ f at_ l, (told f at_ l).length ≤ f := by
    intro f
    induction f with
    | zero => intro at_ l; simp [told]
    | succ f ih =>
      intro at_ l
      unfold told
      split
      · simp
      · split
        · rw [List.length_cons]; have := ih (at_ + (fs l).2.1) (l.drop (fs l).2.1); omega
        · simp
  exact key _ _ _
/-- the plain bytes of escaped ones -/
def plain (l : List Nat) : List Nat := (toldB 0 l).map Prod.snd
theorem plain_len (l : List Nat) : (plain l).length ≤ l.length := by
  unfold plain; rw [List.length_map]; exact toldB_len 0 l
theorem plain_byt {l : List Nat} (hb : Byt l) : Byt (plain l) := by
  obtain ⟨p, r, e, h⟩ := part l
  have hp := part_byt e hb
  subst e
  unfold plain
  rcases h with rfl | ⟨h1, h2⟩
  · rw [part_fine.1, pl_snd]; exact hp
  · rw [(part_bad h1 h2).1, pl_snd]; exact hp
theorem plain_wr (p : List Nat) : plain (wr p) = p := by unfold plain; rw [toldB_wr, pl_snd]
/-- what is opened comes, wrapped, to what was opened -/
theorem only {l : List Nat} (h : (badB 0 l).1 = 0) : wr (plain l) = l := by
  obtain ⟨p, r, e, hr⟩ := part l
  subst e
  rcases hr with rfl | ⟨h1, h2⟩
  · rw [List.append_nil, plain_wr]
  · rw [(part_bad h1 h2).2] at h; exact absurd h h2
theorem badB_place {l : List Nat} (h : (badB 0 l).1 ≠ 0) : (badB 0 l).2 < l.length ∧ ((badB 0 l).1 = 31 ∧ l.getD (badB 0 l).2 0 = 167 ∨ (badB 0 l).1 = 32 ∧ l.getD (badB 0 l).2 0 = 166) := by
  obtain ⟨p, r, e, hr⟩ := part l
  subst e
  rcases hr with rfl | ⟨h1, h2⟩
  · rw [part_fine.2] at h; exact absurd rfl h
  · rw [(part_bad h1 h2).2]
    simp only
    have hpos : 0 < r.length := List.length_pos_iff.2 h1
    refine ⟨by rw [List.length_append]; omega, ?_⟩
    have hg : (wr p ++ r).getD (wr p).length 0 = r.getD 0 0 := by
      rw [List.getD_eq_getElem?_getD, List.getElem?_append_right (Nat.le_refl _), Nat.sub_self, List.getD_eq_getElem?_getD]
    rw [hg]
    rcases fs_err r with h3 | h3 | h3
    · exact absurd h3 h2
    · exact .inl h3
    · exact .inr h3
theorem badB_zero {l : List Nat} (h : (badB 0 l).1 = 0) : badB 0 l = (0, 0) := by
  obtain ⟨p, r, e, hr⟩ := part l
  subst e
  rcases hr with rfl | ⟨h1, h2⟩
  · exact part_fine.2
  · rw [(part_bad h1 h2).2] at h; exact absurd h h2
end Vt
end Go.Proofs.Ytabfgoojhangnaa
