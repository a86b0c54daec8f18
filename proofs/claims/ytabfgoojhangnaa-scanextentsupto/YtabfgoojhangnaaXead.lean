/-
  THE WALK OF the law's owns: lists that came out are written full, each of a mark of its own, then made longer one by one.
  'KeepS S': all blocks of the set S lie as they lay (and the streams, the tape): what a round over an iterator keeps, where boxes that it writes lie among others.
-/
import Derived.Test.YtabfgoojhangnaaXeac
import Derived.RangeFuncNested
import Derived.RangeFuncBound
import Derived.RangeFuncCalls
import Derived.RangeFuncLeaves
import Derived.Shelf.Abstract
import Derived.Shelf.RegionOpen
import Derived.OwnWalkIn
import Derived.TacticsInMore
import Derived.LoopNIn
import Derived.LoopIn
namespace Go.Proofs.Ytabfgoojhangnaa
open Go.RowKit
namespace Ow
open Vt
abbrev E8 : TypeId := 5
abbrev ES : TypeId := 22
theorem info_sl : (Try.prog.info? 22).map (fun i => (i.zero, i.size, i.bytes)) = some (some (.slice none 0 0), 1, 24) := by kernel_rfl
theorem JV.ne {E1 E2 : TypeId} {w : World} {b1 b2 : Nat} {v1 v2 : Value} {x1 x2 : List Value} (h1 : JV E1 w b1 v1 x1) (h2 : JV E2 w b2 v2 x2) (hE : E1 ≠ E2) {g : Nat} (hg : v1.ownBlock = some g) : v2.ownBlock ≠ some g := by
  intro hg2
  obtain ⟨_, _, ⟨rfl, _⟩ | ⟨g1, c1, cur1, rfl, _, hh1, _⟩⟩ := h1
  · cases hg
  · obtain ⟨_, _, ⟨rfl, _⟩ | ⟨g2, c2, cur2, rfl, _, hh2, _⟩⟩ := h2
    · cases hg2
    · have e1 : g1 = g := by simpa [Value.ownBlock] using hg
      have e2 : g2 = g := by simpa [Value.ownBlock] using hg2
      rw [e1] at hh1
      rw [e2, hh1] at hh2
      injection hh2 with hh2
      injection hh2 with _ h3 _
      exact hE h3
theorem JV.ne_blk {E1 T : TypeId} {w : World} {b1 X : Nat} {v1 : Value} {x1 cs : List Value} (h1 : JV E1 w b1 v1 x1) (h2 : Blk w X T cs) (hE : E1 ≠ T) {g : Nat} (hg : v1.ownBlock = some g) : g ≠ X := by
  intro e
  obtain ⟨_, _, ⟨rfl, _⟩ | ⟨g1, c1, cur1, rfl, _, hh1, _⟩⟩ := h1
  · cases hg
  · have e1 : g1 = g := by simpa [Value.ownBlock] using hg
    rw [e1, e] at hh1
    have h2' : w.heap[X]? = some (.cells cs.toArray T (0, 0)) := h2
    rw [hh1] at h2'
    injection h2' with h2'
    injection h2' with _ h3 _
    exact hE h3
def nil : Value := .slice none 0 0
/-- the rows: each its owner's, no two the same -/
structure RS (w : World) (base : Nat) (vs : List Value) (f : Nat → List Value) : Prop where
  row : ∀ i, i < vs.length → JV E8 w base (vs.getD i nil) (f i)
  apart : ∀ i j g, i < vs.length → j < vs.length → i ≠ j → (vs.getD i nil).ownBlock = some g → (vs.getD j nil).ownBlock ≠ some g
/-- what is none of the rows is as it was -/
def Kept (w w' : World) (vs : List Value) : Prop := w.heap.size ≤ w'.heap.size ∧ ∀ b, b < w.heap.size → (∀ i, i < vs.length → (vs.getD i nil).ownBlock ≠ some b) → w'.heap[b]? = w.heap[b]?
theorem Kept.refl (w : World) (vs : List Value) : Kept w w vs := ⟨Nat.le_refl _, fun _ _ _ => rfl⟩
theorem Kept.trans {a b c : World} {vs : List Value} (h : Kept a b vs) (k : Kept b c vs) : Kept a c vs := ⟨Nat.le_trans h.1 k.1, fun x hx hn => (k.2 x (Nat.lt_of_lt_of_le hx h.1) hn).trans (h.2 x hx hn)⟩
theorem set_heap (w : World) (g j b : Nat) (u : Value) (h : b ≠ g) : (w.setCell ⟨g, j, none⟩ u).heap[b]? = w.heap[b]? := by
  show (w.heap.modify g _)[b]? = _
  rw [Array.getElem?_modify, if_neg (fun e => h e.symm)]
theorem set_size (w : World) (g j : Nat) (u : Value) : (w.setCell ⟨g, j, none⟩ u).heap.size = w.heap.size := by simp [World.setCell]
/-- one byte of a row is written -/
theorem RS.put {w : World} {base : Nat} {vs : List Value} {f : Nat → List Value} (h : RS w base vs f) {i g n cap j : Nat} (hi : i < vs.length) (hv : vs.getD i nil = .slice (some ⟨g, 0, none⟩) n cap) {u : Value} (hu : u.oneCell' = true) :
    RS (w.setCell ⟨g, j, none⟩ u) base vs (fun t => if t = i then (f i).set j u else f t) ∧ Kept w (w.setCell ⟨g, j, none⟩ u) vs ∧ base ≤ g := by
  have hr := h.row i hi
  rw [hv] at hr
  obtain ⟨hn, _, _, _, hb, _⟩ := hr.at
  refine ⟨⟨fun t ht => ?_, h.apart⟩, ⟨by rw [set_size]; exact Nat.le_refl _, fun b _ hb => set_heap w g j b u fun e => ?_⟩, hb⟩
  · by_cases hti : t = i
    · subst hti
      simp only [if_true]
      rw [hv]
      exact hr.set hn hu
    · simp only [if_neg hti]
      refine (h.row t ht).same fun b hb => set_heap w g j b u fun e => ?_
      refine h.apart t i b ht hi hti hb ?_
      rw [hv, e]; rfl
  · refine hb i hi ?_
    rw [hv, e]; rfl
def mk8 (i : Nat) : Value := .int .u8 ((201 + i : Nat) : Int)
theorem rep_set (k : Nat) (u : Value) (xs : List Value) (h : k < xs.length) : (List.replicate k u ++ xs.drop k).set k u = List.replicate (k + 1) u ++ xs.drop (k + 1) := by
  rw [List.set_append_right _ _ (by simp), List.length_replicate, Nat.sub_self]
  rw [List.drop_eq_getElem_cons h, List.set_cons_zero, List.replicate_succ', List.append_assoc]
  rfl
/-- the rows while they are written full: those ahead of i are, of i the first k bytes -/
def wr_ (f : Nat → List Value) (i k : Nat) : Nat → List Value := fun t => if t < i then List.replicate (f t).length (mk8 t) else if t = i then List.replicate k (mk8 i) ++ (f i).drop k else f t
theorem RS.eq {w : World} {base : Nat} {vs : List Value} {f f' : Nat → List Value} (h : RS w base vs f) (e : ∀ t, t < vs.length → f t = f' t) : RS w base vs f' := ⟨fun i hi => by rw [← e i hi]; exact h.row i hi, h.apart⟩
theorem wr_next (f : Nat → List Value) (i k : Nat) (h : k < (f i).length) (t : Nat) : (if t = i then (wr_ f i k i).set k (mk8 i) else wr_ f i k t) = wr_ f i (k + 1) t := by
  unfold wr_
  by_cases hti : t = i
  · subst hti
    simp only [if_true, Nat.lt_irrefl, if_false]
    exact rep_set k (mk8 t) (f t) h
  · simp only [if_neg hti]
theorem wr_done (f : Nat → List Value) (i k : Nat) (h : k = (f i).length) (t : Nat) : wr_ f i k t = wr_ f (i + 1) 0 t := by
  subst h
  unfold wr_
  rcases Nat.lt_trichotomy t i with q | q | q
  · rw [if_pos q, if_pos (by omega)]
  · subst q
    rw [if_neg (by omega), if_pos rfl, if_pos (by omega), List.drop_length, List.append_nil]
  · rw [if_neg (by omega), if_neg (by omega), if_neg (by omega)]
    by_cases h1 : t = i + 1
    · rw [if_pos h1, h1]; simp
    · rw [if_neg h1]
theorem wr_zero (f : Nat → List Value) (t : Nat) : f t = wr_ f 0 0 t := by
  unfold wr_
  rw [if_neg (by omega)]
  by_cases h : t = 0
  · rw [if_pos h, h]; simp
  · rw [if_neg h]
theorem wr_len (f : Nat → List Value) (i k t : Nat) (h : k ≤ (f i).length) : (wr_ f i k t).length = (f t).length := by
  unfold wr_
  split
  · simp
  · split
    · rename_i e; subst e; simp; omega
    · rfl
theorem getD_at {vs : List Value} {i : Nat} (h : i < vs.length) : vs[i]? = some (vs.getD i nil) := by
  rw [List.getD_eq_getElem?_getD, List.getElem?_eq_getElem h]; rfl
/-- all that is known while the rows are written full -/
structure In1 (w : World) (base gl cl : Nat) (vs : List Value) (f : Nat → List Value) (T : TypeId) (wr : World) (i k : Nat) : Prop where
  rows : RS wr base vs (wr_ f i k)
  list : JV ES wr base (.slice (some ⟨gl, 0, none⟩) vs.length cl) vs
  box : Blk wr w.heap.size T [.slice (some ⟨gl, 0, none⟩) vs.length cl, nil]
  below : Below base w wr
  kept : Kept w wr vs
theorem In1.put {w : World} {base gl cl : Nat} {vs : List Value} {f : Nat → List Value} {T : TypeId} {wr : World} {i k : Nat} (h : In1 w base gl cl vs f T wr i k) (hT : E8 ≠ T) (hi : i < vs.length) (hk : k < (f i).length) {g n c : Nat} (hv : vs.getD i nil = .slice (some ⟨g, 0, none⟩) n c) : In1 w base gl cl vs f T (wr.setCell ⟨g, k, none⟩ (mk8 i)) i (k + 1) := by
  obtain ⟨h1, h2, h3⟩ := h.rows.put (j := k) hi hv (u := mk8 i) rfl
  have hrow := h.rows.row i hi
  rw [hv] at hrow
  have hgl : g ≠ gl := fun e => hrow.ne h.list (by decide) (g := g) rfl (by rw [e]; rfl)
  have hX : g ≠ w.heap.size := hrow.ne_blk h.box hT rfl
  refine ⟨h1.eq fun t _ => wr_next f i k hk t, h.list.same fun b hb => set_heap wr g k b _ ?_, ?_, h.below.setCell h3 _, h.kept.trans h2⟩
  · have : gl = b := by simpa [Value.ownBlock] using hb
    rw [← this]; exact fun e => hgl e.symm
  · show (wr.setCell ⟨g, k, none⟩ (mk8 i)).heap[w.heap.size]? = _
    rw [set_heap wr g k w.heap.size _ (fun e => hX e.symm)]
    exact h.box
/-- a row written full -/
def fu (f : Nat → List Value) (t : Nat) : List Value := List.replicate (f t).length (mk8 t)
/-- all that is known while the rows are made longer -/
structure In2 (w : World) (base gl cl : Nat) (vs : List Value) (f : Nat → List Value) (T : TypeId) (wr : World) (i : Nat) (V2 : Value) (gs : List Value) : Prop where
  rows : RS wr base vs (fu f)
  list : JV ES wr base (.slice (some ⟨gl, 0, none⟩) vs.length cl) vs
  box : Blk wr w.heap.size T [.slice (some ⟨gl, 0, none⟩) vs.length cl, V2]
  long : JV ES wr base V2 gs
  len : gs.length = i
  grow : ∀ t, t < i → JV E8 wr base (gs.getD t nil) (fu f t ++ List.replicate 64 (mk8 t))
  apart : ∀ t s b, t < i → i ≤ s → s < vs.length → (gs.getD t nil).ownBlock = some b → (vs.getD s nil).ownBlock ≠ some b
  fresh : ∀ b, V2.ownBlock = some b → w.heap.size ≤ b
  below : Below base w wr
  kept : Kept w wr vs
theorem getD_snoc {gs : List Value} {v : Value} {i t : Nat} (hl : gs.length = i) : (gs ++ [v]).getD t nil = if t = i then v else gs.getD t nil := by
  rw [List.getD_eq_getElem?_getD, List.getD_eq_getElem?_getD]
  rcases Nat.lt_trichotomy t i with q | q | q
  · rw [if_neg (by omega), List.getElem?_append_left (by omega)]
  · subst q; rw [if_pos rfl, List.getElem?_append_right (by omega), hl, Nat.sub_self]; rfl
  · rw [if_neg (by omega), List.getElem?_append_right (by omega), List.getElem?_eq_none (by simp; omega), List.getElem?_eq_none (by omega)]
theorem In2.step {w : World} {base gl cl : Nat} {vs : List Value} {f : Nat → List Value} {T : TypeId} {W wk w' : World} {i : Nat} {V2 V3 gv : Value} {gs : List Value} {o : Obj} (h : In2 w base gl cl vs f T W i V2 gs) (hT : E8 ≠ T) (hT2 : ES ≠ T) (hgl : gl < w.heap.size) (hbase : base ≤ w.heap.size) (hi : i < vs.length)
    (hx : Ext E8 W base (vs.getD i nil) (fu f i) (mk8 i) 64 gv wk) (hp : AppPost ES (wk.alloc o) base V2 gs gv V3 w') : In2 w base gl cl vs f T (w'.setCell ⟨w.heap.size, 1, none⟩ V3) (i + 1) V3 (gs ++ [gv]) := by
  have hri := h.rows.row i hi
  -- all but v_i's own block is in wk as it was in W
  have k1 : ∀ {E : TypeId} {v : Value} {xs : List Value}, JV E W base v xs → (∀ b, v.ownBlock = some b → (vs.getD i nil).ownBlock ≠ some b) → JV E wk base v xs := fun {E v xs} hv hne => hv.same fun b hb => hx.block b (hv.blk_lt b hb) fun e => hne b hb e.symm
  have hbox : Blk wk w.heap.size T [.slice (some ⟨gl, 0, none⟩) vs.length cl, V2] := (hx.block w.heap.size h.box.lt fun e => hri.ne_blk h.box hT e.symm rfl).trans h.box
  have hlong : JV ES wk base V2 gs := k1 h.long fun b hb => h.long.ne hri (by decide) hb
  have hlist : JV ES wk base (.slice (some ⟨gl, 0, none⟩) vs.length cl) vs := k1 h.list fun b hb => h.list.ne hri (by decide) hb
  have hrows : ∀ t, t < vs.length → JV E8 wk base (vs.getD t nil) (fu f t) := by
    intro t ht
    by_cases e : t = i
    · subst e; exact hx.old
    · exact k1 (h.rows.row t ht) fun b hb => h.rows.apart t i b ht hi e hb
  have hgrow : ∀ t, t < i + 1 → JV E8 wk base ((gs ++ [gv]).getD t nil) (fu f t ++ List.replicate 64 (mk8 t)) := by
    intro t ht
    rw [getD_snoc h.len]
    by_cases e : t = i
    · subst e; rw [if_pos rfl]; exact hx.row
    · rw [if_neg e]
      exact k1 (h.grow t (by omega)) fun b hb => h.apart t i b (by omega) (Nat.le_refl _) hi hb
  -- and in w'' as in wk, but for the long list and the box
  have hal : ∀ b, b < wk.heap.size → (wk.alloc o).heap[b]? = wk.heap[b]? := fun b hb => ((Below.refl wk.heap.size wk).alloc (Nat.le_refl _) o).block b hb
  have hsz : (wk.alloc o).heap.size = wk.heap.size + 1 := by simp
  have k2 : ∀ {E : TypeId} {v : Value} {xs : List Value}, E ≠ T → JV E wk base v xs → (∀ b, v.ownBlock = some b → V2.ownBlock ≠ some b) → JV E (w'.setCell ⟨w.heap.size, 1, none⟩ V3) base v xs := by
    intro E v xs hE hv hne
    refine hv.same fun b hb => ?_
    have hlt := hv.blk_lt b hb
    rw [set_heap w' w.heap.size 1 b _ (hv.ne_blk hbox hE hb), hp.grown.block b (by rw [hsz]; omega) (fun e => hne b hb e.symm), hal b hlt]
  have hbox' : Blk w' w.heap.size T [.slice (some ⟨gl, 0, none⟩) vs.length cl, V2] := by
    refine (hp.grown.block w.heap.size (by rw [hsz]; have := hbox.lt; omega) (fun e => hlong.ne_blk hbox hT2 e.symm rfl)).trans ?_
    exact (hal w.heap.size hbox.lt).trans hbox
  have hglV : ∀ b, (Value.slice (some ⟨gl, 0, none⟩) vs.length cl).ownBlock = some b → V2.ownBlock ≠ some b := by
    intro b hb e
    have h1 : gl = b := by simpa [Value.ownBlock] using hb
    have := h.fresh b e
    omega
  refine ⟨⟨fun t ht => k2 hT (hrows t ht) fun b hb => (hrows t ht).ne hlong (by decide) hb, h.rows.apart⟩, k2 hT2 hlist hglV, ?_, ?_, by simp [h.len], fun t ht => k2 hT (hgrow t ht) fun b hb => (hgrow t ht).ne hlong (by decide) hb, ?_, ?_, ?_, ?_⟩
  · have := hbox'.set (j := 1) V3
    exact this
  · refine hp.row.same fun b hb => set_heap w' w.heap.size 1 b _ ?_
    exact hp.row.ne_blk hbox' hT2 hb
  · intro t s b ht hs hsl hb
    rw [getD_snoc h.len] at hb
    by_cases e : t = i
    · subst e
      rw [if_pos rfl] at hb
      rcases hx.way with ⟨g, cap, e1, e2⟩ | ⟨e1, _⟩ | ⟨g, e1, e2⟩
      · refine h.rows.apart t s b hi hsl (by omega) ?_
        rw [e2] at hb
        rw [e1]; exact hb
      · omega
      · intro q
        rw [e1] at hb
        injection hb with hb
        have := (h.rows.row s hsl).blk_lt b q
        omega
    · rw [if_neg e] at hb
      exact h.apart t s b (by omega) (by omega) hsl hb
  · intro b hb
    rcases hp.way with ⟨g, cap, e1, e2⟩ | ⟨⟨g, e1, e2⟩, _⟩
    · refine h.fresh b ?_
      rw [e1]
      rw [e2] at hb
      exact hb
    · rw [e1] at hb
      injection hb with hb
      have h1 := h.kept.1
      have h2 := hx.size
      rw [hsz] at e2
      omega
  · have h1 := h.kept.1
    have h2 := hx.size
    have hb1 : Below base W wk := ⟨hx.os, hx.tape, hx.output, hx.size, fun b hb => hx.block b (by omega) (fun e => by have := hri.blk_ge b e.symm; omega)⟩
    have hb2 : Below base W (wk.alloc o) := hb1.alloc (by omega) o
    have hb3 : Below base W w' := hb2.grown hp.grown (by rw [hsz]; omega) fun q hq => hlong.blk_ge q hq
    exact h.below.trans (hb3.setCell hbase _)
  · have h1 := h.kept.1
    have h2 := hx.size
    have h3 := hp.grown.size
    refine ⟨by rw [set_size]; omega, fun b hb hn => ?_⟩
    rw [set_heap w' w.heap.size 1 b _ (by omega), hp.grown.block b (by rw [hsz]; omega) (fun e => by have := h.fresh b e.symm; omega), hal b (by omega), hx.block b (by omega) (fun e => hn i hi e.symm), h.kept.2 b hb hn]
theorem In2.at {w : World} {base gl cl : Nat} {vs : List Value} {f : Nat → List Value} {T : TypeId} {W wk : World} {i k : Nat} {V2 gv : Value} {gs : List Value} (h : In2 w base gl cl vs f T W i V2 gs) (hT : E8 ≠ T) (hi : i < vs.length) (hx : Ext E8 W base (vs.getD i nil) (fu f i) (mk8 i) k gv wk) : Blk wk w.heap.size T [.slice (some ⟨gl, 0, none⟩) vs.length cl, V2] ∧ JV ES wk base V2 gs := by
  have hri := h.rows.row i hi
  refine ⟨(hx.block w.heap.size h.box.lt fun e => hri.ne_blk h.box hT e.symm rfl).trans h.box, h.long.same fun b hb => hx.block b (h.long.blk_lt b hb) fun e => h.long.ne hri (by decide) hb e.symm⟩
theorem box_after {base X : Nat} {T : TypeId} {wk w' : World} {V2 V3 gv : Value} {gs cs : List Value} {o : Obj} (hbox : Blk wk X T cs) (hlong : JV ES wk base V2 gs) (hT2 : ES ≠ T) (hp : AppPost ES (wk.alloc o) base V2 gs gv V3 w') : Blk w' X T cs := by
  have hsz : (wk.alloc o).heap.size = wk.heap.size + 1 := by simp
  refine (hp.grown.block X (by rw [hsz]; have := hbox.lt; omega) (fun e => hlong.ne_blk hbox hT2 e.symm rfl)).trans ?_
  exact (((Below.refl wk.heap.size wk).alloc (Nat.le_refl _) o).block X hbox.lt).trans hbox
/-- what still looks at -/
structure Sti (w : World) (X : Nat) (T : TypeId) (n : Nat → Nat) (m : Nat) : Prop where
  mine : ∃ gl cl ol g2 c2 o2, m ≤ cl ∧ cl ≤ maxLen ∧ m ≤ c2 ∧ c2 ≤ maxLen ∧ w.cell? ⟨X, 0, none⟩ = some (.slice (some ⟨gl, ol, none⟩) m cl) ∧ w.cell? ⟨X, 1, none⟩ = some (.slice (some ⟨g2, o2, none⟩) m c2) ∧
    ∀ i, i < m → ∃ a b c d, w.cell? ⟨gl, ol + i, none⟩ = some (.slice a (n i) b) ∧ w.cell? ⟨g2, o2 + i, none⟩ = some (.slice (some ⟨c, 0, none⟩) (n i + 64) d) ∧ n i ≤ b ∧ b ≤ maxLen ∧ n i + 64 ≤ d ∧ d ≤ maxLen ∧
      (∀ k, k < n i → ∃ g, a = some ⟨g, 0, none⟩ ∧ w.cell? ⟨g, k, none⟩ = some (mk8 i)) ∧ ∀ k, k < n i + 64 → w.cell? ⟨c, k, none⟩ = some (mk8 i)
theorem rep_at {n k : Nat} {u : Value} (h : k < n) : (List.replicate n u)[k]? = some u := by simp [h]
/-- what still looks at, with what tells the blocks apart -/
structure In3 (X base gl cl : Nat) (vs : List Value) (f : Nat → List Value) (T : TypeId) (wr : World) (V2 : Value) (gs : List Value) : Prop where
  rows : ∀ i, i < vs.length → JV E8 wr base (vs.getD i nil) (fu f i)
  list : JV ES wr base (.slice (some ⟨gl, 0, none⟩) vs.length cl) vs
  box : Blk wr X T [.slice (some ⟨gl, 0, none⟩) vs.length cl, V2]
  long : JV ES wr base V2 gs
  len : gs.length = vs.length
  grow : ∀ t, t < vs.length → JV E8 wr base (gs.getD t nil) (fu f t ++ List.replicate 64 (mk8 t))
theorem In2.three {w : World} {base gl cl : Nat} {vs : List Value} {f : Nat → List Value} {T : TypeId} {wr : World} {V2 : Value} {gs : List Value} (h : In2 w base gl cl vs f T wr vs.length V2 gs) : In3 w.heap.size base gl cl vs f T wr V2 gs := ⟨h.rows.row, h.list, h.box, h.long, h.len, h.grow⟩
theorem In3.keep {X base gl cl : Nat} {vs : List Value} {f : Nat → List Value} {T : TypeId} {wr w' : World} {V2 : Value} {gs : List Value} (h : In3 X base gl cl vs f T wr V2 gs) (hb : Below wr.heap.size wr w') : In3 X base gl cl vs f T w' V2 gs :=
  ⟨fun i hi => (h.rows i hi).below hb, h.list.below hb, h.box.keep hb, h.long.below hb, h.len, fun t ht => (h.grow t ht).below hb⟩
/-- a store into a row of another type -/
theorem In3.put {X base gl cl : Nat} {vs : List Value} {f : Nat → List Value} {T E : TypeId} {wr : World} {V2 : Value} {gs xs : List Value} {b g n c j : Nat} {u : Value} (h : In3 X base gl cl vs f T wr V2 gs) (hn : JV E wr b (.slice (some ⟨g, 0, none⟩) n c) xs) (h1 : E ≠ E8) (h2 : E ≠ ES) (h3 : E ≠ T) : In3 X base gl cl vs f T (wr.setCell ⟨g, j, none⟩ u) V2 gs := by
  have k : ∀ {E' : TypeId} {v : Value} {ys : List Value}, E ≠ E' → JV E' wr base v ys → JV E' (wr.setCell ⟨g, j, none⟩ u) base v ys := by
    intro E' v ys hE hv
    refine hv.same fun b' hb' => set_heap wr g j b' u fun e => ?_
    exact hn.ne hv hE (g := g) rfl (by rw [← e]; exact hb')
  refine ⟨fun i hi => k h1 (h.rows i hi), k h2 h.list, ?_, k h2 h.long, h.len, fun t ht => k h1 (h.grow t ht)⟩
  show (wr.setCell ⟨g, j, none⟩ u).heap[X]? = _
  rw [set_heap wr g j X u (fun e => hn.ne_blk h.box h3 rfl e.symm)]
  exact h.box
theorem In3.sti {X base gl cl : Nat} {vs : List Value} {f : Nat → List Value} {T : TypeId} {wr : World} {V2 : Value} {gs : List Value} (h : In3 X base gl cl vs f T wr V2 gs) (hm : 0 < vs.length) : Sti wr X T (fun i => (f i).length) vs.length := by
  obtain ⟨a2, c2, hv2, _⟩ := h.long.shape
  have hgl := h.len
  rw [hgl] at hv2
  have hlong := h.long
  rw [hv2] at hlong
  cases a2 with
  | none =>
    obtain ⟨_, _, ⟨e1, e2⟩ | ⟨g, cap, cur, e1, _⟩⟩ := hlong
    · rw [hgl] at e2; omega
    · cases e1
  | some ad =>
    obtain ⟨g2, hg⟩ : ∃ g, ad = ⟨g, 0, none⟩ := by
      obtain ⟨_, _, ⟨e1, e2⟩ | ⟨g, cap, cur, e1, _⟩⟩ := hlong
      · cases e1
      · injection e1 with e1; injection e1 with e1; exact ⟨g, e1⟩
    subst hg
    obtain ⟨_, hl1, hl2, _, _, hcl⟩ := h.list.at
    obtain ⟨_, hg1, hg2, _, _, hcg⟩ := hlong.at
    refine ⟨gl, cl, 0, g2, c2, 0, hl1, hl2, hg1, hg2, h.box.cell 0 _ rfl, by rw [← hv2]; exact h.box.cell 1 _ rfl, fun i hi => ?_⟩
    have hr := h.rows i hi
    have hg := h.grow i hi
    obtain ⟨a, b, e1, e2⟩ := hr.shape
    have hfl : (fu f i).length = (f i).length := by unfold fu; simp
    rw [hfl] at e1 e2
    obtain ⟨c, d, e3, e4⟩ := hg.shape
    have hgl2 : (fu f i ++ List.replicate 64 (mk8 i)).length = (f i).length + 64 := by unfold fu; simp
    rw [hgl2] at e3 e4
    have c1 := (hcl i _ (getD_at hi)).1
    have c2 := (hcg i _ (getD_at (by rw [hgl]; exact hi))).1
    rw [e1] at c1 hr
    rw [e3] at c2 hg
    have hrep : fu f i ++ List.replicate 64 (mk8 i) = List.replicate ((f i).length + 64) (mk8 i) := by unfold fu; rw [List.replicate_append_replicate]
    obtain ⟨g3, rfl⟩ : ∃ g3, c = some ⟨g3, 0, none⟩ := by
      obtain ⟨_, _, ⟨e1, e2⟩ | ⟨g, cap, cur, e1, _⟩⟩ := hg
      · rw [hgl2] at e2; omega
      · injection e1 with e1; exact ⟨g, e1⟩
    obtain ⟨_, _, hd2, _, _, hcd⟩ := hg.at
    refine ⟨a, b, g3, d, by rw [Nat.zero_add]; exact c1, by rw [Nat.zero_add]; exact c2, e2, ?_, e4, hd2, fun k hk => ?_, fun k hk => ?_⟩
    · obtain ⟨_, _, ⟨e1, e2⟩ | ⟨g, cap, cur, e1, _, _, _, hmx, _⟩⟩ := hr
      · injection e1 with _ _ e5; rw [e5]; exact Nat.zero_le _
      · injection e1 with _ _ e5; rw [e5]; exact hmx
    · obtain ⟨g, rfl⟩ : ∃ g, a = some ⟨g, 0, none⟩ := by
        obtain ⟨_, _, ⟨e1, e2⟩ | ⟨g, cap, cur, e1, _⟩⟩ := hr
        · rw [hfl] at e2; omega
        · injection e1 with e1; exact ⟨g, e1⟩
      exact ⟨g, rfl, (hr.at.2.2.2.2.2 k _ (rep_at hk)).1⟩
    · refine (hcd k _ ?_).1
      rw [hrep]; exact rep_at hk
theorem In2.sti {w : World} {base gl cl : Nat} {vs : List Value} {f : Nat → List Value} {T : TypeId} {wr : World} {V2 : Value} {gs : List Value} (h : In2 w base gl cl vs f T wr vs.length V2 gs) (hm : 0 < vs.length) : Sti wr w.heap.size T (fun i => (f i).length) vs.length := h.three.sti hm
theorem Sti.below {w w' : World} {X : Nat} {T : TypeId} {n : Nat → Nat} {m : Nat} (h : Sti w X T n m) (hb : Below w.heap.size w w') : Sti w' X T n m := by
  have k : ∀ {p : Addr} {v : Value}, w.cell? p = some v → w'.cell? p = some v := fun {p v} hp => by rw [hb.cell (lt_of_cell hp)]; exact hp
  obtain ⟨gl, cl, ol, g2, c2, o2, a1, a2, a3, a4, a5, a6, a7⟩ := h
  refine ⟨gl, cl, ol, g2, c2, o2, a1, a2, a3, a4, k a5, k a6, fun i hi => ?_⟩
  obtain ⟨a, b, c, d, b1, b2, b3, b4, b5, b6, b7, b8⟩ := a7 i hi
  refine ⟨a, b, c, d, k b1, k b2, b3, b4, b5, b6, fun t ht => ?_, fun t ht => k (b8 t ht)⟩
  obtain ⟨g, e, hg⟩ := b7 t ht
  exact ⟨g, e, k hg⟩
end Ow
end Go.Proofs.Ytabfgoojhangnaa
namespace Go.Proofs.Ytabfgoojhangnaa
open Go.RowKit Go.Shelf
namespace Vt
structure KeepS (S : Nat → Prop) (w w' : World) : Prop where
  os : w'.os = w.os
  tape : w'.tape = w.tape
  output : w'.output = w.output
  size : w.heap.size ≤ w'.heap.size
  block : ∀ k, S k → w'.heap[k]? = w.heap[k]?
section
variable {S : Nat → Prop}
theorem KeepS.refl (w : World) : KeepS S w w := ⟨rfl, rfl, rfl, Nat.le_refl _, fun _ _ => rfl⟩
theorem KeepS.trans {a b c : World} (h : KeepS S a b) (k : KeepS S b c) : KeepS S a c :=
  ⟨k.os.trans h.os, k.tape.trans h.tape, k.output.trans h.output, Nat.le_trans h.size k.size, fun i hi => (k.block i hi).trans (h.block i hi)⟩
theorem KeepS.of_below {n : Nat} {a b : World} (h : Below n a b) (hS : ∀ k, S k → k < n) : KeepS S a b := ⟨h.os, h.tape, h.output, h.size, fun i hi => h.block i (hS i hi)⟩
theorem KeepS.below {n : Nat} {a b : World} (h : KeepS S a b) (hS : ∀ k, k < n → S k) : Below n a b := ⟨h.os, h.tape, h.output, h.size, fun i hi => h.block i (hS i hi)⟩
theorem KeepS.cell {a b : World} (h : KeepS S a b) {p : Addr} (hp : S p.block) : b.cell? p = a.cell? p := World.cell?_of_block (w := a) (h.block p.block hp)
theorem KeepS.setCell {a b : World} (h : KeepS S a b) {p : Addr} (hp : ¬ S p.block) (u : Value) : KeepS S a (b.setCell p u) :=
  h.trans ⟨rfl, rfl, rfl, by simp [World.setCell], fun k hk => Below.heap_setCell _ _ _ _ (fun e => hp (by first | rw [← e]; exact hk | rw [e]; exact hk))⟩
theorem KeepS.grown {a b c : World} {row : Option Nat} (h : KeepS S a b) (hg : b.grownBy c row) (hS : ∀ k, S k → k < b.heap.size) (hr : ∀ k, row = some k → ¬ S k) : KeepS S a c :=
  h.trans ⟨hg.os, hg.tape, hg.output, hg.size, fun k hk => hg.block k (hS k hk) (fun e => hr k e.symm hk)⟩
theorem KeepS.alloc {a b : World} (h : KeepS S a b) (hS : ∀ k, S k → k < b.heap.size) (o : Obj) : KeepS S a (b.alloc o) :=
  h.trans ⟨rfl, rfl, rfl, by simp, fun k hk => Below.heap_alloc _ _ _ (hS k hk)⟩
theorem KeepS.drewN {a b : World} (h : KeepS S a b) (n : Nat) : KeepS S a (b.drewN n) := h.trans ⟨rfl, rfl, rfl, Nat.le_refl _, fun _ _ => rfl⟩
theorem KeepS.drew {a b : World} (h : KeepS S a b) : KeepS S a b.drew := h.trans ⟨rfl, rfl, rfl, Nat.le_refl _, fun _ _ => rfl⟩
theorem keepS_t {A B C : World} (h : KeepS S A B) (k : KeepS S B C) : KeepS S A C := h.trans k
theorem keepS_b {w : World} (hS : ∀ k, S k → k < w.heap.size) (W : World) (l : Nat) (o o' : Obj) (hl : w.heap.size ≤ l) (h : W.heap[l]? = some o) (_ : o.isCells = false) (_ : o.isWalk = false) : KeepS S W (W.putObj l o') := by
  have hg := grownBy_putObj' W l o'
  refine ⟨hg.os, hg.tape, hg.output, hg.size, fun k hk => hg.block k ?_ ?_⟩
  · have := (Array.getElem?_eq_some_iff.1 h).1
    have := hS k hk
    omega
  · intro e
    injection e with e
    have := hS k hk
    omega
theorem ownFrom_keepS {β : Type} {B : Nat} {w₀ : World} (hS : ∀ k, S k → k < w₀.heap.size) (hB : ∀ k, S k → k < B) : OwnFrom B (fun (_ : β) W => KeepS S w₀ W) :=
  fun _ _ _ _ hs hg hr => hs.grown hg (fun k hk => Nat.lt_of_lt_of_le (hS k hk) hs.size) (fun k e hk => by have := (hr k e).1; have := hB k hk; omega)
theorem boxed_keepS {W W' : World} {B : Nat} {t : TypeId} {v : Value} (h : Boxed W B t v) (hB : S B) (hb : KeepS S W W') : Boxed W' B t v := (hb.block B hB).trans h
theorem Blk.keepS {W W' : World} {O : Nat} {T : TypeId} {cs : List Value} (h : Blk W O T cs) (hO : S O) (hb : KeepS S W W') : Blk W' O T cs := (hb.block O hO).trans h
theorem IsK.keepS {k : IntKind} {M : Nat} {w w' : World} {v : Value} {l : List Nat} (h : IsK k M w v l) (hS : ∀ b off n c, v = .slice (some ⟨b, off, none⟩) n c → S b) (hb : KeepS S w w') : IsK k M w' v l := by
  obtain ⟨h1, h2, ⟨rfl, a, c, rfl⟩ | ⟨b, off, c, rfl, h3, h4, h5, h6⟩⟩ := h
  · exact ⟨h1, h2, .inl ⟨rfl, a, c, rfl⟩⟩
  · refine ⟨h1, h2, .inr ⟨b, off, c, rfl, h3, h4, Nat.lt_of_lt_of_le h5 hb.size, fun j hj => ?_⟩⟩
    rw [hb.cell (p := ⟨b, off + j, none⟩) (hS _ _ _ _ rfl)]; exact h6 j hj
theorem Buf.keepS {w w' : World} {g cap : Nat} {l : List Nat} (h : Buf w g cap l) (hg : S g) (hb : KeepS S w w') : Buf w' g cap l := by
  obtain ⟨h1, h2, h3, h4, h5, h6⟩ := h
  refine ⟨h1, h2, Nat.lt_of_lt_of_le h3 hb.size, h4, fun k hk => ?_, fun k hk => ?_⟩
  · rw [hb.cell (p := ⟨g, 0 + k, none⟩) hg]; exact h5 k hk
  · rw [World.frozen?_of_block (a := ⟨g, k, none⟩) (hb.block g hg)]; exact h6 k hk
theorem JK.keepS {k : IntKind} {M : Nat} {E : TypeId} {w w' : World} {base : Nat} {v : Value} {l : List Nat} (h : JK k M E w base v l) (hS : ∀ g, v.ownBlock = some g → S g) (hb : KeepS S w w') : JK k M E w' base v l := by
  obtain ⟨h1, h0, ⟨rfl, e⟩ | ⟨g', cap', cur, rfl, hbs, hh, hr⟩⟩ := h
  · exact ⟨h1, h0, .inl ⟨rfl, e⟩⟩
  · refine ⟨h1, h0, .inr ⟨g', cap', cur, rfl, hbs, ?_, hr⟩⟩
    rw [hb.block g' (hS g' rfl)]; exact hh
end
theorem prefix_snoc {α : Type} {pre xs : List α} {x : α} (h : pre <+: xs) : (pre ++ [x] <+: xs ↔ xs[pre.length]? = some x) := by
  obtain ⟨t, rfl⟩ := h
  rw [List.prefix_append_right_inj, List.getElem?_append_right (Nat.le_refl _), Nat.sub_self]
  cases t with
  | nil => simp
  | cons y t => simp [List.cons_prefix_cons, eq_comm]
theorem boxed_below {W W' : World} {B n : Nat} {t : TypeId} {v : Value} (h : Boxed W B t v) (hB : B < n) (hb : Below n W W') : Boxed W' B t v := (hb.block B hB).trans h
end Vt
end Go.Proofs.Ytabfgoojhangnaa
