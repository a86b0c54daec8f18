/-
  THE WALK OF the law's owns: lists that came out are written full, each of a mark of its own, then made longer one by one.
  'KeepS S': all blocks of the set S lie as they lay (and the streams, the tape): what a round over an iterator keeps, where boxes that it writes lie among others.
  'append' onto a row of integers of the call's own, for the walk within a fence (functions with ranges over iterators).
  ROWS OF STRUCTS OF THE CALL'S OWN ('JR': elements of sz cells each): 'append' of one more as a law for the walk, within a fence and without; what is read at a place.
  OWN ROWS OF STRUCTS THAT THEIR OWNER MAKES LONGER: an append of one element that tells besides what becomes of the elder list ('AppPostR'); the relation of a loop of such appends ('ExtR'): Ow0's laws for elements of several cells.
-/
import Derived.Test.YtifjjoobbegpoaaMkab
import Derived.RangeFuncNested
import Derived.RangeFuncBound
import Derived.RangeFuncCalls
import Derived.RangeFuncLeaves
import Derived.Shelf.Abstract
import Derived.Shelf.RegionOpen
import Derived.OwnWalkIn
import Derived.TacticsInMore
import Derived.LoopNIn
import Derived.LoopIn
import Derived.Deep.RegionLaw
import Derived.ArgAppend
namespace Go.Proofs.Ytifjjoobbegpoaa
open Go.RowKit
namespace Ow
open Vt
abbrev E8 : TypeId := 5
abbrev ES : TypeId := 22
theorem info_sl : (Try.prog.info? 22).map (fun i => (i.zero, i.size, i.bytes)) = some (some (.slice none 0 0), 1, 24) := by kernel_rfl
theorem JV.ne {E1 E2 : TypeId} {w : World} {b1 b2 : Nat} {v1 v2 : Value} {x1 x2 : List Value} (h1 : JV E1 w b1 v1 x1) (h2 : JV E2 w b2 v2 x2) (hE : E1 ≠ E2) {g : Nat} (hg : v1.ownBlock = some g) : v2.ownBlock ≠ some g := by
  intro hg2
  obtain ⟨_, _, ⟨rfl, _⟩ | ⟨g1, c1, cur1, rfl, _, hh1, _⟩⟩ := h1
  · cases hg
  · obtain ⟨_, _, ⟨rfl, _⟩ | ⟨g2, c2, cur2, rfl, _, hh2, _⟩⟩ := h2
    · cases hg2
    · have e1 : g1 = g := by simpa [Value.ownBlock] using hg
      have e2 : g2 = g := by simpa [Value.ownBlock] using hg2
      rw [e1] at hh1
      rw [e2, hh1] at hh2
      injection hh2 with hh2
      injection hh2 with _ h3 _
      exact hE h3
theorem JV.ne_blk {E1 T : TypeId} {w : World} {b1 X : Nat} {v1 : Value} {x1 cs : List Value} (h1 : JV E1 w b1 v1 x1) (h2 : Blk w X T cs) (hE : E1 ≠ T) {g : Nat} (hg : v1.ownBlock = some g) : g ≠ X := by
  intro e
  obtain ⟨_, _, ⟨rfl, _⟩ | ⟨g1, c1, cur1, rfl, _, hh1, _⟩⟩ := h1
  · cases hg
  · have e1 : g1 = g := by simpa [Value.ownBlock] using hg
    rw [e1, e] at hh1
    have h2' : w.heap[X]? = some (.cells cs.toArray T (0, 0)) := h2
    rw [hh1] at h2'
    injection h2' with h2'
    injection h2' with _ h3 _
    exact hE h3
def nil : Value := .slice none 0 0
/-- the rows: each its owner's, no two the same -/
structure RS (w : World) (base : Nat) (vs : List Value) (f : Nat → List Value) : Prop where
  row : ∀ i, i < vs.length → JV E8 w base (vs.getD i nil) (f i)
  apart : ∀ i j g, i < vs.length → j < vs.length → i ≠ j → (vs.getD i nil).ownBlock = some g → (vs.getD j nil).ownBlock ≠ some g
/-- what is none of the rows is as it was -/
def Kept (w w' : World) (vs : List Value) : Prop := w.heap.size ≤ w'.heap.size ∧ ∀ b, b < w.heap.size → (∀ i, i < vs.length → (vs.getD i nil).ownBlock ≠ some b) → w'.heap[b]? = w.heap[b]?
theorem Kept.refl (w : World) (vs : List Value) : Kept w w vs := ⟨Nat.le_refl _, fun _ _ _ => rfl⟩
theorem Kept.trans {a b c : World} {vs : List Value} (h : Kept a b vs) (k : Kept b c vs) : Kept a c vs := ⟨Nat.le_trans h.1 k.1, fun x hx hn => (k.2 x (Nat.lt_of_lt_of_le hx h.1) hn).trans (h.2 x hx hn)⟩
theorem set_heap (w : World) (g j b : Nat) (u : Value) (h : b ≠ g) : (w.setCell ⟨g, j, none⟩ u).heap[b]? = w.heap[b]? := by
  show (w.heap.modify g _)[b]? = _
  rw [Array.getElem?_modify, if_neg (fun e => h e.symm)]
theorem set_size (w : World) (g j : Nat) (u : Value) : (w.setCell ⟨g, j, none⟩ u).heap.size = w.heap.size := by simp [World.setCell]
/-- one byte of a row is written -/
theorem RS.put {w : World} {base : Nat} {vs : List Value} {f : Nat → List Value} (h : RS w base vs f) {i g n cap j : Nat} (hi : i < vs.length) (hv : vs.getD i nil = .slice (some ⟨g, 0, none⟩) n cap) {u : Value} (hu : u.oneCell' = true) :
    RS (w.setCell ⟨g, j, none⟩ u) base vs (fun t => if t = i then (f i).set j u else f t) ∧ Kept w (w.setCell ⟨g, j, none⟩ u) vs ∧ base ≤ g := by
  have hr := h.row i hi
  rw [hv] at hr
  obtain ⟨hn, _, _, _, hb, _⟩ := hr.at
  refine ⟨⟨fun t ht => ?_, h.apart⟩, ⟨by rw [set_size]; exact Nat.le_refl _, fun b _ hb => set_heap w g j b u fun e => ?_⟩, hb⟩
  · by_cases hti : t = i
    · subst hti
      simp only [if_true]
      rw [hv]
      exact hr.set hn hu
    · simp only [if_neg hti]
      refine (h.row t ht).same fun b hb => set_heap w g j b u fun e => ?_
      refine h.apart t i b ht hi hti hb ?_
      rw [hv, e]; rfl
  · refine hb i hi ?_
    rw [hv, e]; rfl
def mk8 (i : Nat) : Value := .int .u8 ((201 + i : Nat) : Int)
theorem rep_set (k : Nat) (u : Value) (xs : List Value) (h : k < xs.length) : (List.replicate k u ++ xs.drop k).set k u = List.replicate (k + 1) u ++ xs.drop (k + 1) := by
  rw [List.set_append_right _ _ (by simp), List.length_replicate, Nat.sub_self]
  rw [List.drop_eq_getElem_cons h, List.set_cons_zero, List.replicate_succ', List.append_assoc]
  rfl
/-- the rows while they are written full: those ahead of i are, of i the first k bytes -/
def wr_ (f : Nat → List Value) (i k : Nat) : Nat → List Value := fun t => if t < i then List.replicate (f t).length (mk8 t) else if t = i then List.replicate k (mk8 i) ++ (f i).drop k else f t
theorem RS.eq {w : World} {base : Nat} {vs : List Value} {f f' : Nat → List Value} (h : RS w base vs f) (e : ∀ t, t < vs.length → f t = f' t) : RS w base vs f' := ⟨fun i hi => by rw [← e i hi]; exact h.row i hi, h.apart⟩
theorem wr_next (f : Nat → List Value) (i k : Nat) (h : k < (f i).length) (t : Nat) : (if t = i then (wr_ f i k i).set k (mk8 i) else wr_ f i k t) = wr_ f i (k + 1) t := by
  unfold wr_
  by_cases hti : t = i
  · subst hti
    simp only [if_true, Nat.lt_irrefl, if_false]
    exact rep_set k (mk8 t) (f t) h
  · simp only [if_neg hti]
theorem wr_done (f : Nat → List Value) (i k : Nat) (h : k = (f i).length) (t : Nat) : wr_ f i k t = wr_ f (i + 1) 0 t := by
  subst h
  unfold wr_
  rcases Nat.lt_trichotomy t i with q | q | q
  · rw [if_pos q, if_pos (by omega)]
  · subst q
    rw [if_neg (by omega), if_pos rfl, if_pos (by omega), List.drop_length, List.append_nil]
  · rw [if_neg (by omega), if_neg (by omega), if_neg (by omega)]
    by_cases h1 : t = i + 1
    · rw [if_pos h1, h1]; simp
    · rw [if_neg h1]
theorem wr_zero (f : Nat → List Value) (t : Nat) : f t = wr_ f 0 0 t := by
  unfold wr_
  rw [if_neg (by omega)]
  by_cases h : t = 0
  · rw [if_pos h, h]; simp
  · rw [if_neg h]
theorem wr_len (f : Nat → List Value) (i k t : Nat) (h : k ≤ (f i).length) : (wr_ f i k t).length = (f t).length := by
  unfold wr_
  split
  · simp
  · split
    · rename_i e; subst e; simp; omega
    · rfl
theorem getD_at {vs : List Value} {i : Nat} (h : i < vs.length) : vs[i]? = some (vs.getD i nil) := by
  rw [List.getD_eq_getElem?_getD, List.getElem?_eq_getElem h]; rfl
/-- all that is known while the rows are written full -/
structure In1 (w : World) (base gl cl : Nat) (vs : List Value) (f : Nat → List Value) (T : TypeId) (wr : World) (i k : Nat) : Prop where
  rows : RS wr base vs (wr_ f i k)
  list : JV ES wr base (.slice (some ⟨gl, 0, none⟩) vs.length cl) vs
  box : Blk wr w.heap.size T [.slice (some ⟨gl, 0, none⟩) vs.length cl, nil]
  below : Below base w wr
  kept : Kept w wr vs
theorem In1.put {w : World} {base gl cl : Nat} {vs : List Value} {f : Nat → List Value} {T : TypeId} {wr : World} {i k : Nat} (h : In1 w base gl cl vs f T wr i k) (hT : E8 ≠ T) (hi : i < vs.length) (hk : k < (f i).length) {g n c : Nat} (hv : vs.getD i nil = .slice (some ⟨g, 0, none⟩) n c) : In1 w base gl cl vs f T (wr.setCell ⟨g, k, none⟩ (mk8 i)) i (k + 1) := by
  obtain ⟨h1, h2, h3⟩ := h.rows.put (j := k) hi hv (u := mk8 i) rfl
  have hrow := h.rows.row i hi
  rw [hv] at hrow
  have hgl : g ≠ gl := fun e => hrow.ne h.list (by decide) (g := g) rfl (by rw [e]; rfl)
  have hX : g ≠ w.heap.size := hrow.ne_blk h.box hT rfl
  refine ⟨h1.eq fun t _ => wr_next f i k hk t, h.list.same fun b hb => set_heap wr g k b _ ?_, ?_, h.below.setCell h3 _, h.kept.trans h2⟩
  · have : gl = b := by simpa [Value.ownBlock] using hb
    rw [← this]; exact fun e => hgl e.symm
  · show (wr.setCell ⟨g, k, none⟩ (mk8 i)).heap[w.heap.size]? = _
    rw [set_heap wr g k w.heap.size _ (fun e => hX e.symm)]
    exact h.box
/-- a row written full -/
def fu (f : Nat → List Value) (t : Nat) : List Value := List.replicate (f t).length (mk8 t)
/-- all that is known while the rows are made longer -/
structure In2 (w : World) (base gl cl : Nat) (vs : List Value) (f : Nat → List Value) (T : TypeId) (wr : World) (i : Nat) (V2 : Value) (gs : List Value) : Prop where
  rows : RS wr base vs (fu f)
  list : JV ES wr base (.slice (some ⟨gl, 0, none⟩) vs.length cl) vs
  box : Blk wr w.heap.size T [.slice (some ⟨gl, 0, none⟩) vs.length cl, V2]
  long : JV ES wr base V2 gs
  len : gs.length = i
  grow : ∀ t, t < i → JV E8 wr base (gs.getD t nil) (fu f t ++ List.replicate 64 (mk8 t))
  apart : ∀ t s b, t < i → i ≤ s → s < vs.length → (gs.getD t nil).ownBlock = some b → (vs.getD s nil).ownBlock ≠ some b
  fresh : ∀ b, V2.ownBlock = some b → w.heap.size ≤ b
  below : Below base w wr
  kept : Kept w wr vs
theorem getD_snoc {gs : List Value} {v : Value} {i t : Nat} (hl : gs.length = i) : (gs ++ [v]).getD t nil = if t = i then v else gs.getD t nil := by
  rw [List.getD_eq_getElem?_getD, List.getD_eq_getElem?_getD]
  rcases Nat.lt_trichotomy t i with q | q | q
  · rw [if_neg (by omega), List.getElem?_append_left (by omega)]
  · subst q; rw [if_pos rfl, List.getElem?_append_right (by omega), hl, Nat.sub_self]; rfl
  · rw [if_neg (by omega), List.getElem?_append_right (by omega), List.getElem?_eq_none (by simp; omega), List.getElem?_eq_none (by omega)]
theorem In2.step {w : World} {base gl cl : Nat} {vs : List Value} {f : Nat → List Value} {T : TypeId} {W wk w' : World} {i : Nat} {V2 V3 gv : Value} {gs : List Value} {o : Obj} (h : In2 w base gl cl vs f T W i V2 gs) (hT : E8 ≠ T) (hT2 : ES ≠ T) (hgl : gl < w.heap.size) (hbase : base ≤ w.heap.size) (hi : i < vs.length)
    (hx : Ext E8 W base (vs.getD i nil) (fu f i) (mk8 i) 64 gv wk) (hp : AppPost ES (wk.alloc o) base V2 gs gv V3 w') : In2 w base gl cl vs f T (w'.setCell ⟨w.heap.size, 1, none⟩ V3) (i + 1) V3 (gs ++ [gv]) := by
  have hri := h.rows.row i hi
  -- all but v_i's own block is in wk as it was in W
  have k1 : ∀ {E : TypeId} {v : Value} {xs : List Value}, JV E W base v xs → (∀ b, v.ownBlock = some b → (vs.getD i nil).ownBlock ≠ some b) → JV E wk base v xs := fun {E v xs} hv hne => hv.same fun b hb => hx.block b (hv.blk_lt b hb) fun e => hne b hb e.symm
  have hbox : Blk wk w.heap.size T [.slice (some ⟨gl, 0, none⟩) vs.length cl, V2] := (hx.block w.heap.size h.box.lt fun e => hri.ne_blk h.box hT e.symm rfl).trans h.box
  have hlong : JV ES wk base V2 gs := k1 h.long fun b hb => h.long.ne hri (by decide) hb
  have hlist : JV ES wk base (.slice (some ⟨gl, 0, none⟩) vs.length cl) vs := k1 h.list fun b hb => h.list.ne hri (by decide) hb
  have hrows : ∀ t, t < vs.length → JV E8 wk base (vs.getD t nil) (fu f t) := by
    intro t ht
    by_cases e : t = i
    · subst e; exact hx.old
    · exact k1 (h.rows.row t ht) fun b hb => h.rows.apart t i b ht hi e hb
  have hgrow : ∀ t, t < i + 1 → JV E8 wk base ((gs ++ [gv]).getD t nil) (fu f t ++ List.replicate 64 (mk8 t)) := by
    intro t ht
    rw [getD_snoc h.len]
    by_cases e : t = i
    · subst e; rw [if_pos rfl]; exact hx.row
    · rw [if_neg e]
      exact k1 (h.grow t (by omega)) fun b hb => h.apart t i b (by omega) (Nat.le_refl _) hi hb
  -- and in w'' as in wk, but for the long list and the box
  have hal : ∀ b, b < wk.heap.size → (wk.alloc o).heap[b]? = wk.heap[b]? := fun b hb => ((Below.refl wk.heap.size wk).alloc (Nat.le_refl _) o).block b hb
  have hsz : (wk.alloc o).heap.size = wk.heap.size + 1 := by simp
  have k2 : ∀ {E : TypeId} {v : Value} {xs : List Value}, E ≠ T → JV E wk base v xs → (∀ b, v.ownBlock = some b → V2.ownBlock ≠ some b) → JV E (w'.setCell ⟨w.heap.size, 1, none⟩ V3) base v xs := by
    intro E v xs hE hv hne
    refine hv.same fun b hb => ?_
    have hlt := hv.blk_lt b hb
    rw [set_heap w' w.heap.size 1 b _ (hv.ne_blk hbox hE hb), hp.grown.block b (by rw [hsz]; omega) (fun e => hne b hb e.symm), hal b hlt]
  have hbox' : Blk w' w.heap.size T [.slice (some ⟨gl, 0, none⟩) vs.length cl, V2] := by
    refine (hp.grown.block w.heap.size (by rw [hsz]; have := hbox.lt; omega) (fun e => hlong.ne_blk hbox hT2 e.symm rfl)).trans ?_
    exact (hal w.heap.size hbox.lt).trans hbox
  have hglV : ∀ b, (Value.slice (some ⟨gl, 0, none⟩) vs.length cl).ownBlock = some b → V2.ownBlock ≠ some b := by
    intro b hb e
    have h1 : gl = b := by simpa [Value.ownBlock] using hb
    have := h.fresh b e
    omega
  refine ⟨⟨fun t ht => k2 hT (hrows t ht) fun b hb => (hrows t ht).ne hlong (by decide) hb, h.rows.apart⟩, k2 hT2 hlist hglV, ?_, ?_, by simp [h.len], fun t ht => k2 hT (hgrow t ht) fun b hb => (hgrow t ht).ne hlong (by decide) hb, ?_, ?_, ?_, ?_⟩
  · have := hbox'.set (j := 1) V3
    exact this
  · refine hp.row.same fun b hb => set_heap w' w.heap.size 1 b _ ?_
    exact hp.row.ne_blk hbox' hT2 hb
  · intro t s b ht hs hsl hb
    rw [getD_snoc h.len] at hb
    by_cases e : t = i
    · subst e
      rw [if_pos rfl] at hb
      rcases hx.way with ⟨g, cap, e1, e2⟩ | ⟨e1, _⟩ | ⟨g, e1, e2⟩
      · refine h.rows.apart t s b hi hsl (by omega) ?_
        rw [e2] at hb
        rw [e1]; exact hb
      · omega
      · intro q
        rw [e1] at hb
        injection hb with hb
        have := (h.rows.row s hsl).blk_lt b q
        omega
    · rw [if_neg e] at hb
      exact h.apart t s b (by omega) (by omega) hsl hb
  · intro b hb
    rcases hp.way with ⟨g, cap, e1, e2⟩ | ⟨⟨g, e1, e2⟩, _⟩
    · refine h.fresh b ?_
      rw [e1]
      rw [e2] at hb
      exact hb
    · rw [e1] at hb
      injection hb with hb
      have h1 := h.kept.1
      have h2 := hx.size
      rw [hsz] at e2
      omega
  · have h1 := h.kept.1
    have h2 := hx.size
    have hb1 : Below base W wk := ⟨hx.os, hx.tape, hx.output, hx.size, fun b hb => hx.block b (by omega) (fun e => by have := hri.blk_ge b e.symm; omega)⟩
    have hb2 : Below base W (wk.alloc o) := hb1.alloc (by omega) o
    have hb3 : Below base W w' := hb2.grown hp.grown (by rw [hsz]; omega) fun q hq => hlong.blk_ge q hq
    exact h.below.trans (hb3.setCell hbase _)
  · have h1 := h.kept.1
    have h2 := hx.size
    have h3 := hp.grown.size
    refine ⟨by rw [set_size]; omega, fun b hb hn => ?_⟩
    rw [set_heap w' w.heap.size 1 b _ (by omega), hp.grown.block b (by rw [hsz]; omega) (fun e => by have := h.fresh b e.symm; omega), hal b (by omega), hx.block b (by omega) (fun e => hn i hi e.symm), h.kept.2 b hb hn]
theorem In2.at {w : World} {base gl cl : Nat} {vs : List Value} {f : Nat → List Value} {T : TypeId} {W wk : World} {i k : Nat} {V2 gv : Value} {gs : List Value} (h : In2 w base gl cl vs f T W i V2 gs) (hT : E8 ≠ T) (hi : i < vs.length) (hx : Ext E8 W base (vs.getD i nil) (fu f i) (mk8 i) k gv wk) : Blk wk w.heap.size T [.slice (some ⟨gl, 0, none⟩) vs.length cl, V2] ∧ JV ES wk base V2 gs := by
  have hri := h.rows.row i hi
  refine ⟨(hx.block w.heap.size h.box.lt fun e => hri.ne_blk h.box hT e.symm rfl).trans h.box, h.long.same fun b hb => hx.block b (h.long.blk_lt b hb) fun e => h.long.ne hri (by decide) hb e.symm⟩
theorem box_after {base X : Nat} {T : TypeId} {wk w' : World} {V2 V3 gv : Value} {gs cs : List Value} {o : Obj} (hbox : Blk wk X T cs) (hlong : JV ES wk base V2 gs) (hT2 : ES ≠ T) (hp : AppPost ES (wk.alloc o) base V2 gs gv V3 w') : Blk w' X T cs := by
  have hsz : (wk.alloc o).heap.size = wk.heap.size + 1 := by simp
  refine (hp.grown.block X (by rw [hsz]; have := hbox.lt; omega) (fun e => hlong.ne_blk hbox hT2 e.symm rfl)).trans ?_
  exact (((Below.refl wk.heap.size wk).alloc (Nat.le_refl _) o).block X hbox.lt).trans hbox
/-- what still looks at -/
structure Sti (w : World) (X : Nat) (T : TypeId) (n : Nat → Nat) (m : Nat) : Prop where
  mine : ∃ gl cl ol g2 c2 o2, m ≤ cl ∧ cl ≤ maxLen ∧ m ≤ c2 ∧ c2 ≤ maxLen ∧ w.cell? ⟨X, 0, none⟩ = some (.slice (some ⟨gl, ol, none⟩) m cl) ∧ w.cell? ⟨X, 1, none⟩ = some (.slice (some ⟨g2, o2, none⟩) m c2) ∧
    ∀ i, i < m → ∃ a b c d, w.cell? ⟨gl, ol + i, none⟩ = some (.slice a (n i) b) ∧ w.cell? ⟨g2, o2 + i, none⟩ = some (.slice (some ⟨c, 0, none⟩) (n i + 64) d) ∧ n i ≤ b ∧ b ≤ maxLen ∧ n i + 64 ≤ d ∧ d ≤ maxLen ∧
      (∀ k, k < n i → ∃ g, a = some ⟨g, 0, none⟩ ∧ w.cell? ⟨g, k, none⟩ = some (mk8 i)) ∧ ∀ k, k < n i + 64 → w.cell? ⟨c, k, none⟩ = some (mk8 i)
theorem rep_at {n k : Nat} {u : Value} (h : k < n) : (List.replicate n u)[k]? = some u := by simp [h]
/-- what still looks at, with what tells the blocks apart -/
structure In3 (X base gl cl : Nat) (vs : List Value) (f : Nat → List Value) (T : TypeId) (wr : World) (V2 : Value) (gs : List Value) : Prop where
  rows : ∀ i, i < vs.length → JV E8 wr base (vs.getD i nil) (fu f i)
  list : JV ES wr base (.slice (some ⟨gl, 0, none⟩) vs.length cl) vs
  box : Blk wr X T [.slice (some ⟨gl, 0, none⟩) vs.length cl, V2]
  long : JV ES wr base V2 gs
  len : gs.length = vs.length
  grow : ∀ t, t < vs.length → JV E8 wr base (gs.getD t nil) (fu f t ++ List.replicate 64 (mk8 t))
theorem In2.three {w : World} {base gl cl : Nat} {vs : List Value} {f : Nat → List Value} {T : TypeId} {wr : World} {V2 : Value} {gs : List Value} (h : In2 w base gl cl vs f T wr vs.length V2 gs) : In3 w.heap.size base gl cl vs f T wr V2 gs := ⟨h.rows.row, h.list, h.box, h.long, h.len, h.grow⟩
theorem In3.keep {X base gl cl : Nat} {vs : List Value} {f : Nat → List Value} {T : TypeId} {wr w' : World} {V2 : Value} {gs : List Value} (h : In3 X base gl cl vs f T wr V2 gs) (hb : Below wr.heap.size wr w') : In3 X base gl cl vs f T w' V2 gs :=
  ⟨fun i hi => (h.rows i hi).below hb, h.list.below hb, h.box.keep hb, h.long.below hb, h.len, fun t ht => (h.grow t ht).below hb⟩
/-- a store into a row of another type -/
theorem In3.put {X base gl cl : Nat} {vs : List Value} {f : Nat → List Value} {T E : TypeId} {wr : World} {V2 : Value} {gs xs : List Value} {b g n c j : Nat} {u : Value} (h : In3 X base gl cl vs f T wr V2 gs) (hn : JV E wr b (.slice (some ⟨g, 0, none⟩) n c) xs) (h1 : E ≠ E8) (h2 : E ≠ ES) (h3 : E ≠ T) : In3 X base gl cl vs f T (wr.setCell ⟨g, j, none⟩ u) V2 gs := by
  have k : ∀ {E' : TypeId} {v : Value} {ys : List Value}, E ≠ E' → JV E' wr base v ys → JV E' (wr.setCell ⟨g, j, none⟩ u) base v ys := by
    intro E' v ys hE hv
    refine hv.same fun b' hb' => set_heap wr g j b' u fun e => ?_
    exact hn.ne hv hE (g := g) rfl (by rw [← e]; exact hb')
  refine ⟨fun i hi => k h1 (h.rows i hi), k h2 h.list, ?_, k h2 h.long, h.len, fun t ht => k h1 (h.grow t ht)⟩
  show (wr.setCell ⟨g, j, none⟩ u).heap[X]? = _
  rw [set_heap wr g j X u (fun e => hn.ne_blk h.box h3 rfl e.symm)]
  exact h.box
theorem In3.sti {X base gl cl : Nat} {vs : List Value} {f : Nat → List Value} {T : TypeId} {wr : World} {V2 : Value} {gs : List Value} (h : In3 X base gl cl vs f T wr V2 gs) (hm : 0 < vs.length) : Sti wr X T (fun i => (f i).length) vs.length := by
  obtain ⟨a2, c2, hv2, _⟩ := h.long.shape
  have hgl := h.len
  rw [hgl] at hv2
  have hlong := h.long
  rw [hv2] at hlong
  cases a2 with
  | none =>
    obtain ⟨_, _, ⟨e1, e2⟩ | ⟨g, cap, cur, e1, _⟩⟩ := hlong
    · rw [hgl] at e2; omega
    · cases e1
  | some ad =>
    obtain ⟨g2, hg⟩ : ∃ g, ad = ⟨g, 0, none⟩ := by
      obtain ⟨_, _, ⟨e1, e2⟩ | ⟨g, cap, cur, e1, _⟩⟩ := hlong
      · cases e1
      · injection e1 with e1; injection e1 with e1; exact ⟨g, e1⟩
    subst hg
    obtain ⟨_, hl1, hl2, _, _, hcl⟩ := h.list.at
    obtain ⟨_, hg1, hg2, _, _, hcg⟩ := hlong.at
    refine ⟨gl, cl, 0, g2, c2, 0, hl1, hl2, hg1, hg2, h.box.cell 0 _ rfl, by rw [← hv2]; exact h.box.cell 1 _ rfl, fun i hi => ?_⟩
    have hr := h.rows i hi
    have hg := h.grow i hi
    obtain ⟨a, b, e1, e2⟩ := hr.shape
    have hfl : (fu f i).length = (f i).length := by unfold fu; simp
    rw [hfl] at e1 e2
    obtain ⟨c, d, e3, e4⟩ := hg.shape
    have hgl2 : (fu f i ++ List.replicate 64 (mk8 i)).length = (f i).length + 64 := by unfold fu; simp
    rw [hgl2] at e3 e4
    have c1 := (hcl i _ (getD_at hi)).1
    have c2 := (hcg i _ (getD_at (by rw [hgl]; exact hi))).1
    rw [e1] at c1 hr
    rw [e3] at c2 hg
    have hrep : fu f i ++ List.replicate 64 (mk8 i) = List.replicate ((f i).length + 64) (mk8 i) := by unfold fu; rw [List.replicate_append_replicate]
    obtain ⟨g3, rfl⟩ : ∃ g3, c = some ⟨g3, 0, none⟩ := by
      obtain ⟨_, _, ⟨e1, e2⟩ | ⟨g, cap, cur, e1, _⟩⟩ := hg
      · rw [hgl2] at e2; omega
      · injection e1 with e1; exact ⟨g, e1⟩
    obtain ⟨_, _, hd2, _, _, hcd⟩ := hg.at
    refine ⟨a, b, g3, d, by rw [Nat.zero_add]; exact c1, by rw [Nat.zero_add]; exact c2, e2, ?_, e4, hd2, fun k hk => ?_, fun k hk => ?_⟩
    · obtain ⟨_, _, ⟨e1, e2⟩ | ⟨g, cap, cur, e1, _, _, _, hmx, _⟩⟩ := hr
      · injection e1 with _ _ e5; rw [e5]; exact Nat.zero_le _
      · injection e1 with _ _ e5; rw [e5]; exact hmx
    · obtain ⟨g, rfl⟩ : ∃ g, a = some ⟨g, 0, none⟩ := by
        obtain ⟨_, _, ⟨e1, e2⟩ | ⟨g, cap, cur, e1, _⟩⟩ := hr
        · rw [hfl] at e2; omega
        · injection e1 with e1; exact ⟨g, e1⟩
      exact ⟨g, rfl, (hr.at.2.2.2.2.2 k _ (rep_at hk)).1⟩
    · refine (hcd k _ ?_).1
      rw [hrep]; exact rep_at hk
theorem In2.sti {w : World} {base gl cl : Nat} {vs : List Value} {f : Nat → List Value} {T : TypeId} {wr : World} {V2 : Value} {gs : List Value} (h : In2 w base gl cl vs f T wr vs.length V2 gs) (hm : 0 < vs.length) : Sti wr w.heap.size T (fun i => (f i).length) vs.length := h.three.sti hm
theorem Sti.below {w w' : World} {X : Nat} {T : TypeId} {n : Nat → Nat} {m : Nat} (h : Sti w X T n m) (hb : Below w.heap.size w w') : Sti w' X T n m := by
  have k : ∀ {p : Addr} {v : Value}, w.cell? p = some v → w'.cell? p = some v := fun {p v} hp => by rw [hb.cell (lt_of_cell hp)]; exact hp
  obtain ⟨gl, cl, ol, g2, c2, o2, a1, a2, a3, a4, a5, a6, a7⟩ := h
  refine ⟨gl, cl, ol, g2, c2, o2, a1, a2, a3, a4, k a5, k a6, fun i hi => ?_⟩
  obtain ⟨a, b, c, d, b1, b2, b3, b4, b5, b6, b7, b8⟩ := a7 i hi
  refine ⟨a, b, c, d, k b1, k b2, b3, b4, b5, b6, fun t ht => ?_, fun t ht => k (b8 t ht)⟩
  obtain ⟨g, e, hg⟩ := b7 t ht
  exact ⟨g, e, k hg⟩
end Ow
end Go.Proofs.Ytifjjoobbegpoaa
namespace Go.Proofs.Ytifjjoobbegpoaa
open Go.RowKit Go.Shelf
namespace Vt
structure KeepS (S : Nat → Prop) (w w' : World) : Prop where
  os : w'.os = w.os
  tape : w'.tape = w.tape
  output : w'.output = w.output
  size : w.heap.size ≤ w'.heap.size
  block : ∀ k, S k → w'.heap[k]? = w.heap[k]?
section
variable {S : Nat → Prop}
theorem KeepS.refl (w : World) : KeepS S w w := ⟨rfl, rfl, rfl, Nat.le_refl _, fun _ _ => rfl⟩
theorem KeepS.trans {a b c : World} (h : KeepS S a b) (k : KeepS S b c) : KeepS S a c :=
  ⟨k.os.trans h.os, k.tape.trans h.tape, k.output.trans h.output, Nat.le_trans h.size k.size, fun i hi => (k.block i hi).trans (h.block i hi)⟩
theorem KeepS.of_below {n : Nat} {a b : World} (h : Below n a b) (hS : ∀ k, S k → k < n) : KeepS S a b := ⟨h.os, h.tape, h.output, h.size, fun i hi => h.block i (hS i hi)⟩
theorem KeepS.below {n : Nat} {a b : World} (h : KeepS S a b) (hS : ∀ k, k < n → S k) : Below n a b := ⟨h.os, h.tape, h.output, h.size, fun i hi => h.block i (hS i hi)⟩
theorem KeepS.cell {a b : World} (h : KeepS S a b) {p : Addr} (hp : S p.block) : b.cell? p = a.cell? p := World.cell?_of_block (w := a) (h.block p.block hp)
theorem KeepS.setCell {a b : World} (h : KeepS S a b) {p : Addr} (hp : ¬ S p.block) (u : Value) : KeepS S a (b.setCell p u) :=
  h.trans ⟨rfl, rfl, rfl, by simp [World.setCell], fun k hk => Below.heap_setCell _ _ _ _ (fun e => hp (by first | rw [← e]; exact hk | rw [e]; exact hk))⟩
theorem KeepS.grown {a b c : World} {row : Option Nat} (h : KeepS S a b) (hg : b.grownBy c row) (hS : ∀ k, S k → k < b.heap.size) (hr : ∀ k, row = some k → ¬ S k) : KeepS S a c :=
  h.trans ⟨hg.os, hg.tape, hg.output, hg.size, fun k hk => hg.block k (hS k hk) (fun e => hr k e.symm hk)⟩
theorem KeepS.alloc {a b : World} (h : KeepS S a b) (hS : ∀ k, S k → k < b.heap.size) (o : Obj) : KeepS S a (b.alloc o) :=
  h.trans ⟨rfl, rfl, rfl, by simp, fun k hk => Below.heap_alloc _ _ _ (hS k hk)⟩
theorem KeepS.drewN {a b : World} (h : KeepS S a b) (n : Nat) : KeepS S a (b.drewN n) := h.trans ⟨rfl, rfl, rfl, Nat.le_refl _, fun _ _ => rfl⟩
theorem KeepS.drew {a b : World} (h : KeepS S a b) : KeepS S a b.drew := h.trans ⟨rfl, rfl, rfl, Nat.le_refl _, fun _ _ => rfl⟩
theorem keepS_t {A B C : World} (h : KeepS S A B) (k : KeepS S B C) : KeepS S A C := h.trans k
theorem keepS_b {w : World} (hS : ∀ k, S k → k < w.heap.size) (W : World) (l : Nat) (o o' : Obj) (hl : w.heap.size ≤ l) (h : W.heap[l]? = some o) (_ : o.isCells = false) (_ : o.isWalk = false) : KeepS S W (W.putObj l o') := by
  have hg := grownBy_putObj' W l o'
  refine ⟨hg.os, hg.tape, hg.output, hg.size, fun k hk => hg.block k ?_ ?_⟩
  · have := (Array.getElem?_eq_some_iff.1 h).1
    have := hS k hk
    omega
  · intro e
    injection e with e
    have := hS k hk
    omega
theorem ownFrom_keepS {β : Type} {B : Nat} {w₀ : World} (hS : ∀ k, S k → k < w₀.heap.size) (hB : ∀ k, S k → k < B) : OwnFrom B (fun (_ : β) W => KeepS S w₀ W) :=
  fun _ _ _ _ hs hg hr => hs.grown hg (fun k hk => Nat.lt_of_lt_of_le (hS k hk) hs.size) (fun k e hk => by have := (hr k e).1; have := hB k hk; omega)
theorem boxed_keepS {W W' : World} {B : Nat} {t : TypeId} {v : Value} (h : Boxed W B t v) (hB : S B) (hb : KeepS S W W') : Boxed W' B t v := (hb.block B hB).trans h
theorem Blk.keepS {W W' : World} {O : Nat} {T : TypeId} {cs : List Value} (h : Blk W O T cs) (hO : S O) (hb : KeepS S W W') : Blk W' O T cs := (hb.block O hO).trans h
theorem IsK.keepS {k : IntKind} {M : Nat} {w w' : World} {v : Value} {l : List Nat} (h : IsK k M w v l) (hS : ∀ b off n c, v = .slice (some ⟨b, off, none⟩) n c → S b) (hb : KeepS S w w') : IsK k M w' v l := by
  obtain ⟨h1, h2, ⟨rfl, a, c, rfl⟩ | ⟨b, off, c, rfl, h3, h4, h5, h6⟩⟩ := h
  · exact ⟨h1, h2, .inl ⟨rfl, a, c, rfl⟩⟩
  · refine ⟨h1, h2, .inr ⟨b, off, c, rfl, h3, h4, Nat.lt_of_lt_of_le h5 hb.size, fun j hj => ?_⟩⟩
    rw [hb.cell (p := ⟨b, off + j, none⟩) (hS _ _ _ _ rfl)]; exact h6 j hj
theorem Buf.keepS {w w' : World} {g cap : Nat} {l : List Nat} (h : Buf w g cap l) (hg : S g) (hb : KeepS S w w') : Buf w' g cap l := by
  obtain ⟨h1, h2, h3, h4, h5, h6⟩ := h
  refine ⟨h1, h2, Nat.lt_of_lt_of_le h3 hb.size, h4, fun k hk => ?_, fun k hk => ?_⟩
  · rw [hb.cell (p := ⟨g, 0 + k, none⟩) hg]; exact h5 k hk
  · rw [World.frozen?_of_block (a := ⟨g, k, none⟩) (hb.block g hg)]; exact h6 k hk
theorem JK.keepS {k : IntKind} {M : Nat} {E : TypeId} {w w' : World} {base : Nat} {v : Value} {l : List Nat} (h : JK k M E w base v l) (hS : ∀ g, v.ownBlock = some g → S g) (hb : KeepS S w w') : JK k M E w' base v l := by
  obtain ⟨h1, h0, ⟨rfl, e⟩ | ⟨g', cap', cur, rfl, hbs, hh, hr⟩⟩ := h
  · exact ⟨h1, h0, .inl ⟨rfl, e⟩⟩
  · refine ⟨h1, h0, .inr ⟨g', cap', cur, rfl, hbs, ?_, hr⟩⟩
    rw [hb.block g' (hS g' rfl)]; exact hh
end
theorem prefix_snoc {α : Type} {pre xs : List α} {x : α} (h : pre <+: xs) : (pre ++ [x] <+: xs ↔ xs[pre.length]? = some x) := by
  obtain ⟨t, rfl⟩ := h
  rw [List.prefix_append_right_inj, List.getElem?_append_right (Nat.le_refl _), Nat.sub_self]
  cases t with
  | nil => simp
  | cons y t => simp [List.cons_prefix_cons, eq_comm]
theorem boxed_below {W W' : World} {B n : Nat} {t : TypeId} {v : Value} (h : Boxed W B t v) (hB : B < n) (hb : Below n W W') : Boxed W' B t v := (hb.block B hB).trans h
end Vt
end Go.Proofs.Ytifjjoobbegpoaa
namespace Go.Proofs.Ytifjjoobbegpoaa
open Go.RowKit Go.Shelf
namespace Vt
/-- a function with ranges over iterators that returns: no other way out -/
def bodyPostF (F : Fence) (n : Nat) (P : Program) (fn : Func) (R : Ending → World → Prop) : Exit → Act → World → Prop
  | .normal, a, w | .ret, a, w => LeavesInM F n P fn a.tmps R a.defers .returning w
  | _, _, _ => False
theorem bodyPostF_M {F : Fence} {n : Nat} {P : Program} {fn : Func} {R : Ending → World → Prop} : ∀ e a w, bodyPostF F n P fn R e a w → bodyPostM F n P fn R e a w := by
  intro e a w h
  cases e with
  | normal => exact h
  | ret => exact h
  | _ => exact h.elim
/-- append, left standing by the walk: its run is handed in as an equation -/
def apH (ats : Array TypeId) (ty : TypeId) (args : Array Value) : Sem Value := Builtin.append_ ats ty args
theorem append_hide (ats : Array TypeId) (ty : TypeId) (args : Array Value) : Builtin.append_ ats ty args = apH ats ty args := rfl
section
variable {k : IntKind} {M : Nat} {E S : TypeId} {by_ : Nat}
theorem wpListIn_append_jk {F : Fence} {d : Nat} (hS : Try.prog.underlying S = some (.slice E)) (hE : (Try.prog.info? E).map (fun i => (i.zero, i.size, i.bytes)) = some (some (.int k 0), 1, by_)) (w : World) {ops : Array Oper} {rest : List Oper} {o : Oper} {a : Act} {Q : Exit → Act → World → Prop} (hgd : o.guard = none) (s x : Operand)
    (ho : o.op = .call { callee := .builtin .append, args := #[s, x], argTypes := #[S, S] })
    (base : Nat) (v u : Value) (l r : List Nat) (hs : a.eval s = v) (hx : a.eval x = u) (hJ : JK k M E w base v l) (hI : IsK k M w u r) (n : Nat) (hn : l.length + r.length = n) (R : List Nat) (hR : l ++ r = R) (hb : n * by_ ≤ 140737488355328) (hb2 : n ≤ 140737488355328) (hbase : base ≤ w.heap.size)
    (h : ∀ a' cap w', JK k M E w' base (.slice a' n cap) R → w.grownBy w' v.ownBlock → (∀ g, (Value.slice a' n cap).ownBlock = some g → v.ownBlock = some g ∨ g = w.heap.size) → n ≤ cap → wpListIn F d Try.prog ops Q rest (a.put o.dst (.slice a' n cap)) w') : wpListIn F d Try.prog ops Q (o :: rest) a w := by
  subst hn hR
  refine wpListIn_plain hgd fun K hK => ?_
  obtain ⟨a', cap, w', hr, h2, h3, h4⟩ := run_append_jk hS hE o.type w base v u l r hJ hI hb hb2 hbase
  have hle : l.length + r.length ≤ cap := by
    obtain ⟨a2, c2, e, hle⟩ := h2.shape
    injection e with e1 e2 e3
    rw [List.length_append] at hle
    omega
  unfold Oper.wpIn
  refine ⟨?_, ?_⟩
  · simp [Oper.about, ho, resolve, Target.leads, Sem.run_pure]
  · rw [Oper.semAt_plain F _ _ (by rw [ho]; intro c hc'; cases hc')]
    simp [execOp, ho, resolve, invoke, builtin, hs, hx, hr, Result.andThen]
    exact hK _ _ (h a' cap w' h2 h3 h4 hle)
/-- .. as one step of a region that draws its order -/
theorem step_append_jk (hS : Try.prog.underlying S = some (.slice E)) (hE : (Try.prog.info? E).map (fun i => (i.zero, i.size, i.bytes)) = some (some (.int k 0), 1, by_)) (w : World) {ops : Array Oper} {o : Oper} {a : Act} {K : Act → World → Prop} {Q : Exit → Act → World → Prop} {X : Prop} (hgd : o.guard = none) (s x : Operand)
    (ho : o.op = .call { callee := .builtin .append, args := #[s, x], argTypes := #[S, S] })
    (base : Nat) (v u : Value) (l r : List Nat) (hs : a.eval s = v) (hx : a.eval x = u) (hJ : JK k M E w base v l) (hI : IsK k M w u r) (n : Nat) (hn : l.length + r.length = n) (R : List Nat) (hR : l ++ r = R) (hb : n * by_ ≤ 140737488355328) (hb2 : n ≤ 140737488355328) (hbase : base ≤ w.heap.size)
    (h : ∀ a' cap w', JK k M E w' base (.slice a' n cap) R → w.grownBy w' v.ownBlock → (∀ g, (Value.slice a' n cap).ownBlock = some g → v.ownBlock = some g ∨ g = w.heap.size) → n ≤ cap → K (a.put o.dst (.slice a' n cap)) w') :
    if Region.wanted o (yielded ops a.tmps) = true then Oper.wp Try.prog o a w K Q else X := by
  subst hn hR
  have hw : Region.wanted o (yielded ops a.tmps) = true := by simp [Region.wanted, hgd]
  rw [if_pos hw]
  obtain ⟨a', cap, w', hr, h2, h3, h4⟩ := run_append_jk hS hE o.type w base v u l r hJ hI hb hb2 hbase
  have hle : l.length + r.length ≤ cap := by
    obtain ⟨a2, c2, e, hle⟩ := h2.shape
    injection e with e1 e2 e3
    rw [List.length_append] at hle
    omega
  unfold Oper.wp execOp
  simp only [ho, resolve, invoke, builtin, Sem.run_bind, Sem.run_pure, Result.andThen_ok, List.map_toArray, List.map_cons, List.map_nil, hs, hx, hr]
  exact h a' cap w' h2 h3 h4 hle
theorem JK.drew {w : World} {base : Nat} {v : Value} {l : List Nat} (h : JK k M E w base v l) : JK k M E w.drew base v l := h
theorem JK.drewN {w : World} {base : Nat} {v : Value} {l : List Nat} (h : JK k M E w base v l) (n : Nat) : JK k M E (w.drewN n) base v l := h
/-- a turn of what is no cells leaves the row -/
theorem JK.kept {w w' : World} {base : Nat} {row : Option Nat} {v : Value} {l : List Nat} (h : JK k M E w base v l) (hg : w.grownBy w' row) (hr : ∀ r, row = some r → ∃ o : Obj, w.heap[r]? = some o ∧ o.isCells = false) : JK k M E w' base v l := by
  refine h.grownO hg fun g hgb e => ?_
  obtain ⟨o, ho, hc⟩ := hr g e.symm
  obtain ⟨_, _, ⟨rfl, _⟩ | ⟨g', cap', cur, rfl, hbs, hh, _⟩⟩ := h
  · cases hgb
  · cases hgb
    have : some o = some (.cells cur E (0, 0)) := ho.symm.trans hh
    injection this with this
    rw [this] at hc
    cases hc
theorem Boxed.keptO {W W' : World} {row : Option Nat} {B : Nat} {t : TypeId} {v : Value} (h : Boxed W B t v) (hg : W.grownBy W' row) (hr : ∀ r, row = some r → ∃ o : Obj, W.heap[r]? = some o ∧ o.isCells = false) : Boxed W' B t v := by
  refine h.kept hg fun e => ?_
  obtain ⟨o, ho, hc⟩ := hr B e.symm
  have : some o = some (.cells #[v] t) := ho.symm.trans h
  injection this with this
  rw [this] at hc
  cases hc
/-- a box of another type is no such row -/
theorem JK.not_box {W : World} {B base : Nat} {t : TypeId} {u v : Value} {l : List Nat} (h : Boxed W B t u) (hte : t ≠ E) (hr : JK k M E W base v l) : some B ≠ v.ownBlock := Boxed.not_row h hte hr.2
/-- a box lies as it lay where something was put behind a row -/
theorem box_row {W W' : World} {B base : Nat} {t : TypeId} {u v : Value} {l : List Nat} {o : Obj} (h : Boxed W B t u) (hr : JK k M E W base v l) (hg : (W.alloc o).grownBy W' v.ownBlock) (hte : t ≠ E) : Boxed W' B t u :=
  (h.alloc o).kept hg (JK.not_box (h.alloc o) hte (hr.keepAll ((Below.refl _ _).alloc (Nat.le_refl _) o)))
/-- what was put behind a row is cells: all else lies as it lay -/
theorem others_row {W W' : World} {base : Nat} {v : Value} {l : List Nat} (h : JK k M E W base v l) (hg : W.grownBy W' v.ownBlock) : KeepsOthers W W' := by
  refine ⟨hg.size, fun i o hi ho => ?_⟩
  rw [hg.block i (Array.getElem?_eq_some_iff.1 hi).1 ?_]
  · exact hi
  · intro e
    obtain ⟨_, _, ⟨rfl, _⟩ | ⟨g', cap', cur, rfl, _, hh, _⟩⟩ := h
    · cases e
    · have e' : i = g' := by injection e
      subst e'
      rw [hi] at hh
      injection hh with hh
      rw [hh] at ho
      cases ho
/-- rows of unlike elements are apart -/
theorem JK.apart {k2 : IntKind} {M2 : Nat} {E2 : TypeId} {W : World} {base base2 : Nat} {v u : Value} {l l2 : List Nat} (h : JK k M E W base v l) (h2 : JK k2 M2 E2 W base2 u l2) (hne : E ≠ E2) : ∀ g, v.ownBlock = some g → some g ≠ u.ownBlock := by
  intro g hg e
  obtain ⟨_, _, ⟨rfl, _⟩ | ⟨g1, cap1, cur1, rfl, _, hh1, _⟩⟩ := h
  · cases hg
  · obtain ⟨_, _, ⟨rfl, _⟩ | ⟨g2, cap2, cur2, rfl, _, hh2, _⟩⟩ := h2
    · cases e
    · cases hg
      injection e with e
      have e' : g1 = g2 := e
      subst e'
      rw [hh1] at hh2
      injection hh2 with hh2
      injection hh2 with _ hh2
      exact hne hh2
end
end Vt
end Go.Proofs.Ytifjjoobbegpoaa
namespace Go.Proofs.Ytifjjoobbegpoaa
open Go.RowKit Go.Shelf
namespace Vt
/-- a row of the call's own, of elements of sz cells each: nil where there is none -/
def JR (E : TypeId) (sz : Nat) (w : World) (base : Nat) (v : Value) (ls : List (List Value)) : Prop := (∀ r ∈ ls, r.length = sz ∧ ∀ u ∈ r, u.oneCell' = true) ∧ w.ownsRow base E sz v ls.length ls.flatten
section
variable {E : TypeId} {sz : Nat}
theorem jr_nil (w : World) (base : Nat) : JR E sz w base (.slice none 0 0) [] := ⟨by simp, by simp, .inl ⟨rfl, rfl⟩⟩
theorem JR.shape {w : World} {base : Nat} {v : Value} {l : List (List Value)} (h : JR E sz w base v l) : ∃ a c, v = .slice a l.length c ∧ l.length ≤ c := by
  rcases h.2.2 with ⟨rfl, e⟩ | ⟨g, cap, cur, rfl, _, _, hl, _⟩
  · exact ⟨none, 0, by rw [e], by omega⟩
  · exact ⟨_, cap, rfl, hl⟩
theorem JR.blk_lt {w : World} {base : Nat} {v : Value} {l : List (List Value)} (h : JR E sz w base v l) : ∀ g, v.ownBlock = some g → g < w.heap.size := by
  intro g hg
  obtain ⟨_, _, ⟨rfl, e⟩ | ⟨g', cap', cur, rfl, hbs, hh, hr⟩⟩ := h
  · cases hg
  · cases hg
    exact (Array.getElem?_eq_some_iff.1 hh).1
theorem JR.blk_ge {w : World} {base : Nat} {v : Value} {l : List (List Value)} (h : JR E sz w base v l) : ∀ g, v.ownBlock = some g → base ≤ g := by
  intro g hg
  obtain ⟨_, _, ⟨rfl, e⟩ | ⟨g', cap', cur, rfl, hbs, hh, hr⟩⟩ := h
  · cases hg
  · cases hg
    exact hbs
theorem JR.keep {w w' : World} {base n : Nat} {v : Value} {l : List (List Value)} (h : JR E sz w base v l) (hk : ∀ g, v.ownBlock = some g → g < n) (hb : Below n w w') : JR E sz w' base v l := by
  obtain ⟨h1, h0, ⟨rfl, e⟩ | ⟨g', cap', cur, rfl, hbs, hh, hr⟩⟩ := h
  · exact ⟨h1, h0, .inl ⟨rfl, e⟩⟩
  · refine ⟨h1, h0, .inr ⟨g', cap', cur, rfl, hbs, ?_, hr⟩⟩
    rw [hb.block g' (hk g' rfl)]; exact hh
theorem JR.keepAll {w w' : World} {base : Nat} {v : Value} {l : List (List Value)} (h : JR E sz w base v l) (hb : Below w.heap.size w w') : JR E sz w' base v l := h.keep h.blk_lt hb
theorem JR.alloc {w : World} {base : Nat} {v : Value} {l : List (List Value)} (h : JR E sz w base v l) (o : Obj) : JR E sz (w.alloc o) base v l := h.keepAll ((Below.refl _ _).alloc (Nat.le_refl _) _)
theorem JR.keepS {S : Nat → Prop} {w w' : World} {base : Nat} {v : Value} {l : List (List Value)} (h : JR E sz w base v l) (hS : ∀ g, v.ownBlock = some g → S g) (hb : KeepS S w w') : JR E sz w' base v l := by
  obtain ⟨h1, h0, ⟨rfl, e⟩ | ⟨g', cap', cur, rfl, hbs, hh, hr⟩⟩ := h
  · exact ⟨h1, h0, .inl ⟨rfl, e⟩⟩
  · refine ⟨h1, h0, .inr ⟨g', cap', cur, rfl, hbs, ?_, hr⟩⟩
    rw [hb.block g' (hS g' rfl)]; exact hh
theorem JR.rebase {w : World} {base base' : Nat} {v : Value} {l : List (List Value)} (h : JR E sz w base v l) (hb : ∀ g, v.ownBlock = some g → base' ≤ g) : JR E sz w base' v l := by
  obtain ⟨h1, h0, ⟨rfl, e⟩ | ⟨g', cap', cur, rfl, hbs, hh, hr⟩⟩ := h
  · exact ⟨h1, h0, .inl ⟨rfl, e⟩⟩
  · exact ⟨h1, h0, .inr ⟨g', cap', cur, rfl, hb g' rfl, hh, hr⟩⟩
theorem JR.lower {w : World} {base base' : Nat} {v : Value} {l : List (List Value)} (h : JR E sz w base v l) (hb : base' ≤ base) : JR E sz w base' v l := h.rebase fun g hg => Nat.le_trans hb (h.blk_ge g hg)
theorem JR.grownO {w w' : World} {base : Nat} {row : Option Nat} {v : Value} {l : List (List Value)} (h : JR E sz w base v l) (hg : w.grownBy w' row) (hne : ∀ g, v.ownBlock = some g → some g ≠ row) : JR E sz w' base v l := by
  obtain ⟨h1, h0, ⟨rfl, e⟩ | ⟨g', cap', cur, rfl, hbs, hh, hr⟩⟩ := h
  · exact ⟨h1, h0, .inl ⟨rfl, e⟩⟩
  · refine ⟨h1, h0, .inr ⟨g', cap', cur, rfl, hbs, ?_, hr⟩⟩
    rw [hg.block g' (Array.getElem?_eq_some_iff.1 hh).1 (hne g' rfl)]; exact hh
theorem JR.setO {w : World} {base : Nat} {v : Value} {l : List (List Value)} (h : JR E sz w base v l) {p : Addr} (hne : ∀ g, v.ownBlock = some g → g ≠ p.block) (u : Value) : JR E sz (w.setCell p u) base v l := by
  obtain ⟨h1, h0, ⟨rfl, e⟩ | ⟨g', cap', cur, rfl, hbs, hh, hr⟩⟩ := h
  · exact ⟨h1, h0, .inl ⟨rfl, e⟩⟩
  · refine ⟨h1, h0, .inr ⟨g', cap', cur, rfl, hbs, ?_, hr⟩⟩
    have := hne g' rfl
    rw [← hh]
    show (w.heap.modify p.block _)[g']? = _
    rw [Array.getElem?_modify, if_neg (fun e => this e.symm)]
theorem JR.drew {w : World} {base : Nat} {v : Value} {l : List (List Value)} (h : JR E sz w base v l) : JR E sz w.drew base v l := h
theorem JR.drewN {w : World} {base : Nat} {v : Value} {l : List (List Value)} (h : JR E sz w base v l) (n : Nat) : JR E sz (w.drewN n) base v l := h
theorem flat_at {ls : List (List Value)} (h : ∀ r ∈ ls, r.length = sz) : ∀ (k : Nat) (r : List Value) (j : Nat), ls[k]? = some r → j < sz → ls.flatten[k * sz + j]? = r[j]? := by
  induction ls with
  | nil => intro k r j hk; simp at hk
  | cons a q ih =>
    intro k r j hk hj
    have ha := h a List.mem_cons_self
    rw [List.flatten_cons]
    cases k with
    | zero =>
      simp at hk
      subst hk
      rw [Nat.zero_mul, Nat.zero_add, List.getElem?_append_left (by omega)]
    | succ k =>
      rw [List.getElem?_cons_succ] at hk
      rw [List.getElem?_append_right (by rw [ha, Nat.succ_mul]; omega), ha, show (k + 1) * sz + j - sz = k * sz + j by rw [Nat.succ_mul]; omega]
      exact ih (fun r hr => h r (List.mem_cons_of_mem _ hr)) k r j hk hj
theorem flat_len {ls : List (List Value)} (h : ∀ r ∈ ls, r.length = sz) : ls.flatten.length = ls.length * sz := by
  induction ls with
  | nil => simp
  | cons a q ih => rw [List.flatten_cons, List.length_append, ih (fun r hr => h r (List.mem_cons_of_mem _ hr)), h a List.mem_cons_self, List.length_cons, Nat.succ_mul]; omega
/-- what stands at a place -/
theorem JR.at {w : World} {base g : Nat} {n c : Nat} {l : List (List Value)} (h : JR E sz w base (.slice (some ⟨g, 0, none⟩) n c) l) (k : Nat) (r : List Value) (j : Nat) (u : Value) (hk : l[k]? = some r) (hu : r[j]? = some u) : w.cell? ⟨g, k * sz + j, none⟩ = some u := by
  obtain ⟨h1, h0, ⟨e, _⟩ | ⟨g', cap', cur, e, hbs, hh, h3, h4, h5, h6⟩⟩ := h
  · cases e
  · injection e with e1 e2 e3
    injection e1 with e1
    injection e1 with e1
    subst e1
    have hr : r.length = sz := (h1 r (List.mem_of_getElem? hk)).1
    have hj : j < sz := by have := (List.getElem?_eq_some_iff.1 hu).1; omega
    have hf := flat_at (fun r hr => (h1 r hr).1) k r j hk hj
    rw [hu, ← h6] at hf
    simp only [World.cell?, hh]
    rw [List.getElem?_take] at hf
    split at hf
    · simpa using hf
    · cases hf
theorem JR.nn {w : World} {base : Nat} {v : Value} {l : List (List Value)} (h : JR E sz w base v l) (hl : l ≠ []) : ∃ g c, v = .slice (some ⟨g, 0, none⟩) l.length c ∧ l.length ≤ c ∧ c ≤ maxLen := by
  obtain ⟨h1, h0, ⟨e, h⟩ | ⟨g', cap', cur, e, hbs, hh, h3, h4, h5, h6⟩⟩ := h
  · exact absurd (List.length_eq_zero_iff.1 h) hl
  · exact ⟨g', cap', e, h3, h4⟩
theorem JR.len_le {w : World} {base : Nat} {v : Value} {l : List (List Value)} (h : JR E sz w base v l) : l.length ≤ maxLen := by
  obtain ⟨h1, h0, ⟨e, h⟩ | ⟨g', cap', cur, e, hbs, hh, h3, h4, h5, h6⟩⟩ := h
  · rw [h]; exact Nat.zero_le _
  · omega
/-- a turn of what is no cells leaves the row -/
theorem JR.kept {w w' : World} {base : Nat} {row : Option Nat} {v : Value} {l : List (List Value)} (h : JR E sz w base v l) (hg : w.grownBy w' row) (hr : ∀ r, row = some r → ∃ o : Obj, w.heap[r]? = some o ∧ o.isCells = false) : JR E sz w' base v l := by
  refine h.grownO hg fun g hgb e => ?_
  obtain ⟨o, ho, hc⟩ := hr g e.symm
  obtain ⟨_, _, ⟨rfl, _⟩ | ⟨g', cap', cur, rfl, hbs, hh, _⟩⟩ := h
  · cases hgb
  · cases hgb
    have : some o = some (.cells cur E (0, 0)) := ho.symm.trans hh
    injection this with this
    rw [this] at hc
    cases hc
theorem JR.not_blk {W : World} {O base : Nat} {t : TypeId} {cs : List Value} {v : Value} {l : List (List Value)} (hr : JR E sz W base v l) (h : Blk W O t cs) (hte : t ≠ E) : some O ≠ v.ownBlock := by
  intro e
  obtain ⟨_, _, ⟨rfl, _⟩ | ⟨g', cap', cur, rfl, _, hh, _⟩⟩ := hr
  · cases e
  · injection e with e
    have e' : O = g' := e
    subst e'
    have h' : W.heap[O]? = some (.cells cs.toArray t (0, 0)) := h
    rw [h'] at hh
    injection hh with hh
    injection hh with _ hh
    exact hte hh
theorem JR.not_box {W : World} {B base : Nat} {t : TypeId} {u v : Value} {l : List (List Value)} (hr : JR E sz W base v l) (h : Boxed W B t u) (hte : t ≠ E) : some B ≠ v.ownBlock := JR.not_blk (cs := [u]) hr h hte
/-- what was put behind a row is cells: all else lies as it lay -/
theorem JR.others {W W' : World} {base : Nat} {v : Value} {l : List (List Value)} (h : JR E sz W base v l) (hg : W.grownBy W' v.ownBlock) : KeepsOthers W W' := by
  refine ⟨hg.size, fun i o hi ho => ?_⟩
  rw [hg.block i (Array.getElem?_eq_some_iff.1 hi).1 ?_]
  · exact hi
  · intro e
    obtain ⟨_, _, ⟨rfl, _⟩ | ⟨g', cap', cur, rfl, _, hh, _⟩⟩ := h
    · cases e
    · have e' : i = g' := by injection e
      subst e'
      rw [hi] at hh
      injection hh with hh
      rw [hh] at ho
      cases ho
variable {S : TypeId} {by_ : Nat} {z : Value}
/-- one more is put behind: r its cells, which lie in a block of their own -/
theorem run_append_jr (hS : Try.prog.underlying S = some (.slice E)) (hE : (Try.prog.info? E).map (fun i => (i.zero, i.size, i.bytes)) = some (some z, sz, by_)) (hz : z.cells.size = sz) (hsz : 0 < sz) (ty : TypeId) (w : World) (base : Nat) (v : Value) (l : List (List Value)) (hJ : JR E sz w base v l) (g c : Nat) (r : List Value) (hr : r.length = sz) (h1 : ∀ u ∈ r, u.oneCell' = true) (hc : ∀ j u, r[j]? = some u → w.cell? ⟨g, j, none⟩ = some u) (hb : (l.length + 1) * by_ ≤ 140737488355328) (hb2 : l.length + 1 ≤ maxLen) (hbase : base ≤ w.heap.size) :
    ∃ g' cap w', (Builtin.append_ #[S, S] ty #[v, .slice (some ⟨g, 0, none⟩) 1 c]).run Try.prog w = .ok (.slice (some ⟨g', 0, none⟩) (l.length + 1) cap) w' ∧ JR E sz w' base (.slice (some ⟨g', 0, none⟩) (l.length + 1) cap) (l ++ [r]) ∧ w.grownBy w' v.ownBlock ∧ (v.ownBlock = some g' ∨ g' = w.heap.size) := by
  obtain ⟨i0, hi, hz0, hz1, hz2⟩ := info_parts hE
  obtain ⟨g', cap, w', e1, h2, h3, h4, _⟩ := run_append_lies (P := Try.prog) w S ty base E i0 z sz by_ hS hi hz0 hz1 hz2 hz hsz v l.length l.flatten hJ.2 ⟨g, 0, none⟩ 1 c r (by omega) (fun j u hu => by
    have := hc j u hu
    rw [add_at, Nat.zero_add]; exact this) h1 (by omega) hb2 hb hbase w.heap.size rfl
  refine ⟨g', cap, w', e1, ⟨?_, ?_⟩, h3, h4⟩
  · intro q hq
    rcases List.mem_append.1 hq with hq | hq
    · exact hJ.1 q hq
    · rw [List.mem_singleton] at hq; subst hq; exact ⟨hr, h1⟩
  · rw [List.length_append, List.length_singleton, List.flatten_append, List.flatten_singleton]; exact h2
theorem wpListIn_append_jr {F : Fence} {d : Nat} (hS : Try.prog.underlying S = some (.slice E)) (hE : (Try.prog.info? E).map (fun i => (i.zero, i.size, i.bytes)) = some (some z, sz, by_)) (hz : z.cells.size = sz) (hsz : 0 < sz) (w : World) {ops : Array Oper} {rest : List Oper} {o : Oper} {a : Act} {Q : Exit → Act → World → Prop} (hgd : o.guard = none) (s x : Operand)
    (ho : o.op = .call { callee := .builtin .append, args := #[s, x], argTypes := #[S, S] })
    (base : Nat) (v : Value) (l : List (List Value)) (g c : Nat) (r : List Value) (hs : a.eval s = v) (hx : a.eval x = .slice (some ⟨g, 0, none⟩) 1 c) (hJ : JR E sz w base v l) (hr : r.length = sz) (h1 : ∀ u ∈ r, u.oneCell' = true) (hc : ∀ j u, r[j]? = some u → w.cell? ⟨g, j, none⟩ = some u) (n : Nat) (hn : l.length + 1 = n) (hb : n * by_ ≤ 140737488355328) (hb2 : n ≤ maxLen) (hbase : base ≤ w.heap.size)
    (h : ∀ g' cap w', JR E sz w' base (.slice (some ⟨g', 0, none⟩) n cap) (l ++ [r]) → w.grownBy w' v.ownBlock → (v.ownBlock = some g' ∨ g' = w.heap.size) → wpListIn F d Try.prog ops Q rest (a.put o.dst (.slice (some ⟨g', 0, none⟩) n cap)) w') : wpListIn F d Try.prog ops Q (o :: rest) a w := by
  subst hn
  refine wpListIn_plain hgd fun K hK => ?_
  obtain ⟨a', cap, w', hrr, h2, h3, h4⟩ := run_append_jr hS hE hz hsz o.type w base v l hJ g c r hr h1 hc hb hb2 hbase
  unfold Oper.wpIn
  refine ⟨?_, ?_⟩
  · simp [Oper.about, ho, resolve, Target.leads, Sem.run_pure]
  · rw [Oper.semAt_plain F _ _ (by rw [ho]; intro c hc'; cases hc')]
    simp [execOp, ho, resolve, invoke, builtin, hs, hx, hrr, Result.andThen]
    exact hK _ _ (h a' cap w' h2 h3 h4)
theorem wpList_append_jr (hS : Try.prog.underlying S = some (.slice E)) (hE : (Try.prog.info? E).map (fun i => (i.zero, i.size, i.bytes)) = some (some z, sz, by_)) (hz : z.cells.size = sz) (hsz : 0 < sz) (w : World) {ops : Array Oper} {rest : List Oper} {o : Oper} {a : Act} {Q : Exit → Act → World → Prop} (hgd : o.guard = none) (s x : Operand)
    (ho : o.op = .call { callee := .builtin .append, args := #[s, x], argTypes := #[S, S] })
    (base : Nat) (v : Value) (l : List (List Value)) (g c : Nat) (r : List Value) (hs : a.eval s = v) (hx : a.eval x = .slice (some ⟨g, 0, none⟩) 1 c) (hJ : JR E sz w base v l) (hr : r.length = sz) (h1 : ∀ u ∈ r, u.oneCell' = true) (hc : ∀ j u, r[j]? = some u → w.cell? ⟨g, j, none⟩ = some u) (n : Nat) (hn : l.length + 1 = n) (hb : n * by_ ≤ 140737488355328) (hb2 : n ≤ maxLen) (hbase : base ≤ w.heap.size)
    (h : ∀ g' cap w', JR E sz w' base (.slice (some ⟨g', 0, none⟩) n cap) (l ++ [r]) → w.grownBy w' v.ownBlock → (v.ownBlock = some g' ∨ g' = w.heap.size) → wpList Try.prog ops Q rest (a.put o.dst (.slice (some ⟨g', 0, none⟩) n cap)) w') : wpList Try.prog ops Q (o :: rest) a w := by
  subst hn
  refine wpList_plain hgd fun K hK => ?_
  obtain ⟨a', cap, w', hrr, h2, h3, h4⟩ := run_append_jr hS hE hz hsz o.type w base v l hJ g c r hr h1 hc hb hb2 hbase
  unfold Oper.wp execOp
  simp only [ho, resolve, invoke, builtin, Sem.run_bind, Sem.run_pure, Result.andThen_ok, List.map_toArray, List.map_cons, List.map_nil, hs, hx, hrr]
  exact hK _ _ (h a' cap w' h2 h3 h4)
end
end Vt
end Go.Proofs.Ytifjjoobbegpoaa
namespace Go.Proofs.Ytifjjoobbegpoaa
open Go.RowKit
namespace Os
open Vt
section
variable {E : TypeId} {sz : Nat}
/-- a shorter slice of the same row -/
theorem jr_pre {w : World} {base g n cap : Nat} {xs ys : List (List Value)} (h : JR E sz w base (.slice (some ⟨g, 0, none⟩) n cap) (xs ++ ys)) : JR E sz w base (.slice (some ⟨g, 0, none⟩) xs.length cap) xs := by
  obtain ⟨h1, h0, ⟨e, _⟩ | ⟨g', cap', cur, e, hbs, hh, hl, hm, hc, ht⟩⟩ := h
  · cases e
  · injection e with e1 e2 e3
    injection e1 with e1
    injection e1 with e4 _
    subst e4 e3
    rw [List.length_append] at hl
    have hx : ∀ r ∈ xs, r.length = sz := fun r hr => (h1 r (List.mem_append_left _ hr)).1
    refine ⟨fun r hr => h1 r (List.mem_append_left _ hr), by rw [flat_len hx], .inr ⟨g, cap, cur, rfl, hbs, hh, by omega, hm, hc, ?_⟩⟩
    have := congrArg (List.take (xs.length * sz)) ht
    rw [List.flatten_append, List.take_left' (flat_len hx), List.take_take, List.length_append, Nat.add_mul, Nat.min_eq_left (by omega)] at this
    exact this
theorem jr_same {w w' : World} {base : Nat} {v : Value} {xs : List (List Value)} (h : JR E sz w base v xs) (hb : ∀ g, v.ownBlock = some g → w'.heap[g]? = w.heap[g]?) : JR E sz w' base v xs := by
  obtain ⟨h1, h0, ⟨rfl, e⟩ | ⟨g', cap', cur, rfl, hbs, hh, hr⟩⟩ := h
  · exact ⟨h1, h0, .inl ⟨rfl, e⟩⟩
  · exact ⟨h1, h0, .inr ⟨g', cap', cur, rfl, hbs, (hb g' rfl).trans hh, hr⟩⟩
/-- what an append of one element leaves -/
structure AppPostR (E : TypeId) (sz : Nat) (w : World) (base : Nat) (v : Value) (xs : List (List Value)) (r0 : List Value) (v' : Value) (w' : World) : Prop where
  row : JR E sz w' base v' (xs ++ [r0])
  old : JR E sz w' base v xs
  grown : w.grownBy w' v.ownBlock
  way : (∃ g cap, v = .slice (some ⟨g, 0, none⟩) xs.length cap ∧ v' = .slice (some ⟨g, 0, none⟩) (xs.length + 1) cap) ∨ ((∃ h, v'.ownBlock = some h ∧ w.heap.size ≤ h) ∧ w.grownBy w' none)
variable {S : TypeId} {z : Value} {by_ : Nat}
theorem run_append_keepR (hS : Try.prog.underlying S = some (.slice E)) (hE : (Try.prog.info? E).map (fun i => (i.zero, i.size, i.bytes)) = some (some z, sz, by_)) (hz : z.cells.size = sz) (hsz : 0 < sz) (ty : TypeId) (w : World) (base : Nat) (v : Value) (xs : List (List Value)) (hJ : JR E sz w base v xs) (ad : Addr) (c : Nat) (r0 : List Value) (hr0 : r0.length = sz) (hu : ∀ j u, r0[j]? = some u → w.cell? (ad.add j) = some u) (h1 : ∀ u ∈ r0, u.oneCell' = true) (hb : (xs.length + 1) * by_ ≤ 140737488355328) (hb2 : xs.length + 1 ≤ maxLen) (hbase : base ≤ w.heap.size) :
    ∃ a' cap w', (Builtin.append_ #[S, S] ty #[v, .slice (some ad) 1 c]).run Try.prog w = .ok (.slice a' (xs.length + 1) cap) w' ∧ AppPostR E sz w base v xs r0 (.slice a' (xs.length + 1) cap) w' := by
  obtain ⟨i0, hi, hz0, hz1, hz2⟩ := info_parts hE
  have hall : ∀ r ∈ xs ++ [r0], r.length = sz ∧ ∀ u ∈ r, u.oneCell' = true := by
    intro r hr
    rcases List.mem_append.1 hr with hr | hr
    · exact hJ.1 r hr
    · simp at hr; rw [hr]; exact ⟨hr0, h1⟩
  have hlen : (xs ++ [r0]).length = xs.length + 1 := by simp
  have hfl : (xs ++ [r0]).flatten = xs.flatten ++ r0 := by simp
  have hn1 : r0.length = 1 * sz := by rw [hr0, Nat.one_mul]
  obtain ⟨hx1, h0, ⟨rfl, e⟩ | ⟨g, cap, cur, rfl, hbs, hh, hl, hm, hc, ht⟩⟩ := hJ
  · obtain rfl : xs = [] := List.length_eq_zero_iff.1 e
    obtain ⟨g, cap, w', hr, h2, h3, h4, _⟩ := run_append_lies (P := Try.prog) w S ty base E i0 z sz by_ hS hi hz0 hz1 hz2 hz hsz (.slice none 0 0) 0 [] ⟨by simp, .inl ⟨rfl, rfl⟩⟩ ad 1 c r0 hn1 hu h1 (by omega) (by simpa using hb2) (by simpa using hb) hbase w.heap.size rfl
    refine ⟨_, cap, w', hr, ⟨⟨hall, by rw [hlen, hfl]; exact h2⟩, ⟨by simp, by simp, .inl ⟨rfl, rfl⟩⟩, h3, .inr ⟨⟨g, rfl, ?_⟩, h3⟩⟩⟩
    rcases h4 with h4 | h4
    · cases h4
    · omega
  · by_cases hroom : xs.length + 1 ≤ cap
    · have hown : w.ownsRow base E sz (.slice (some ⟨g, 0, none⟩) xs.length cap) xs.length xs.flatten := ⟨h0, .inr ⟨g, cap, cur, rfl, hbs, hh, hl, hm, hc, ht⟩⟩
      obtain ⟨w', hr, h2, h3⟩ := run_append_fits (P := Try.prog) w base S ty E i0 sz hS hi hz1 g xs.length cap xs.flatten hown ad 1 c r0 hn1 hu h1 hroom
      have hJ' : JR E sz w' base (.slice (some ⟨g, 0, none⟩) (xs.length + 1) cap) (xs ++ [r0]) := ⟨hall, by rw [hlen, hfl]; exact h2⟩
      exact ⟨_, cap, w', hr, ⟨hJ', jr_pre hJ', h3, .inl ⟨g, cap, rfl, rfl⟩⟩⟩
    · have hJ0 : JR E sz w base (.slice (some ⟨g, 0, none⟩) xs.length cap) xs := ⟨hx1, h0, .inr ⟨g, cap, cur, rfl, hbs, hh, hl, hm, hc, ht⟩⟩
      have hx : ∀ r ∈ xs, r.length = sz := fun r hr => (hx1 r hr).1
      obtain ⟨v', w', hr, h2, h3⟩ := run_append_arg_grows (P := Try.prog) w S ty E i0 z sz by_ hS hi hz0 hz1 hz2 hz hsz ⟨g, 0, none⟩ xs.length cap xs.flatten (flat_len hx) (fun j u hj => by
        rw [add_at, Nat.zero_add]
        have hjl : j < xs.length * sz := by rw [← flat_len hx]; exact (List.getElem?_eq_some_iff.1 hj).1
        have hq : j / sz < xs.length := Nat.div_lt_of_lt_mul (by rw [Nat.mul_comm]; exact hjl)
        have hm0 := Nat.mod_lt j hsz
        have hdm : j / sz * sz + j % sz = j := by rw [Nat.mul_comm]; exact Nat.div_add_mod j sz
        have hk : xs[j / sz]? = some xs[j / sz] := List.getElem?_eq_getElem hq
        have hf := flat_at hx (j / sz) _ (j % sz) hk hm0
        rw [hdm, hj] at hf
        have := hJ0.at (j / sz) _ (j % sz) u hk hf.symm
        rwa [hdm] at this) ad 1 c r0 hn1 hu (by omega) hb2 hb
      obtain ⟨g2, cap2, rfl, hg2, hlt2⟩ := h2.form (by omega)
      have hJ2 : JR E sz w' w.heap.size (.slice (some ⟨g2, 0, none⟩) (xs.length + 1) cap2) (xs ++ [r0]) := ⟨hall, by rw [hlen, hfl]; exact h2⟩
      refine ⟨_, cap2, w', hr, ⟨hJ2.lower hbase, hJ0.grownO h3 (fun g e => by simp), ⟨h3.os, h3.tape, h3.output, h3.size, fun k hk _ => h3.block k hk (by simp)⟩, .inr ⟨⟨g2, rfl, hJ2.blk_ge g2 rfl⟩, h3⟩⟩⟩
theorem wpList_append_keepR (hS : Try.prog.underlying S = some (.slice E)) (hE : (Try.prog.info? E).map (fun i => (i.zero, i.size, i.bytes)) = some (some z, sz, by_)) (hz : z.cells.size = sz) (hsz : 0 < sz) (w : World) {ops : Array Oper} {rest : List Oper} {o : Oper} {a : Act} {Q : Exit → Act → World → Prop} (hgd : o.guard = none) (s x : Operand)
    (ho : o.op = .call { callee := .builtin .append, args := #[s, x], argTypes := #[S, S] })
    (base : Nat) (v : Value) (xs : List (List Value)) (ad : Addr) (c : Nat) (r0 : List Value) (hs : a.eval s = v) (hx : a.eval x = .slice (some ad) 1 c) (hJ : JR E sz w base v xs) (hr0 : r0.length = sz) (hu : ∀ j u, r0[j]? = some u → w.cell? (ad.add j) = some u) (h1 : ∀ u ∈ r0, u.oneCell' = true) (n : Nat) (hn : xs.length + 1 = n) (hb : n * by_ ≤ 140737488355328) (hb2 : n ≤ maxLen) (hbase : base ≤ w.heap.size)
    (h : ∀ a' cap w', AppPostR E sz w base v xs r0 (.slice a' n cap) w' → wpList Try.prog ops Q rest (a.put o.dst (.slice a' n cap)) w') : wpList Try.prog ops Q (o :: rest) a w := by
  subst hn
  refine wpList_plain hgd fun K hK => ?_
  obtain ⟨a', cap, w', hr, hp⟩ := run_append_keepR hS hE hz hsz o.type w base v xs hJ ad c r0 hr0 hu h1 hb hb2 hbase
  unfold Oper.wp execOp
  simp only [ho, resolve, invoke, builtin, Sem.run_bind, Sem.run_pure, Result.andThen_ok, List.map_toArray, List.map_cons, List.map_nil, hs, hx, hr]
  exact hK _ _ (h a' cap w' hp)
/-- a loop of such appends, begun with v0 in the world W: k elements more -/
structure ExtR (E : TypeId) (sz : Nat) (W : World) (base : Nat) (v0 : Value) (xs : List (List Value)) (r0 : List Value) (k : Nat) (v : Value) (w : World) : Prop where
  row : JR E sz w base v (xs ++ List.replicate k r0)
  old : JR E sz w base v0 xs
  os : w.os = W.os
  tape : w.tape = W.tape
  output : w.output = W.output
  size : W.heap.size ≤ w.heap.size
  block : ∀ b, b < W.heap.size → some b ≠ v0.ownBlock → w.heap[b]? = W.heap[b]?
  way : (∃ g cap, v0 = .slice (some ⟨g, 0, none⟩) xs.length cap ∧ v = .slice (some ⟨g, 0, none⟩) (xs.length + k) cap) ∨ (k = 0 ∧ v = v0) ∨ ∃ h, v.ownBlock = some h ∧ W.heap.size ≤ h
theorem ExtR.start {W : World} {base : Nat} {v0 : Value} {xs : List (List Value)} (h : JR E sz W base v0 xs) (r0 : List Value) : ExtR E sz W base v0 xs r0 0 v0 W :=
  ⟨by simpa using h, h, rfl, rfl, rfl, Nat.le_refl _, fun _ _ _ => rfl, .inr (.inl ⟨rfl, rfl⟩)⟩
theorem ExtR.step {W w w' : World} {base : Nat} {v0 v v' : Value} {xs : List (List Value)} {r0 : List Value} {k : Nat} {o : Obj} (hx : JR E sz W base v0 xs) (h : ExtR E sz W base v0 xs r0 k v w) (hp : AppPostR E sz (w.alloc o) base v (xs ++ List.replicate k r0) r0 v' w') : ExtR E sz W base v0 xs r0 (k + 1) v' w' := by
  have hrow : JR E sz w' base v' (xs ++ List.replicate (k + 1) r0) := by
    rw [List.replicate_succ', ← List.append_assoc]; exact hp.row
  have hsz : (w.alloc o).heap.size = w.heap.size + 1 := by simp
  have hal : ∀ b, b < w.heap.size → (w.alloc o).heap[b]? = w.heap[b]? := fun b hb => ((Below.refl w.heap.size w).alloc (Nat.le_refl _) o).block b hb
  have hv0 : ∀ g, v0.ownBlock = some g → g < W.heap.size := fun g e => hx.blk_lt g e
  have hold : JR E sz (w.alloc o) base v0 xs := jr_same h.old fun g e => hal g (h.old.blk_lt g e)
  have hvb : ∀ b, b < W.heap.size → some b ≠ v0.ownBlock → some b ≠ v.ownBlock := by
    intro b hb hne
    rcases h.way with ⟨g, cap, e1, e2⟩ | ⟨_, e⟩ | ⟨g, e, hg⟩
    · rw [e1] at hne; rw [e2]; exact hne
    · rw [e]; exact hne
    · rw [e]; intro q; injection q with q; omega
  have hblk : ∀ b, b < W.heap.size → some b ≠ v0.ownBlock → w'.heap[b]? = W.heap[b]? := by
    intro b hb hne
    have h1 := hp.grown.block b (by rw [hsz]; have := h.size; omega) (hvb b hb hne)
    rw [h1, hal b (by have := h.size; omega), h.block b hb hne]
  refine ⟨hrow, ?_, hp.grown.os.trans h.os, hp.grown.tape.trans h.tape, hp.grown.output.trans h.output, by have := hp.grown.size; have := h.size; omega, hblk, ?_⟩
  · rcases h.way with ⟨g, cap, e1, e2⟩ | ⟨hk, e⟩ | ⟨g, e, hg⟩
    · rw [e1]
      have := hp.old
      rw [e2] at this
      exact jr_pre this
    · subst hk
      have := hp.old
      rw [e] at this
      simpa using this
    · refine hold.grownO hp.grown fun g' e' q => ?_
      rw [e] at q
      injection q with q
      have := hv0 g' e'
      omega
  · rcases hp.way with ⟨g, cap, e1, e2⟩ | ⟨⟨g, e, hg⟩, _⟩
    · have hl : (xs ++ List.replicate k r0).length = xs.length + k := by simp
      rw [hl] at e1 e2
      rcases h.way with ⟨g2, cap2, f1, f2⟩ | ⟨hk, f⟩ | ⟨g2, f, hg2⟩
      · left
        rw [e1] at f2
        injection f2 with f3 f4 f5
        exact ⟨g, cap, by rw [f1, ← f3, f5], e2⟩
      · subst hk
        left
        exact ⟨g, cap, by rw [← f, e1]; simp, e2⟩
      · right; right
        rw [e1] at f
        exact ⟨g2, by rw [e2]; exact f, hg2⟩
    · right; right
      exact ⟨g, e, by rw [hsz] at hg; have := h.size; omega⟩
end
end Os
end Go.Proofs.Ytifjjoobbegpoaa
