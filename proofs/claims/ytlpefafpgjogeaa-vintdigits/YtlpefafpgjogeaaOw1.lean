/-
  THE WALK OF the law's owns: lists that came out are written full, each of a mark of its own, then made longer one by one.
-/
import Derived.Test.YtlpefafpgjogeaaOw0
import Derived.Test.YtlpefafpgjogeaaU2
namespace Go.Proofs.Ytlpefafpgjogeaa
open Go.RowKit
namespace Ow
open Vt
abbrev E8 : TypeId := 5
abbrev ES : TypeId := 22
theorem info_sl : (Try.prog.info? 22).map (fun i => (i.zero, i.size, i.bytes)) = some (some (.slice none 0 0), 1, 24) := by kernel_rfl
theorem JV.ne {E1 E2 : TypeId} {w : World} {b1 b2 : Nat} {v1 v2 : Value} {x1 x2 : List Value} (h1 : JV E1 w b1 v1 x1) (h2 : JV E2 w b2 v2 x2) (hE : E1 ≠ E2) {g : Nat} (hg : v1.ownBlock = some g) : v2.ownBlock ≠ some g := by
  intro hg2
  obtain ⟨_, _, ⟨rfl, _⟩ | ⟨g1, c1, cur1, rfl, _, hh1, _⟩⟩ := h1
  · cases hg
  · obtain ⟨_, _, ⟨rfl, _⟩ | ⟨g2, c2, cur2, rfl, _, hh2, _⟩⟩ := h2
    · cases hg2
    · have e1 : g1 = g := by simpa [Value.ownBlock] using hg
      have e2 : g2 = g := by simpa [Value.ownBlock] using hg2
      rw [e1] at hh1
      rw [e2, hh1] at hh2
      injection hh2 with hh2
      injection hh2 with _ h3 _
      exact hE h3
theorem JV.ne_blk {E1 T : TypeId} {w : World} {b1 X : Nat} {v1 : Value} {x1 cs : List Value} (h1 : JV E1 w b1 v1 x1) (h2 : Blk w X T cs) (hE : E1 ≠ T) {g : Nat} (hg : v1.ownBlock = some g) : g ≠ X := by
  intro e
  obtain ⟨_, _, ⟨rfl, _⟩ | ⟨g1, c1, cur1, rfl, _, hh1, _⟩⟩ := h1
  · cases hg
  · have e1 : g1 = g := by simpa [Value.ownBlock] using hg
    rw [e1, e] at hh1
    have h2' : w.heap[X]? = some (.cells cs.toArray T (0, 0)) := h2
    rw [hh1] at h2'
    injection h2' with h2'
    injection h2' with _ h3 _
    exact hE h3
def nil : Value := .slice none 0 0
/-- the rows: each its owner's, no two the same -/
structure RS (w : World) (base : Nat) (vs : List Value) (f : Nat → List Value) : Prop where
  row : ∀ i, i < vs.length → JV E8 w base (vs.getD i nil) (f i)
  apart : ∀ i j g, i < vs.length → j < vs.length → i ≠ j → (vs.getD i nil).ownBlock = some g → (vs.getD j nil).ownBlock ≠ some g
/-- what is none of the rows is as it was -/
def Kept (w w' : World) (vs : List Value) : Prop := w.heap.size ≤ w'.heap.size ∧ ∀ b, b < w.heap.size → (∀ i, i < vs.length → (vs.getD i nil).ownBlock ≠ some b) → w'.heap[b]? = w.heap[b]?
theorem Kept.refl (w : World) (vs : List Value) : Kept w w vs := ⟨Nat.le_refl _, fun _ _ _ => rfl⟩
theorem Kept.trans {a b c : World} {vs : List Value} (h : Kept a b vs) (k : Kept b c vs) : Kept a c vs := ⟨Nat.le_trans h.1 k.1, fun x hx hn => (k.2 x (Nat.lt_of_lt_of_le hx h.1) hn).trans (h.2 x hx hn)⟩
theorem set_heap (w : World) (g j b : Nat) (u : Value) (h : b ≠ g) : (w.setCell ⟨g, j, none⟩ u).heap[b]? = w.heap[b]? := by
  show (w.heap.modify g _)[b]? = _
  rw [Array.getElem?_modify, if_neg (fun e => h e.symm)]
theorem set_size (w : World) (g j : Nat) (u : Value) : (w.setCell ⟨g, j, none⟩ u).heap.size = w.heap.size := by simp [World.setCell]
/-- one byte of a row is written -/
theorem RS.put {w : World} {base : Nat} {vs : List Value} {f : Nat → List Value} (h : RS w base vs f) {i g n cap j : Nat} (hi : i < vs.length) (hv : vs.getD i nil = .slice (some ⟨g, 0, none⟩) n cap) {u : Value} (hu : u.oneCell' = true) :
    RS (w.setCell ⟨g, j, none⟩ u) base vs (fun t => if t = i then (f i).set j u else f t) ∧ Kept w (w.setCell ⟨g, j, none⟩ u) vs ∧ base ≤ g := by
  have hr := h.row i hi
  rw [hv] at hr
  obtain ⟨hn, _, _, _, hb, _⟩ := hr.at
  refine ⟨⟨fun t ht => ?_, h.apart⟩, ⟨by rw [set_size]; exact Nat.le_refl _, fun b _ hb => set_heap w g j b u fun e => ?_⟩, hb⟩
  · by_cases hti : t = i
    · subst hti
      simp only [if_true]
      rw [hv]
      exact hr.set hn hu
    · simp only [if_neg hti]
      refine (h.row t ht).same fun b hb => set_heap w g j b u fun e => ?_
      refine h.apart t i b ht hi hti hb ?_
      rw [hv, e]; rfl
  · refine hb i hi ?_
    rw [hv, e]; rfl
def mk8 (i : Nat) : Value := .int .u8 ((201 + i : Nat) : Int)
theorem rep_set (k : Nat) (u : Value) (xs : List Value) (h : k < xs.length) : (List.replicate k u ++ xs.drop k).set k u = List.replicate (k + 1) u ++ xs.drop (k + 1) := by
  rw [List.set_append_right _ _ (by simp), List.length_replicate, Nat.sub_self]
  rw [List.drop_eq_getElem_cons h, List.set_cons_zero, List.replicate_succ', List.append_assoc]
  rfl
/-- the rows while they are written full: those ahead of i are, of i the first k bytes -/
def wr_ (f : Nat → List Value) (i k : Nat) : Nat → List Value := fun t => if t < i then List.replicate (f t).length (mk8 t) else if t = i then List.replicate k (mk8 i) ++ (f i).drop k else f t
theorem RS.eq {w : World} {base : Nat} {vs : List Value} {f f' : Nat → List Value} (h : RS w base vs f) (e : ∀ t, t < vs.length → f t = f' t) : RS w base vs f' := ⟨fun i hi => by rw [← e i hi]; exact h.row i hi, h.apart⟩
theorem wr_next (f : Nat → List Value) (i k : Nat) (h : k < (f i).length) (t : Nat) : (if t = i then (wr_ f i k i).set k (mk8 i) else wr_ f i k t) = wr_ f i (k + 1) t := by
  unfold wr_
  by_cases hti : t = i
  · subst hti
    simp only [if_true, Nat.lt_irrefl, if_false]
    exact rep_set k (mk8 t) (f t) h
  · simp only [if_neg hti]
theorem wr_done (f : Nat → List Value) (i k : Nat) (h : k = (f i).length) (t : Nat) : wr_ f i k t = wr_ f (i + 1) 0 t := by
  subst h
  unfold wr_
  rcases Nat.lt_trichotomy t i with q | q | q
  · rw [if_pos q, if_pos (by omega)]
  · subst q
    rw [if_neg (by omega), if_pos rfl, if_pos (by omega), List.drop_length, List.append_nil]
  · rw [if_neg (by omega), if_neg (by omega), if_neg (by omega)]
    by_cases h1 : t = i + 1
    · rw [if_pos h1, h1]; simp
    · rw [if_neg h1]
theorem wr_zero (f : Nat → List Value) (t : Nat) : f t = wr_ f 0 0 t := by
  unfold wr_
  rw [if_neg (by omega)]
  by_cases h : t = 0
  · rw [if_pos h, h]; simp
  · rw [if_neg h]
theorem wr_len (f : Nat → List Value) (i k t : Nat) (h : k ≤ (f i).length) : (wr_ f i k t).length = (f t).length := by
  unfold wr_
  split
  · simp
  · split
    · rename_i e; subst e; simp; omega
    · rfl
theorem getD_at {vs : List Value} {i : Nat} (h : i < vs.length) : vs[i]? = some (vs.getD i nil) := by
  rw [List.getD_eq_getElem?_getD, List.getElem?_eq_getElem h]; rfl
/-- all that is known while the rows are written full -/
structure In1 (w : World) (base gl cl : Nat) (vs : List Value) (f : Nat → List Value) (T : TypeId) (wr : World) (i k : Nat) : Prop where
  rows : RS wr base vs (wr_ f i k)
  list : JV ES wr base (.slice (some ⟨gl, 0, none⟩) vs.length cl) vs
  box : Blk wr w.heap.size T [.slice (some ⟨gl, 0, none⟩) vs.length cl, nil]
  below : Below base w wr
  kept : Kept w wr vs
theorem In1.put {w : World} {base gl cl : Nat} {vs : List Value} {f : Nat → List Value} {T : TypeId} {wr : World} {i k : Nat} (h : In1 w base gl cl vs f T wr i k) (hT : E8 ≠ T) (hi : i < vs.length) (hk : k < (f i).length) {g n c : Nat} (hv : vs.getD i nil = .slice (some ⟨g, 0, none⟩) n c) : In1 w base gl cl vs f T (wr.setCell ⟨g, k, none⟩ (mk8 i)) i (k + 1) := by
  obtain ⟨h1, h2, h3⟩ := h.rows.put (j := k) hi hv (u := mk8 i) rfl
  have hrow := h.rows.row i hi
  rw [hv] at hrow
  have hgl : g ≠ gl := fun e => hrow.ne h.list (by decide) (g := g) rfl (by rw [e]; rfl)
  have hX : g ≠ w.heap.size := hrow.ne_blk h.box hT rfl
  refine ⟨h1.eq fun t _ => wr_next f i k hk t, h.list.same fun b hb => set_heap wr g k b _ ?_, ?_, h.below.setCell h3 _, h.kept.trans h2⟩
  · have : gl = b := by simpa [Value.ownBlock] using hb
    rw [← this]; exact fun e => hgl e.symm
  · show (wr.setCell ⟨g, k, none⟩ (mk8 i)).heap[w.heap.size]? = _
    rw [set_heap wr g k w.heap.size _ (fun e => hX e.symm)]
    exact h.box
/-- a row written full -/
def fu (f : Nat → List Value) (t : Nat) : List Value := List.replicate (f t).length (mk8 t)
/-- all that is known while the rows are made longer -/
structure In2 (w : World) (base gl cl : Nat) (vs : List Value) (f : Nat → List Value) (T : TypeId) (wr : World) (i : Nat) (V2 : Value) (gs : List Value) : Prop where
  rows : RS wr base vs (fu f)
  list : JV ES wr base (.slice (some ⟨gl, 0, none⟩) vs.length cl) vs
  box : Blk wr w.heap.size T [.slice (some ⟨gl, 0, none⟩) vs.length cl, V2]
  long : JV ES wr base V2 gs
  len : gs.length = i
  grow : ∀ t, t < i → JV E8 wr base (gs.getD t nil) (fu f t ++ List.replicate 64 (mk8 t))
  apart : ∀ t s b, t < i → i ≤ s → s < vs.length → (gs.getD t nil).ownBlock = some b → (vs.getD s nil).ownBlock ≠ some b
  fresh : ∀ b, V2.ownBlock = some b → w.heap.size ≤ b
  below : Below base w wr
  kept : Kept w wr vs
theorem getD_snoc {gs : List Value} {v : Value} {i t : Nat} (hl : gs.length = i) : (gs ++ [v]).getD t nil = if t = i then v else gs.getD t nil := by
  rw [List.getD_eq_getElem?_getD, List.getD_eq_getElem?_getD]
  rcases Nat.lt_trichotomy t i with q | q | q
  · rw [if_neg (by omega), List.getElem?_append_left (by omega)]
  · subst q; rw [if_pos rfl, List.getElem?_append_right (by omega), hl, Nat.sub_self]; rfl
  · rw [if_neg (by omega), List.getElem?_append_right (by omega), List.getElem?_eq_none (by simp; omega), List.getElem?_eq_none (by omega)]
theorem In2.step {w : World} {base gl cl : Nat} {vs : List Value} {f : Nat → List Value} {T : TypeId} {W wk w' : World} {i : Nat} {V2 V3 gv : Value} {gs : List Value} {o : Obj} (h : In2 w base gl cl vs f T W i V2 gs) (hT : E8 ≠ T) (hT2 : ES ≠ T) (hgl : gl < w.heap.size) (hbase : base ≤ w.heap.size) (hi : i < vs.length)
    (hx : Ext E8 W base (vs.getD i nil) (fu f i) (mk8 i) 64 gv wk) (hp : AppPost ES (wk.alloc o) base V2 gs gv V3 w') : In2 w base gl cl vs f T (w'.setCell ⟨w.heap.size, 1, none⟩ V3) (i + 1) V3 (gs ++ [gv]) := by
  have hri := h.rows.row i hi
  -- all but v_i's own block is in wk as it was in W
  have k1 : ∀ {E : TypeId} {v : Value} {xs : List Value}, JV E W base v xs → (∀ b, v.ownBlock = some b → (vs.getD i nil).ownBlock ≠ some b) → JV E wk base v xs := fun {E v xs} hv hne => hv.same fun b hb => hx.block b (hv.blk_lt b hb) fun e => hne b hb e.symm
  have hbox : Blk wk w.heap.size T [.slice (some ⟨gl, 0, none⟩) vs.length cl, V2] := (hx.block w.heap.size h.box.lt fun e => hri.ne_blk h.box hT e.symm rfl).trans h.box
  have hlong : JV ES wk base V2 gs := k1 h.long fun b hb => h.long.ne hri (by decide) hb
  have hlist : JV ES wk base (.slice (some ⟨gl, 0, none⟩) vs.length cl) vs := k1 h.list fun b hb => h.list.ne hri (by decide) hb
  have hrows : ∀ t, t < vs.length → JV E8 wk base (vs.getD t nil) (fu f t) := by
    intro t ht
    by_cases e : t = i
    · subst e; exact hx.old
    · exact k1 (h.rows.row t ht) fun b hb => h.rows.apart t i b ht hi e hb
  have hgrow : ∀ t, t < i + 1 → JV E8 wk base ((gs ++ [gv]).getD t nil) (fu f t ++ List.replicate 64 (mk8 t)) := by
    intro t ht
    rw [getD_snoc h.len]
    by_cases e : t = i
    · subst e; rw [if_pos rfl]; exact hx.row
    · rw [if_neg e]
      exact k1 (h.grow t (by omega)) fun b hb => h.apart t i b (by omega) (Nat.le_refl _) hi hb
  -- and in w'' as in wk, but for the long list and the box
  have hal : ∀ b, b < wk.heap.size → (wk.alloc o).heap[b]? = wk.heap[b]? := fun b hb => ((Below.refl wk.heap.size wk).alloc (Nat.le_refl _) o).block b hb
  have hsz : (wk.alloc o).heap.size = wk.heap.size + 1 := by simp
  have k2 : ∀ {E : TypeId} {v : Value} {xs : List Value}, E ≠ T → JV E wk base v xs → (∀ b, v.ownBlock = some b → V2.ownBlock ≠ some b) → JV E (w'.setCell ⟨w.heap.size, 1, none⟩ V3) base v xs := by
    intro E v xs hE hv hne
    refine hv.same fun b hb => ?_
    have hlt := hv.blk_lt b hb
    rw [set_heap w' w.heap.size 1 b _ (hv.ne_blk hbox hE hb), hp.grown.block b (by rw [hsz]; omega) (fun e => hne b hb e.symm), hal b hlt]
  have hbox' : Blk w' w.heap.size T [.slice (some ⟨gl, 0, none⟩) vs.length cl, V2] := by
    refine (hp.grown.block w.heap.size (by rw [hsz]; have := hbox.lt; omega) (fun e => hlong.ne_blk hbox hT2 e.symm rfl)).trans ?_
    exact (hal w.heap.size hbox.lt).trans hbox
  have hglV : ∀ b, (Value.slice (some ⟨gl, 0, none⟩) vs.length cl).ownBlock = some b → V2.ownBlock ≠ some b := by
    intro b hb e
    have h1 : gl = b := by simpa [Value.ownBlock] using hb
    have := h.fresh b e
    omega
  refine ⟨⟨fun t ht => k2 hT (hrows t ht) fun b hb => (hrows t ht).ne hlong (by decide) hb, h.rows.apart⟩, k2 hT2 hlist hglV, ?_, ?_, by simp [h.len], fun t ht => k2 hT (hgrow t ht) fun b hb => (hgrow t ht).ne hlong (by decide) hb, ?_, ?_, ?_, ?_⟩
  · have := hbox'.set (j := 1) V3
    exact this
  · refine hp.row.same fun b hb => set_heap w' w.heap.size 1 b _ ?_
    exact hp.row.ne_blk hbox' hT2 hb
  · intro t s b ht hs hsl hb
    rw [getD_snoc h.len] at hb
    by_cases e : t = i
    · subst e
      rw [if_pos rfl] at hb
      rcases hx.way with ⟨g, cap, e1, e2⟩ | ⟨e1, _⟩ | ⟨g, e1, e2⟩
      · refine h.rows.apart t s b hi hsl (by omega) ?_
        rw [e2] at hb
        rw [e1]; exact hb
      · omega
      · intro q
        rw [e1] at hb
        injection hb with hb
        have := (h.rows.row s hsl).blk_lt b q
        omega
    · rw [if_neg e] at hb
      exact h.apart t s b (by omega) (by omega) hsl hb
  · intro b hb
    rcases hp.way with ⟨g, cap, e1, e2⟩ | ⟨⟨g, e1, e2⟩, _⟩
    · refine h.fresh b ?_
      rw [e1]
      rw [e2] at hb
      exact hb
    · rw [e1] at hb
      injection hb with hb
      have h1 := h.kept.1
      have h2 := hx.size
      rw [hsz] at e2
      omega
  · have h1 := h.kept.1
    have h2 := hx.size
    have hb1 : Below base W wk := ⟨hx.os, hx.tape, hx.output, hx.size, fun b hb => hx.block b (by omega) (fun e => by have := hri.blk_ge b e.symm; omega)⟩
    have hb2 : Below base W (wk.alloc o) := hb1.alloc (by omega) o
    have hb3 : Below base W w' := hb2.grown hp.grown (by rw [hsz]; omega) fun q hq => hlong.blk_ge q hq
    exact h.below.trans (hb3.setCell hbase _)
  · have h1 := h.kept.1
    have h2 := hx.size
    have h3 := hp.grown.size
    refine ⟨by rw [set_size]; omega, fun b hb hn => ?_⟩
    rw [set_heap w' w.heap.size 1 b _ (by omega), hp.grown.block b (by rw [hsz]; omega) (fun e => by have := h.fresh b e.symm; omega), hal b (by omega), hx.block b (by omega) (fun e => hn i hi e.symm), h.kept.2 b hb hn]
theorem In2.at {w : World} {base gl cl : Nat} {vs : List Value} {f : Nat → List Value} {T : TypeId} {W wk : World} {i k : Nat} {V2 gv : Value} {gs : List Value} (h : In2 w base gl cl vs f T W i V2 gs) (hT : E8 ≠ T) (hi : i < vs.length) (hx : Ext E8 W base (vs.getD i nil) (fu f i) (mk8 i) k gv wk) : Blk wk w.heap.size T [.slice (some ⟨gl, 0, none⟩) vs.length cl, V2] ∧ JV ES wk base V2 gs := by
  have hri := h.rows.row i hi
  refine ⟨(hx.block w.heap.size h.box.lt fun e => hri.ne_blk h.box hT e.symm rfl).trans h.box, h.long.same fun b hb => hx.block b (h.long.blk_lt b hb) fun e => h.long.ne hri (by decide) hb e.symm⟩
theorem box_after {base X : Nat} {T : TypeId} {wk w' : World} {V2 V3 gv : Value} {gs cs : List Value} {o : Obj} (hbox : Blk wk X T cs) (hlong : JV ES wk base V2 gs) (hT2 : ES ≠ T) (hp : AppPost ES (wk.alloc o) base V2 gs gv V3 w') : Blk w' X T cs := by
  have hsz : (wk.alloc o).heap.size = wk.heap.size + 1 := by simp
  refine (hp.grown.block X (by rw [hsz]; have := hbox.lt; omega) (fun e => hlong.ne_blk hbox hT2 e.symm rfl)).trans ?_
  exact (((Below.refl wk.heap.size wk).alloc (Nat.le_refl _) o).block X hbox.lt).trans hbox
set_option maxRecDepth 100000 in
set_option maxHeartbeats 1000000 in
theorem owns_is (w : World) (base gl cl : Nat) (vs : List Value) (f : Nat → List Value) (hL : JV ES w base (.slice (some ⟨gl, 0, none⟩) vs.length cl) vs) (hR : RS w base vs f) (hm : vs.length ≤ 40) (hf : ∀ i, i < vs.length → (f i).length ≤ 140737488300000) (hbase : base ≤ w.heap.size) :
    Calls Try.prog 15 #[.slice (some ⟨gl, 0, none⟩) vs.length cl] w fun e w' => e = .returned (.pointer (some ⟨w.heap.size, 0, none⟩)) ∧ ∃ V2 gs, In2 w base gl cl vs f 58 w' vs.length V2 gs := by
  have HL := hd hL
  have HR := hd hR
  obtain ⟨_, hlc, hcm, hgl, _, _⟩ := hL.at
  unfold maxLen at hcm
  clear hL hR
  go_enter Try.func15, Try.ntmps15
  go_wp2_with fail
  have HS1 : Hid (In1 w base gl cl vs f 58 (w.alloc (.cells #[.slice (some ⟨gl, 0, none⟩) vs.length cl, .slice none 0 0] 58)) 0 0) := by
    refine ⟨⟨fun t ht => ?_, HR.out.apart⟩, HL.out.below ((Below.refl _ _).alloc (Nat.le_refl _) _), Blk.new w _ _, (Below.refl _ _).alloc hbase _, by simp, fun b hb _ => ((Below.refl w.heap.size w).alloc (Nat.le_refl _) _).block b hb⟩
    rw [← wr_zero]
    exact (HR.out.row t ht).below ((Below.refl _ _).alloc (Nat.le_refl _) _)
  go_loopw [4] (fun x wr => ∃ i : Nat, i ≤ vs.length ∧ x = .int .i64 (i : Int) ∧ In1 w base gl cl vs f 58 wr i 0) (fun x _ => vs.length - (intOf x).toNat)
  case atStart => exact ⟨0, by omega, rfl, HS1.out⟩
  case round =>
    obtain ⟨i, hi, rfl, hI⟩ := hrel
    have HI := hd hI
    clear hI HS1
    by_cases hlt : i < vs.length
    · have hii : ((i : Nat) : Int) < (vs.length : Int) := by omega
      have HLT : Hid (i + 1 ≤ vs.length) := hlt
      have hfl := hf i hlt
      clear hi
      go_wp2_with fail
      go_loopw [5] (fun x wr => ∃ k : Nat, k ≤ (f i).length ∧ x = .int .i64 (k : Int) ∧ In1 w base gl cl vs f 58 wr i k) (fun x _ => (f i).length - (intOf x).toNat)
      case atStart => exact ⟨0, by omega, rfl, HI.out⟩
      case round =>
        obtain ⟨k, hk, rfl, hI⟩ := hrel
        have HI2 := hd hI
        have hcl := (hI.list.at.2.2.2.2.2 i _ (getD_at hlt)).1
        have hrow := hI.rows.row i hlt
        clear hI
        obtain ⟨a3, c3, hv3, hle3⟩ := hrow.shape
        rw [wr_len f i k i hk] at hv3 hle3
        have HV3 := hd hv3
        rw [hv3] at hcl
        by_cases hkl : k < (f i).length
        · have hki : ((k : Nat) : Int) < ((f i).length : Int) := by omega
          have HKL : Hid (k + 1 ≤ (f i).length) := hkl
          rw [hv3] at hrow
          have hne : wr_ f i k i ≠ [] := by intro e; have := wr_len f i k i hk; rw [e] at this; simp at this; omega
          cases a3 with
          | none =>
            obtain ⟨_, _, ⟨e1, e2⟩ | ⟨g, cap, cur, e1, _⟩⟩ := hrow
            · exact absurd (List.length_eq_zero_iff.1 e2) hne
            · cases e1
          | some ad =>
            obtain ⟨g, hg⟩ : ∃ g, ad = ⟨g, 0, none⟩ := by
              obtain ⟨_, _, ⟨e1, e2⟩ | ⟨g, cap, cur, e1, _⟩⟩ := hrow
              · cases e1
              · injection e1 with e1; injection e1 with e1; exact ⟨g, e1⟩
            subst hg
            obtain ⟨_, _, hcm3, hg3, _, hcells⟩ := hrow.at
            obtain ⟨u, hu⟩ : ∃ u, (wr_ f i k i)[k]? = some u := ⟨_, List.getElem?_eq_getElem (by rw [wr_len f i k i hk]; exact hkl)⟩
            obtain ⟨hck, hfk⟩ := hcells k u hu
            have HNX := hd (HI2.out.put (by decide) hlt hkl HV3.out)
            clear hrow hcells hu hv3 hne hk
            unfold maxLen at hcm3
            go_wp2_with fail
            exact ⟨⟨k + 1, HKL.out, by go_num, HNX.out⟩, by have := HKL.out; simp [intOf]; omega⟩
        · have hki : ¬ ((k : Nat) : Int) < ((f i).length : Int) := by omega
          have HNX : Hid (In1 w base gl cl vs f 58 wr (i + 1) 0) := by
            obtain ⟨h1, h2, h3, h4, h5⟩ := HI2.out
            exact ⟨h1.eq fun t _ => wr_done f i k (by omega) t, h2, h3, h4, h5⟩
          clear hrow hv3 hkl hk
          go_wp2_with fail
          exact ⟨⟨i + 1, HLT.out, by go_num, HNX.out⟩, by have := HLT.out; simp [intOf]; omega⟩
    · have hii : ¬ ((i : Nat) : Int) < (vs.length : Int) := by omega
      have HN2 : Hid (In2 w base gl cl vs f 58 wr 0 nil []) := by
        obtain ⟨h1, h2, h3, h4, h5⟩ := HI.out
        refine ⟨h1.eq fun t ht => ?_, h2, h3, ⟨by simp, rfl, .inl ⟨rfl, rfl⟩⟩, rfl, fun t ht => by omega, fun t s b ht => by omega, (fun b hb => by cases hb), h4, h5⟩
        unfold wr_ fu
        rw [if_pos (by omega)]
      clear hlt hi
      go_wp2_with fail
      go_loopw [6] (fun x wr => ∃ (i : Nat) (V2 : Value) (gs : List Value), i ≤ vs.length ∧ x = .int .i64 (i : Int) ∧ In2 w base gl cl vs f 58 wr i V2 gs) (fun x _ => vs.length - (intOf x).toNat)
      case atStart => exact ⟨0, nil, [], by omega, rfl, HN2.out⟩
      case round =>
        obtain ⟨i, V2, gs, hi, rfl, hI⟩ := hrel
        obtain ⟨wb, hww⟩ : ∃ wb, wb = wr := ⟨_, rfl⟩
        subst hww
        have HI2 := hd hI
        by_cases hlt : i < vs.length
        · have hii : ((i : Nat) : Int) < (vs.length : Int) := by omega
          have HLT : Hid (i + 1 ≤ vs.length) := hlt
          have hfl := hf i hlt
          have hcl := (hI.list.at.2.2.2.2.2 i _ (getD_at hlt)).1
          have HROW := hd (hI.rows.row i hlt)
          have HWS := hd (Nat.le_trans hbase hI.kept.1)
          clear hI hi
          obtain ⟨a3, c3, hv3, hle3⟩ := HROW.out.shape
          have hfu : (fu f i).length = (f i).length := by unfold fu; simp
          rw [hfu] at hv3 hle3
          have HV3 := hd hv3
          rw [hv3] at hcl
          clear hv3 hfu
          go_wp2_with fail
          go_loopw [7, 8] (fun gv x wk => ∃ (k : Nat) (a4 : Option Addr) (c4 : Nat), k ≤ 64 ∧ x = .int .i64 (k : Int) ∧ gv = .slice a4 ((f i).length + k) c4 ∧ Ext E8 wb base (vs.getD i nil) (fu f i) (mk8 i) k gv wk) (fun _ x _ => 64 - (intOf x).toNat)
          case atStart => exact ⟨0, a3, c3, by omega, rfl, rfl, by have := Ext.start HROW.out (mk8 i); rw [HV3.out] at this ⊢; exact this⟩
          case round =>
            obtain ⟨k, a4, c4, hk, rfl, rfl, hX⟩ := hrel
            have HX := hd hX
            have hwk := hX.size
            have hrl : (fu f i ++ List.replicate k (mk8 i)).length = (f i).length + k := by unfold fu; simp
            have HRL := hd hrl
            have HJA := hd (fun o => hX.row.below ((Below.refl wr.heap.size wr).alloc (Nat.le_refl _) o))
            clear hX hrl
            by_cases hk64 : k < 64
            · have hki : ((k : Nat) : Int) < 64 := by omega
              go_wp2_with (at_builtin; refine wpList_append_keep (E := E8) (S := 22) (z := .int .u8 0) (by_ := 1) Try.underlying22 info_u8 rfl _ rfl _ _ rfl base _ (fu f i ++ List.replicate k (mk8 i)) ⟨wr.heap.size, 0, none⟩ 1 (mk8 i) rfl rfl (HJA.out _) (World.cell?_alloc_new _ _ _ _) rfl ((f i).length + k + 1) (by rw [HRL.out]) (by omega) (by unfold maxLen; omega) (by have := HWS.out; simp; omega) ?_; intro a5 c5 w5 hP; have HP := hd hP; clear hP)
              exact ⟨⟨k + 1, a5, c5, by omega, by go_num, rfl, HX.out.step HROW.out HP.out⟩, by simp [intOf]; omega⟩
            · have hki : ¬ ((k : Nat) : Int) < 64 := by omega
              have e64 : k = 64 := by omega
              have HX64 : Hid (Ext E8 wb base (vs.getD i nil) (fu f i) (mk8 i) 64 (.slice a4 ((f i).length + k) c4) wr) := by
                have := HX.out
                rw [e64] at this ⊢
                exact this
              obtain ⟨hbx, hlg⟩ := HI2.out.at (by decide) hlt HX64.out
              have HBX := hd hbx
              have HLG := hd hlg
              have HGL := hd HI2.out.len
              have hc1 := hbx.cell 1 V2 rfl
              have hc1f := hbx.frozen 1
              have hXs := hbx.lt
              have HBS : Hid (base ≤ wr.heap.size) := by have := HWS.out; show base ≤ wr.heap.size; omega
              clear hbx hlg hk hk64 e64 HJA HX
              go_wp2_with (at_builtin; refine wpList_append_keep (E := ES) (S := 39) (z := .slice none 0 0) (by_ := 24) Try.underlying39 info_sl rfl _ rfl _ _ rfl base _ gs ⟨wr.heap.size, 0, none⟩ 1 (.slice a4 ((f i).length + k) c4) rfl rfl (HLG.out.below ((Below.refl wr.heap.size wr).alloc (Nat.le_refl _) _)) (World.cell?_alloc_new _ _ _ _) rfl (i + 1) (by rw [HGL.out]) (by omega) (by unfold maxLen; omega) (by have := HBS.out; simp; omega) ?_; intro a6 c6 w6 hP; have HP := hd hP; have hbx6 := box_after HBX.out HLG.out (by decide) hP; have hc6 := hbx6.cell 1 V2 rfl; have hf6 := hbx6.frozen 1; clear hP hbx6)
              exact ⟨⟨i + 1, _, _, HLT.out, by go_num, HI2.out.step (by decide) (by decide) hgl hbase hlt HX64.out HP.out⟩, by have := HLT.out; simp [intOf]; omega⟩
        · have hii : ¬ ((i : Nat) : Int) < (vs.length : Int) := by omega
          have HE : Hid (In2 w base gl cl vs f 58 wb vs.length V2 gs) := by
            have e : i = vs.length := by omega
            have := HI2.out
            rw [e] at this
            exact this
          clear hI hlt hi HI2
          go_wp2_with fail
          go_ret
          exact ⟨rfl, V2, gs, HE.out⟩
/-- what still looks at -/
structure Sti (w : World) (X : Nat) (T : TypeId) (n : Nat → Nat) (m : Nat) : Prop where
  mine : ∃ gl cl ol g2 c2 o2, m ≤ cl ∧ cl ≤ maxLen ∧ m ≤ c2 ∧ c2 ≤ maxLen ∧ w.cell? ⟨X, 0, none⟩ = some (.slice (some ⟨gl, ol, none⟩) m cl) ∧ w.cell? ⟨X, 1, none⟩ = some (.slice (some ⟨g2, o2, none⟩) m c2) ∧
    ∀ i, i < m → ∃ a b c d, w.cell? ⟨gl, ol + i, none⟩ = some (.slice a (n i) b) ∧ w.cell? ⟨g2, o2 + i, none⟩ = some (.slice (some ⟨c, 0, none⟩) (n i + 64) d) ∧ n i ≤ b ∧ b ≤ maxLen ∧ n i + 64 ≤ d ∧ d ≤ maxLen ∧
      (∀ k, k < n i → ∃ g, a = some ⟨g, 0, none⟩ ∧ w.cell? ⟨g, k, none⟩ = some (mk8 i)) ∧ ∀ k, k < n i + 64 → w.cell? ⟨c, k, none⟩ = some (mk8 i)
theorem rep_at {n k : Nat} {u : Value} (h : k < n) : (List.replicate n u)[k]? = some u := by simp [h]
/-- what still looks at, with what tells the blocks apart -/
structure In3 (X base gl cl : Nat) (vs : List Value) (f : Nat → List Value) (T : TypeId) (wr : World) (V2 : Value) (gs : List Value) : Prop where
  rows : ∀ i, i < vs.length → JV E8 wr base (vs.getD i nil) (fu f i)
  list : JV ES wr base (.slice (some ⟨gl, 0, none⟩) vs.length cl) vs
  box : Blk wr X T [.slice (some ⟨gl, 0, none⟩) vs.length cl, V2]
  long : JV ES wr base V2 gs
  len : gs.length = vs.length
  grow : ∀ t, t < vs.length → JV E8 wr base (gs.getD t nil) (fu f t ++ List.replicate 64 (mk8 t))
theorem In2.three {w : World} {base gl cl : Nat} {vs : List Value} {f : Nat → List Value} {T : TypeId} {wr : World} {V2 : Value} {gs : List Value} (h : In2 w base gl cl vs f T wr vs.length V2 gs) : In3 w.heap.size base gl cl vs f T wr V2 gs := ⟨h.rows.row, h.list, h.box, h.long, h.len, h.grow⟩
theorem In3.keep {X base gl cl : Nat} {vs : List Value} {f : Nat → List Value} {T : TypeId} {wr w' : World} {V2 : Value} {gs : List Value} (h : In3 X base gl cl vs f T wr V2 gs) (hb : Below wr.heap.size wr w') : In3 X base gl cl vs f T w' V2 gs :=
  ⟨fun i hi => (h.rows i hi).below hb, h.list.below hb, h.box.keep hb, h.long.below hb, h.len, fun t ht => (h.grow t ht).below hb⟩
/-- a store into a row of another type -/
theorem In3.put {X base gl cl : Nat} {vs : List Value} {f : Nat → List Value} {T E : TypeId} {wr : World} {V2 : Value} {gs xs : List Value} {b g n c j : Nat} {u : Value} (h : In3 X base gl cl vs f T wr V2 gs) (hn : JV E wr b (.slice (some ⟨g, 0, none⟩) n c) xs) (h1 : E ≠ E8) (h2 : E ≠ ES) (h3 : E ≠ T) : In3 X base gl cl vs f T (wr.setCell ⟨g, j, none⟩ u) V2 gs := by
  have k : ∀ {E' : TypeId} {v : Value} {ys : List Value}, E ≠ E' → JV E' wr base v ys → JV E' (wr.setCell ⟨g, j, none⟩ u) base v ys := by
    intro E' v ys hE hv
    refine hv.same fun b' hb' => set_heap wr g j b' u fun e => ?_
    exact hn.ne hv hE (g := g) rfl (by rw [← e]; exact hb')
  refine ⟨fun i hi => k h1 (h.rows i hi), k h2 h.list, ?_, k h2 h.long, h.len, fun t ht => k h1 (h.grow t ht)⟩
  show (wr.setCell ⟨g, j, none⟩ u).heap[X]? = _
  rw [set_heap wr g j X u (fun e => hn.ne_blk h.box h3 rfl e.symm)]
  exact h.box
theorem In3.sti {X base gl cl : Nat} {vs : List Value} {f : Nat → List Value} {T : TypeId} {wr : World} {V2 : Value} {gs : List Value} (h : In3 X base gl cl vs f T wr V2 gs) (hm : 0 < vs.length) : Sti wr X T (fun i => (f i).length) vs.length := by
  obtain ⟨a2, c2, hv2, _⟩ := h.long.shape
  have hgl := h.len
  rw [hgl] at hv2
  have hlong := h.long
  rw [hv2] at hlong
  cases a2 with
  | none =>
    obtain ⟨_, _, ⟨e1, e2⟩ | ⟨g, cap, cur, e1, _⟩⟩ := hlong
    · rw [hgl] at e2; omega
    · cases e1
  | some ad =>
    obtain ⟨g2, hg⟩ : ∃ g, ad = ⟨g, 0, none⟩ := by
      obtain ⟨_, _, ⟨e1, e2⟩ | ⟨g, cap, cur, e1, _⟩⟩ := hlong
      · cases e1
      · injection e1 with e1; injection e1 with e1; exact ⟨g, e1⟩
    subst hg
    obtain ⟨_, hl1, hl2, _, _, hcl⟩ := h.list.at
    obtain ⟨_, hg1, hg2, _, _, hcg⟩ := hlong.at
    refine ⟨gl, cl, 0, g2, c2, 0, hl1, hl2, hg1, hg2, h.box.cell 0 _ rfl, by rw [← hv2]; exact h.box.cell 1 _ rfl, fun i hi => ?_⟩
    have hr := h.rows i hi
    have hg := h.grow i hi
    obtain ⟨a, b, e1, e2⟩ := hr.shape
    have hfl : (fu f i).length = (f i).length := by unfold fu; simp
    rw [hfl] at e1 e2
    obtain ⟨c, d, e3, e4⟩ := hg.shape
    have hgl2 : (fu f i ++ List.replicate 64 (mk8 i)).length = (f i).length + 64 := by unfold fu; simp
    rw [hgl2] at e3 e4
    have c1 := (hcl i _ (getD_at hi)).1
    have c2 := (hcg i _ (getD_at (by rw [hgl]; exact hi))).1
    rw [e1] at c1 hr
    rw [e3] at c2 hg
    have hrep : fu f i ++ List.replicate 64 (mk8 i) = List.replicate ((f i).length + 64) (mk8 i) := by unfold fu; rw [List.replicate_append_replicate]
    obtain ⟨g3, rfl⟩ : ∃ g3, c = some ⟨g3, 0, none⟩ := by
      obtain ⟨_, _, ⟨e1, e2⟩ | ⟨g, cap, cur, e1, _⟩⟩ := hg
      · rw [hgl2] at e2; omega
      · injection e1 with e1; exact ⟨g, e1⟩
    obtain ⟨_, _, hd2, _, _, hcd⟩ := hg.at
    refine ⟨a, b, g3, d, by rw [Nat.zero_add]; exact c1, by rw [Nat.zero_add]; exact c2, e2, ?_, e4, hd2, fun k hk => ?_, fun k hk => ?_⟩
    · obtain ⟨_, _, ⟨e1, e2⟩ | ⟨g, cap, cur, e1, _, _, _, hmx, _⟩⟩ := hr
      · injection e1 with _ _ e5; rw [e5]; exact Nat.zero_le _
      · injection e1 with _ _ e5; rw [e5]; exact hmx
    · obtain ⟨g, rfl⟩ : ∃ g, a = some ⟨g, 0, none⟩ := by
        obtain ⟨_, _, ⟨e1, e2⟩ | ⟨g, cap, cur, e1, _⟩⟩ := hr
        · rw [hfl] at e2; omega
        · injection e1 with e1; exact ⟨g, e1⟩
      exact ⟨g, rfl, (hr.at.2.2.2.2.2 k _ (rep_at hk)).1⟩
    · refine (hcd k _ ?_).1
      rw [hrep]; exact rep_at hk
theorem In2.sti {w : World} {base gl cl : Nat} {vs : List Value} {f : Nat → List Value} {T : TypeId} {wr : World} {V2 : Value} {gs : List Value} (h : In2 w base gl cl vs f T wr vs.length V2 gs) (hm : 0 < vs.length) : Sti wr w.heap.size T (fun i => (f i).length) vs.length := h.three.sti hm
theorem Sti.below {w w' : World} {X : Nat} {T : TypeId} {n : Nat → Nat} {m : Nat} (h : Sti w X T n m) (hb : Below w.heap.size w w') : Sti w' X T n m := by
  have k : ∀ {p : Addr} {v : Value}, w.cell? p = some v → w'.cell? p = some v := fun {p v} hp => by rw [hb.cell (lt_of_cell hp)]; exact hp
  obtain ⟨gl, cl, ol, g2, c2, o2, a1, a2, a3, a4, a5, a6, a7⟩ := h
  refine ⟨gl, cl, ol, g2, c2, o2, a1, a2, a3, a4, k a5, k a6, fun i hi => ?_⟩
  obtain ⟨a, b, c, d, b1, b2, b3, b4, b5, b6, b7, b8⟩ := a7 i hi
  refine ⟨a, b, c, d, k b1, k b2, b3, b4, b5, b6, fun t ht => ?_, fun t ht => k (b8 t ht)⟩
  obtain ⟨g, e, hg⟩ := b7 t ht
  exact ⟨g, e, k hg⟩
end Ow
end Go.Proofs.Ytlpefafpgjogeaa
