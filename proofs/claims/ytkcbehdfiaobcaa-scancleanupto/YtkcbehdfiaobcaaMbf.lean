/-
  A REGION THAT DRAWS ITS ORDER, by an invariant, with operations that their guards pass over. No condition beyond those that the theorem bears.
  A REGION THAT DRAWS ITS ORDER, WITHIN A FENCE, by an invariant, with operations that their guards pass over. No condition beyond those that the theorem bears.
  ScanClean's walk: what is clean stays.
-/
import Derived.Test.YtkcbehdfiaobcaaMbe
import Derived.Test.YtkcbehdfiaobcaaMay
import Derived.Test.YtkcbehdfiaobcaaMbb
import Derived.Test.YtkcbehdfiaobcaaMbd
namespace Go.Proofs.Ytkcbehdfiaobcaa
open Go Go.RowKit
theorem skip_good {P : Program} {o : Oper} {a : Act} {w : World} {Q : Exit → Act → World → Prop} {ops : Array Oper} (good : Value → World → Prop) {X : Prop} (hw : Region.wanted o (yielded ops a.tmps) = true)
    (h : ∀ K : Act → World → Prop, (∀ v w', good v w' → K (a.put o.dst v) w') → o.wp P a w K Q) :
    if Region.wanted o (yielded ops a.tmps) then o.wp P a w (fun a' w' => ∃ v, a' = a.put o.dst v ∧ good v w') Q else X := by
  rw [if_pos hw]
  exact h _ (fun v w' hg => ⟨v, rfl, hg⟩)
theorem skip_no {o : Oper} {f : Nat → Option Bool} {A X : Prop} {j : Nat} {b : Bool} (h : o.guard = some (j, !b)) (hf : f j = some b) (hx : X) : if Region.wanted o f then A else X := by
  rw [if_neg]
  · exact hx
  · unfold Region.wanted; rw [h]; simp [hf]
theorem skip_un {o : Oper} {f : Nat → Option Bool} {A X : Prop} {j : Nat} {b : Bool} (h : o.guard = some (j, b)) (hf : f j = none) (hx : X) : if Region.wanted o f then A else X := by
  rw [if_neg]
  · exact hx
  · unfold Region.wanted; rw [h]; simp [hf]
theorem yielded_un {ops : Array Oper} {t : Array Value} {j d : Nat} (hj : dstOf ops j = some d) (hv : t.getD d undef = undef) : yielded ops t j = none := by
  unfold yielded
  unfold dstOf at hj
  rw [hj]
  simp only [Option.bind_some]
  rw [Array.getD_eq_getD_getElem?] at hv
  cases h : t[d]? with
  | none => rfl
  | some v =>
    rw [h] at hv
    simp only [Option.getD_some] at hv
    subst hv
    rfl
/-- region_inv, where an operation may be passed over by its guard: it yields undef then. 'G i v w': what operation i has yielded, v, is good in the world w; it stays so while the world grows ('W', 'stable'); each operation, its forerunners' yields being good, yields something good ('step'). -/
theorem region_skip {P : Program} {id : Nat} {ops : Array Oper} {Q : Exit → Act → World → Prop} {a0 : Act} {w0 : World} (G : Nat → Value → World → Prop) (W : World → Prop)
    (hm : P.follows .mixedOrders = true) (hd : dstsApart ops a0.tmps.size = true) (hah : aftersBound ops = true) (hW0 : W w0.drew)
    (stable : ∀ i v w w', W w → W w' → Below w.heap.size w w' → G i v w → G i v w')
    (step : ∀ i o, ops[i]? = some o → ∀ a w, W w → a.defers = a0.defers → a.tmps.size = a0.tmps.size →
      (∀ k, (∀ j, j < ops.size → dstOf ops j ≠ some k) → a.tmps.getD k undef = a0.tmps.getD k undef) →
      (∀ e ∈ o.after, Region.binds .any e = true → G e.on (slotOf ops a e.on) w) →
      (if Region.wanted o (yielded ops a.tmps) then o.wp P a w (fun a' w' => ∃ v, a' = a.put o.dst v ∧ Below w.heap.size w w' ∧ W w' ∧ G i v w') Q else G i undef w))
    (done : ∀ a w, W w → a.defers = a0.defers → a.tmps.size = a0.tmps.size →
      (∀ k, (∀ j, j < ops.size → dstOf ops j ≠ some k) → a.tmps.getD k undef = a0.tmps.getD k undef) →
      (∀ i, i < ops.size → G i (slotOf ops a i) w) → Q .normal a w) :
    (Code.region id ops true).wp P Q a0 w0 := by
  refine wp_region_any hm ?_
  refine wpAny_inv (fun L a w => L.size = ops.size ∧ W w ∧ a.defers = a0.defers ∧ a.tmps.size = a0.tmps.size ∧
      (∀ k, (∀ j, j < ops.size → dstOf ops j ≠ some k) → a.tmps.getD k undef = a0.tmps.getD k undef) ∧
      (∀ i, i < ops.size → L.getD i false = true → G i (slotOf ops a i) w)) (fun L a w h => h.1) ?_ ?_ _ _ _ _ ?_ ?_
  · rintro L a w i ⟨h1, h2, h3, h4, h5, h6⟩ hi
    obtain ⟨o, ho, hlt, hL, haf⟩ := ready_spec hi
    obtain ⟨d, hdi, hdn, hdj⟩ := dsts_spec hd hlt
    have hod : o.dst = some d := by simpa [dstOf, ho] using hdi
    have hst := step i o ho a w h2 h3 h4 h5 (fun e he hb => h6 e.on (by
      have := haf e he hb
      rcases Nat.lt_or_ge e.on ops.size with h' | h'
      · exact h'
      · rw [Array.getD_eq_getD_getElem?, Array.getElem?_eq_none (by omega)] at this; simp at this) (haf e he hb))
    have fin : ∀ v w', Below w.heap.size w w' → W w' → G i v w' → (L.setIfInBounds i true).size = ops.size ∧ W w' ∧ (a.put o.dst v).defers = a0.defers ∧ (a.put o.dst v).tmps.size = a0.tmps.size ∧
        (∀ k, (∀ j, j < ops.size → dstOf ops j ≠ some k) → (a.put o.dst v).tmps.getD k undef = a0.tmps.getD k undef) ∧
        (∀ j, j < ops.size → (L.setIfInBounds i true).getD j false = true → G j (slotOf ops (a.put o.dst v) j) w') := by
      intro v w' hb hW' hG
      have hda : d < a.tmps.size := by omega
      rw [hod]
      refine ⟨by rw [Array.size_setIfInBounds]; exact h1, hW', by simp only [Act.put]; exact h3, by simp only [Act.put, Array.size_setIfInBounds]; exact h4, ?_, ?_⟩
      · intro k hk
        rw [getD_put _ _ _ _ hda, if_neg (fun e => hk i hlt (by rw [e]; exact hdi))]
        exact h5 k hk
      · intro j hj hLj
        by_cases e : j = i
        · subst e
          unfold slotOf
          rw [hdi, Option.getD_some, getD_put _ _ _ _ hda, if_pos rfl]
          exact hG
        · obtain ⟨dj, hdj1, hdj2, hdj3⟩ := dsts_spec hd hj
          have hne : dj ≠ d := fun e2 => hdj j hj e (by rw [← e2]; exact hdj1)
          unfold slotOf
          rw [hdj1, Option.getD_some, getD_put _ _ _ _ hda, if_neg hne]
          have hLj' : L.getD j false = true := by
            rw [Array.getD_eq_getD_getElem?, Array.getElem?_setIfInBounds_ne (by omega)] at hLj
            rw [Array.getD_eq_getD_getElem?]; exact hLj
          have := h6 j hj hLj'
          unfold slotOf at this
          rw [hdj1, Option.getD_some] at this
          exact stable j _ w w' h2 hW' hb this
    unfold wpOp
    rw [ho]
    split at hst
    · rename_i hw
      simp only [hw, if_true]
      refine .inl (Oper.wp_mono ?_ hst)
      rintro a' w' ⟨v, rfl, hb, hW', hG⟩
      exact fin v w' hb hW' hG
    · rename_i hw
      simp only [hw]
      exact fin undef w (Below.refl _ _) h2 hst
  · rintro L a w ⟨h1, h2, h3, h4, h5, h6⟩ hr
    exact done a w h2 h3 h4 h5 fun i hi => h6 i hi (all_listedB hah h1 hr i hi)
  · refine ⟨by simp, hW0, rfl, rfl, fun _ _ => rfl, fun i hi h => ?_⟩
    rw [Array.getD_eq_getD_getElem?, Array.getElem?_replicate] at h
    simp [hi] at h
  · unfold left
    exact Nat.le_trans (List.countP_le_length) (by simp)
end Go.Proofs.Ytkcbehdfiaobcaa
namespace Go.Proofs.Ytkcbehdfiaobcaa
open Go Go.RowKit
theorem skip_goodIn {F : Fence} {n : Nat} {P : Program} {o : Oper} {a : Act} {w : World} {Q : Exit → Act → World → Prop} {ops : Array Oper} (good : Value → World → Prop) {X : Prop} (hw : Region.wanted o (yielded ops a.tmps) = true)
    (h : ∀ K : Act → World → Prop, (∀ v w', good v w' → K (a.put o.dst v) w') → o.wpIn F n P a w K Q) :
    if Region.wanted o (yielded ops a.tmps) then o.wpIn F n P a w (fun a' w' => ∃ v, a' = a.put o.dst v ∧ good v w') Q else X := by
  rw [if_pos hw]
  exact h _ (fun v w' hg => ⟨v, rfl, hg⟩)
theorem region_skipIn {F : Fence} {n : Nat} {P : Program} {id : Nat} {ops : Array Oper} {Q : Exit → Act → World → Prop} {a0 : Act} {w0 : World} (G : Nat → Value → World → Prop) (W : World → Prop) (hF : ∀ f, F.fn f)
    (hm : P.follows .mixedOrders = true) (hd : dstsApart ops a0.tmps.size = true) (hah : aftersBound ops = true) (hW0 : W w0.drew)
    (stable : ∀ i v w w', W w → W w' → Below w.heap.size w w' → G i v w → G i v w')
    (step : ∀ i o, ops[i]? = some o → ∀ a w, W w → a.defers = a0.defers → a.tmps.size = a0.tmps.size →
      (∀ k, (∀ j, j < ops.size → dstOf ops j ≠ some k) → a.tmps.getD k undef = a0.tmps.getD k undef) →
      (∀ e ∈ o.after, Region.binds .any e = true → G e.on (slotOf ops a e.on) w) →
      (if Region.wanted o (yielded ops a.tmps) then o.wpIn F n P a w (fun a' w' => ∃ v, a' = a.put o.dst v ∧ Below w.heap.size w w' ∧ W w' ∧ G i v w') Q else G i undef w))
    (done : ∀ a w, W w → a.defers = a0.defers → a.tmps.size = a0.tmps.size →
      (∀ k, (∀ j, j < ops.size → dstOf ops j ≠ some k) → a.tmps.getD k undef = a0.tmps.getD k undef) →
      (∀ i, i < ops.size → G i (slotOf ops a i) w) → Q .normal a w) :
    (Code.region id ops true).wpIn F n P Q a0 w0 := by
  refine wpIn_region_any hm ?_
  refine wpAnyIn_inv (fun L a w => L.size = ops.size ∧ W w ∧ a.defers = a0.defers ∧ a.tmps.size = a0.tmps.size ∧
      (∀ k, (∀ j, j < ops.size → dstOf ops j ≠ some k) → a.tmps.getD k undef = a0.tmps.getD k undef) ∧
      (∀ i, i < ops.size → L.getD i false = true → G i (slotOf ops a i) w)) (fun L a w h => h.1) ?_ ?_ _ _ _ _ ?_ ?_
  · rintro L a w i ⟨h1, h2, h3, h4, h5, h6⟩ hi
    obtain ⟨o, ho, hlt, hL, haf⟩ := ready_spec hi
    obtain ⟨d, hdi, hdn, hdj⟩ := dsts_spec hd hlt
    have hod : o.dst = some d := by simpa [dstOf, ho] using hdi
    have hst := step i o ho a w h2 h3 h4 h5 (fun e he hb => h6 e.on (by
      have := haf e he hb
      rcases Nat.lt_or_ge e.on ops.size with h' | h'
      · exact h'
      · rw [Array.getD_eq_getD_getElem?, Array.getElem?_eq_none (by omega)] at this; simp at this) (haf e he hb))
    have fin : ∀ v w', Below w.heap.size w w' → W w' → G i v w' → (L.setIfInBounds i true).size = ops.size ∧ W w' ∧ (a.put o.dst v).defers = a0.defers ∧ (a.put o.dst v).tmps.size = a0.tmps.size ∧
        (∀ k, (∀ j, j < ops.size → dstOf ops j ≠ some k) → (a.put o.dst v).tmps.getD k undef = a0.tmps.getD k undef) ∧
        (∀ j, j < ops.size → (L.setIfInBounds i true).getD j false = true → G j (slotOf ops (a.put o.dst v) j) w') := by
      intro v w' hb hW' hG
      have hda : d < a.tmps.size := by omega
      rw [hod]
      refine ⟨by rw [Array.size_setIfInBounds]; exact h1, hW', by simp only [Act.put]; exact h3, by simp only [Act.put, Array.size_setIfInBounds]; exact h4, ?_, ?_⟩
      · intro k hk
        rw [getD_put _ _ _ _ hda, if_neg (fun e => hk i hlt (by rw [e]; exact hdi))]
        exact h5 k hk
      · intro j hj hLj
        by_cases e : j = i
        · subst e
          unfold slotOf
          rw [hdi, Option.getD_some, getD_put _ _ _ _ hda, if_pos rfl]
          exact hG
        · obtain ⟨dj, hdj1, hdj2, hdj3⟩ := dsts_spec hd hj
          have hne : dj ≠ d := fun e2 => hdj j hj e (by rw [← e2]; exact hdj1)
          unfold slotOf
          rw [hdj1, Option.getD_some, getD_put _ _ _ _ hda, if_neg hne]
          have hLj' : L.getD j false = true := by
            rw [Array.getD_eq_getD_getElem?, Array.getElem?_setIfInBounds_ne (by omega)] at hLj
            rw [Array.getD_eq_getD_getElem?]; exact hLj
          have := h6 j hj hLj'
          unfold slotOf at this
          rw [hdj1, Option.getD_some] at this
          exact stable j _ w w' h2 hW' hb this
    unfold wpOpIn
    rw [ho]
    split at hst
    · rename_i hw
      simp only [hw, if_true]
      refine Oper.wpIn_mono ?_ hst
      rintro a' w' ⟨v, rfl, hb, hW', hG⟩
      exact fin v w' hb hW' hG
    · rename_i hw
      simp only [hw]
      rw [if_neg Bool.false_ne_true]
      exact ⟨fun f _ => hF f, fin undef w (Below.refl _ _) h2 hst⟩
  · rintro L a w ⟨h1, h2, h3, h4, h5, h6⟩ hr
    exact done a w h2 h3 h4 h5 fun i hi => h6 i hi (all_listedB hah h1 hr i hi)
  · refine ⟨by simp, hW0, rfl, rfl, fun _ _ => rfl, fun i hi h => ?_⟩
    rw [Array.getD_eq_getD_getElem?, Array.getElem?_replicate] at h
    simp [hi] at h
  · unfold left
    exact Nat.le_trans (List.countP_le_length) (by simp)
end Go.Proofs.Ytkcbehdfiaobcaa
namespace Go.Proofs.Ytkcbehdfiaobcaa
open Go.ChangeShapes Go.WideShapes Go.ChangeAt Go.RowKit Go.Shelf
namespace Vt
attribute [local go_sem] Oper.semAt_some
theorem plf_frames (fs : List Fr) : ∀ p, (plf p fs).map (fun x => x.2.2) = fs := by
  induction fs with
  | nil => intro p; rfl
  | cons f q ih => intro p; simp only [plf, List.map_cons]; rw [ih]
theorem fex_clean (fs : List Fr) : ∀ p, ∀ x ∈ fex p fs, x.1 = false := by
  induction fs with
  | nil => intro p x hx; cases hx
  | cons f q ih =>
    intro p x hx
    simp only [fex, List.mem_cons] at hx
    rcases hx with rfl | hx
    · rfl
    · exact ih _ _ hx
/-- what Clean leaves, plainly -/
theorem clean_plain {l : List Nat} (hb : Byt l) : Byt (cln l (locs 0 l)) ∧ (locs 0 (cln l (locs 0 l))).map (fun x => x.2.2) = (locs 0 l).map (fun x => x.2.2) ∧ (∀ x ∈ exts (cln l (locs 0 l)), x.1 = false) ∧ cln (cln l (locs 0 l)) (locs 0 (cln l (locs 0 l))) = cln l (locs 0 l) := by
  obtain ⟨fs, h1, h2, h3⟩ := cln_all hb
  rw [h1]
  have hby := ens_byt h2
  have hlo : locs 0 (ens fs) = plf 0 fs := by
    have := locs_ens h2 (r := []) byt_nil 0
    rwa [List.append_nil, locs_nil, List.append_nil] at this
  refine ⟨hby, by rw [hlo, plf_frames, h3], by rw [exts_ens h2]; exact fex_clean fs 0, ?_⟩
  obtain ⟨gs, k1, k2, k3⟩ := cln_all hby
  rw [k1, k3, hlo, plf_frames]
abbrev JFr := JR 44 14
theorem info_fr : (Try.prog.info? 44).map (fun i => (i.zero, i.size, i.bytes)) = some (some (.agg #[.int .i64 0, .int .u64 0, .int .i64 0, .string ⟨#[]⟩, .string ⟨#[]⟩, .int .u64 0, .int .i64 0, .int .i64 0, .int .i64 0, .string ⟨#[]⟩, .int .i64 0, .int .i64 0, .int .i64 0, .int .u32 0]), 14, 136) := by kernel_rfl
theorem frv_one (f : Fr) : ∀ u ∈ frv f, u.oneCell' = true := by
  intro u hu
  simp only [frv, List.mem_cons, List.mem_nil_iff, or_false] at hu
  rcases hu with rfl | rfl | rfl | rfl | rfl | rfl | rfl | rfl | rfl | rfl | rfl | rfl | rfl | rfl <;> rfl
theorem blkQ_kept {W W' : World} {row : Option Nat} {O : Nat} {t : TypeId} {cs : List Value} (h : Blk W O t cs) (hg : W.grownBy W' row) (hr : ∀ r, row = some r → ∃ o : Obj, W.heap[r]? = some o ∧ o.isCells = false) : Blk W' O t cs := by
  refine h.grown hg (fun e => ?_)
  obtain ⟨o, ho, hc⟩ := hr O e.symm
  have h2 : W.heap[O]? = _ := h
  rw [h2] at ho
  injection ho with ho
  rw [← ho] at hc
  cases hc
theorem jr_turned {E : TypeId} {sz B base : Nat} {X : Nat → Prop} {V V' : World} {v : Value} {ls : List (List Value)} (h : JR E sz V base v ls) (ht : Turned X B V V') (hX : ∀ g, v.ownBlock = some g → ¬ X g) : JR E sz V' base v ls := by
  obtain ⟨h1, h0, ⟨rfl, e⟩ | ⟨g', cap', cur, rfl, hbs, hh, hr⟩⟩ := h
  · exact ⟨h1, h0, .inl ⟨rfl, e⟩⟩
  · exact ⟨h1, h0, .inr ⟨g', cap', cur, rfl, hbs, ht.block g' _ hh (hX g' rfl) (.inl rfl), hr⟩⟩
/-- between two rounds of the first range -/
def ClI (M : Nat) (w4 : World) (cv : Value) {B : Nat} (pre : List (PL B)) (X : Nat → Prop) (V : World) : Prop :=
  (∃ hv, Boxed V M 28 hv ∧ JFr V (M + 3) hv (pre.map fun x => frv x.1.2.2) ∧ ∀ g, hv.ownBlock = some g → ¬ X g) ∧ Boxed V (M + 2) 22 cv ∧ Below M w4 V ∧ M + 3 ≤ V.heap.size ∧ (∀ k, X k → M + 3 ≤ k)
theorem clI_abides {M : Nat} {w4 : World} (hs : w4.heap.size = M + 3) {cv : Value} {B : Nat} : AbidesX (M + 3) (ClI M w4 cv (B := B)) := by
  rintro s X X' V V' ⟨⟨hv, h0, h1, h2⟩, h3, h4, h5, h6⟩ ht hX
  refine ⟨⟨hv, boxed_turned h0 ht (fun x => by have := h6 _ x; omega), jr_turned h1 ht h2, fun g hg hx => ?_⟩, boxed_turned h3 ht (fun x => by have := h6 _ x; omega), below_turned h4 (by omega) ht (by omega) (fun k hk => by have := h6 k hk; omega), Nat.le_trans h5 ht.size, fun k hk => ?_⟩
  · rcases hX g hx with h | h
    · exact h2 g hg h
    · have := h1.blk_lt g hg; omega
  · rcases hX k hk with h | h
    · exact h6 k h
    · omega
theorem cl_step {M : Nat} {w4 V w3 : World} {X : Nat → Prop} {L : List (List Value)} {hv v3 cv : Value} {o : Obj} {r : List Value} (hM : M + 3 ≤ V.heap.size) (hXl : ∀ k, X k → M + 3 ≤ k ∧ k < V.heap.size)
    (bh : Boxed V M 28 hv) (j : JFr V (M + 3) hv L) (hnx : ∀ g, hv.ownBlock = some g → ¬ X g) (bc : Boxed V (M + 2) 22 cv) (hB : Below M w4 V)
    (g3 : (V.alloc o).grownBy w3 hv.ownBlock) (j3 : JFr w3 (M + 3) v3 (L ++ [r])) (hw3 : ∀ g, v3.ownBlock = some g → hv.ownBlock = some g ∨ g = (V.alloc o).heap.size) :
    KeepsOthers V (w3.setCell ⟨M, 0, none⟩ v3) ∧ KeepS (fun k => k < M ∨ X k) V (w3.setCell ⟨M, 0, none⟩ v3) ∧ (Boxed (w3.setCell ⟨M, 0, none⟩ v3) M 28 v3 ∧ JFr (w3.setCell ⟨M, 0, none⟩ v3) (M + 3) v3 (L ++ [r]) ∧ ∀ g, v3.ownBlock = some g → ¬ X g) ∧ Boxed (w3.setCell ⟨M, 0, none⟩ v3) (M + 2) 22 cv ∧ Below M w4 (w3.setCell ⟨M, 0, none⟩ v3) ∧ M + 3 ≤ (w3.setCell ⟨M, 0, none⟩ v3).heap.size := by
  have hs3 := g3.size
  rw [World.size_alloc] at hs3
  have nE : ∀ g, hv.ownBlock = some g → M + 3 ≤ g := j.blk_ge
  have n3 : ∀ g, v3.ownBlock = some g → M + 3 ≤ g := j3.blk_ge
  have be3 := Boxed.grownJ (bh.alloc o) (j.alloc o) (by decide) g3
  have bc3 := Boxed.grownJ (bc.alloc o) (j.alloc o) (by decide) g3
  have hlt : ∀ k, (k < M ∨ X k) → k < V.heap.size := fun k hk => by rcases hk with hk | hk; omega; exact (hXl k hk).2
  have k3 : KeepS (fun k => k < M ∨ X k) V w3 := ((KeepS.refl V).alloc hlt o).grown g3 (fun k hk => by have := hlt k hk; rw [World.size_alloc]; omega) (fun g e h => by
    rcases h with h | h
    · have := nE g e; omega
    · exact hnx g e h)
  have k4 : KeepS (fun k => k < M ∨ X k) V (w3.setCell ⟨M, 0, none⟩ v3) := k3.setCell (p := ⟨M, 0, none⟩) (fun h => by
    rcases h with h | h
    · exact absurd h (Nat.lt_irrefl M)
    · have := (hXl _ h).1; have h' : M + 3 ≤ M := this; omega) _
  refine ⟨?_, k4, ⟨?_, ?_, ?_⟩, ?_, ?_, ?_⟩
  · exact (KeepsOthers.alloc _ o).trans (((j.alloc o).others g3).trans (KeepsOthers.setCell _ _ _))
  · exact be3.set v3
  · exact j3.setO (p := ⟨M, 0, none⟩) (fun g hg => by have := n3 g hg; show g ≠ M; omega) _
  · intro g hg hx
    rcases hw3 g hg with h | h
    · exact hnx g h hx
    · have := (hXl g hx).2; rw [World.size_alloc] at h; omega
  · exact bc3.other (B' := M) (by omega) _
  · exact hB.trans (k4.below (fun k hk => Or.inl hk))
  · simp [World.setCell]; omega
theorem frv_inj {f g : Fr} (h : frv f = frv g) : f = g := by
  obtain ⟨k, ⟨rl, rk, rkey, rval⟩, ⟨pl, pk, pa, pn, pkey⟩, ⟨ec, eb, ef, es⟩⟩ := f
  obtain ⟨k0, ⟨rl0, rk0, rkey0, rval0⟩, ⟨pl0, pk0, pa0, pn0, pkey0⟩, ⟨ec0, eb0, ef0, es0⟩⟩ := g
  simp only [frv, List.cons.injEq, Value.int.injEq, Value.string.injEq, true_and, and_true, Int.natCast_inj] at h
  obtain ⟨h1, h2, h3, h4, h5, h6, h7, h8, h9, h10, h11, h12, h13, h14⟩ := h
  subst h1 h2 h3 h4 h5 h6 h7 h8 h9 h10 h11 h12 h13 h14
  rfl
theorem ko_drewN (U : World) (nn : Nat) : KeepsOthers U (U.drewN nn) := ⟨Nat.le_refl _, fun _ _ h _ => h⟩
/-- between two rounds of the second range -/
def ClJ (P : Nat) (V1 : World) (L : List (List Value)) {B : Nat} (pre : List (PL B)) (X : Nat → Prop) (U : World) : Prop :=
  Boxed U P 3 (.int .i64 (pre.length : Int)) ∧ pre.map (fun x => frv x.1.2.2) <+: L ∧ Below P V1 U ∧ P + 1 ≤ U.heap.size ∧ (∀ k, X k → P + 1 ≤ k)
theorem clJ_abides {P : Nat} {V1 : World} {L : List (List Value)} (hs : V1.heap.size = P + 1) {B : Nat} : AbidesX (P + 1) (ClJ P V1 L (B := B)) := by
  rintro s X X' V V' ⟨h0, h1, h2, h3, h4⟩ ht hX
  refine ⟨boxed_turned h0 ht (fun x => by have := h4 _ x; omega), h1, below_turned h2 (by omega) ht (by omega) (fun k hk => by have := h4 k hk; omega), Nat.le_trans h3 ht.size, fun k hk => ?_⟩
  rcases hX k hk with h | h
  · exact h4 k h
  · omega
theorem pre_snoc_yes {α : Type} {A L : List α} {x : α} (h : A <+: L) (hx : L[A.length]? = some x) : A ++ [x] <+: L := by
  obtain ⟨r, rfl⟩ := h
  rw [List.getElem?_append_right (Nat.le_refl _), Nat.sub_self] at hx
  cases r with
  | nil => simp at hx
  | cons y r =>
    simp at hx
    subst hx
    exact ⟨r, by simp⟩
theorem pre_snoc_no {α : Type} {A L : List α} {x : α} (hx : L[A.length]? ≠ some x) : ¬ A ++ [x] <+: L := by
  rintro ⟨r, rfl⟩
  apply hx
  simp
set_option maxRecDepth 100000 in
set_option maxHeartbeats 4000000 in
theorem clean_walk (v : Value) (l : List Nat) (w : World) (hI : IsB w v l) (hm : l.length ≤ 1048576) :
    Calls Try.prog 3 #[v] w fun e w' => e = .returned (.bool true) ∧ Below w.heap.size w w' := by
  obtain ⟨a, c, rfl⟩ := hI.shape
  have HI := hd hI
  obtain ⟨p1, p2, p3, p4⟩ := clean_plain hI.1
  have hcl := cln_len hI.1
  obtain ⟨C, hC⟩ : ∃ C, C = cln l (locs 0 l) := ⟨_, rfl⟩
  rw [← hC] at p1 p2 p3 p4 hcl
  have HC := hd hC
  have HP1 := hd p1
  have HP2 := hd p2
  have HP3 := hd p3
  have HP4 := hd p4
  have hel := exts_len p1
  obtain ⟨E, hE⟩ : ∃ E, E = exts C := ⟨_, rfl⟩
  rw [← hE] at HP3 hel
  have HE := hd hE
  clear hI p1 p2 p3 p4 hC hE
  refine (callsIn_wide (n := 8)).1 ?_
  refine callsIn_of_wp_marks Try.func3 rfl trivial (Code.wpIn_mono bodyPostF_M ?_) rfl
  simp only [Try.ntmps3, List.size_toArray, List.length_cons, List.length_nil, Nat.reduceAdd, Nat.reduceSub, Array.replicate_succ, Array.replicate_zero, List.push_toArray, List.append_toArray, List.nil_append, List.cons_append]
  refine wpIn_wide.2 ?_
  obtain ⟨N, hN⟩ : ∃ N, N = w.heap.size := ⟨_, rfl⟩
  have HBR := hd (hN ▸ Boxed.new w 4 (.bool false))
  go_wp2_with fail
  refine Calls.mono (clean_is _ l _ (HI.out.below ((Below.refl _ _).alloc (Nat.le_refl _) _)) (by omega)) ?_
  rintro e w1 ⟨u1, rfl, j1, b1⟩
  rw [← HC.out] at j1
  obtain ⟨a1, c1, rfl, hc1⟩ := j1.shape
  have BR1 := hd (boxed_below HBR.out (by rw [hN]; simp) b1)
  have B1 := hd (below_alloc1 b1)
  have J1 := hd j1.isB
  have IB1 := hd (HI.out.below B1.out)
  clear j1 b1 HI HBR
  go_wp2_with fail
  refine Calls.mono (clean_is _ C w1 J1.out (by omega)) ?_
  rintro e w2 ⟨u2, rfl, j2, b2⟩
  rw [HP4.out] at j2
  obtain ⟨a2, c2, rfl, hc2⟩ := j2.shape
  have hNw := (lt_of_cell BR1.out.cell)
  have BR2 := hd (boxed_below BR1.out hNw b2)
  have B2 := hd (B1.out.trans (b2.mono B1.out.size))
  have J12 := hd (J1.out.below b2)
  have J2 := hd j2.isB
  have IB2 := hd (IB1.out.below b2)
  clear j2 b2 BR1 B1 J1 IB1 hNw
  go_wp2_with fail
  refine Calls.mono (extents_is _ C w2 J12.out (by omega)) ?_
  rintro e w3 ⟨u3, rfl, j3, b3⟩
  rw [← HE.out] at j3
  obtain ⟨a3, c3, rfl, hc3⟩ := j3.shape
  have hNw := (lt_of_cell BR2.out.cell)
  have BR3 := hd (boxed_below BR2.out hNw b3)
  have B3 := hd (B2.out.trans (b3.mono B2.out.size))
  have J13 := hd (J12.out.below b3)
  have J23 := hd (J2.out.below b3)
  have IB3 := hd (IB2.out.below b3)
  have J3 := hd j3
  have hN3 : N < w3.heap.size := lt_of_cell BR3.out.cell
  rw [List.length_map] at hc3 J3 ⊢
  clear j3 b3 BR2 B2 J12 J2 IB2 hNw
  go_wp2_with fail
  have hEl : E.length ≤ 3000000 := by omega
  go_loopw [6] (fun i wr => ∃ k : Nat, k ≤ E.length ∧ i = .int .i64 (k : Int) ∧ wr = w3) (fun i _ => E.length - (intOf i).toNat)
  case atStart => exact ⟨0, by omega, rfl, rfl⟩
  case round =>
    obtain ⟨k, hk, rfl, hwr⟩ := hrel
    subst hwr
    by_cases hlt : k < E.length
    · obtain ⟨⟨j, p, q⟩, hx⟩ : ∃ x, E[k]? = some x := ⟨E[k], List.getElem?_eq_getElem hlt⟩
      have hjf : j = false := HP3.out _ (List.mem_of_getElem? hx)
      subst hjf
      have hxm : (E.map exv)[k]? = some [.bool false, .int .i64 p, .int .i64 q] := by rw [List.getElem?_map, hx]; rfl
      have hne : E.map exv ≠ [] := by intro e; rw [e] at hxm; simp at hxm
      obtain ⟨g1, c1', hv1, hg1, hm1⟩ := J3.out.nn hne
      injection hv1 with e1 e2 e3
      subst e1 e3
      have r0 := J3.out.at k _ 0 _ hxm rfl
      simp only [Nat.add_zero] at r0
      clear hxm hne hx e2
      go_wp2_with fail
      go_roundw
      case rel => exact ⟨k + 1, by omega, by go_num, trivial⟩
      case measure => simp [intOf]; omega
    · obtain rfl : k = E.length := by omega
      go_wp2_with fail
      refine Calls.mono (frames_is _ _ _ _) ?_
      rintro e w4 ⟨rfl, hw4⟩
      rw [hw4]
      clear hw4 w4
      go_wp2_with fail
      refine Calls.mono (frames_is _ _ _ _) ?_
      rintro e w4 ⟨rfl, hw4⟩
      obtain ⟨M, hM⟩ : ∃ M, M = wr.heap.size := ⟨_, rfl⟩
      have hs4 : w4.heap.size = M + 3 := by rw [hw4, hM]; simp
      have hB4 : Hid (Below M wr w4) := by rw [hw4, hM]; exact (((Below.refl _ _).alloc (Nat.le_refl _) _).alloc (by simp) _).alloc (by simp; omega) _
      have BH4 : Hid (Boxed w4 M 28 (.slice none 0 0)) := by rw [hw4, hM]; exact ((Boxed.new wr 28 _).alloc _).alloc _
      have BB4 : Hid (Boxed w4 (M + 1) 22 (.slice a l.length c)) := by
        have := Boxed.new (wr.alloc (.cells #[.slice none 0 0] 28)) 22 (.slice a l.length c)
        rw [World.size_alloc, ← hM] at this
        rw [hw4]; exact this.alloc _
      have BC4 : Hid (Boxed w4 (M + 2) 22 (.slice a1 C.length c1)) := by
        have := Boxed.new ((wr.alloc (.cells #[.slice none 0 0] 28)).alloc (.cells #[.slice a l.length c] 22)) 22 (.slice a1 C.length c1)
        rw [World.size_alloc, World.size_alloc, ← hM] at this
        rw [hw4]; exact this
      simp only [World.size_alloc]
      rw [← hM]
      have HM := hd hM
      have BR4 := hd (boxed_below BR3.out (hM ▸ hN3) hB4.out)
      have B4 := hd (B3.out.trans (hB4.out.mono (by rw [hM]; exact B3.out.size)))
      have J14 := hd (J13.out.below (hM ▸ hB4.out))
      have J24 := hd (J23.out.below (hM ▸ hB4.out))
      have IB4 := hd (IB3.out.below (hM ▸ hB4.out))
      have hNM : N < M := by omega
      have H1L : Hid (∀ b off c', l ≠ [] → Value.slice a l.length c = .slice (some ⟨b, off, none⟩) l.length c' → b < M) := fun b off c' hne e => by
        obtain ⟨_, _, ⟨rfl, _⟩ | ⟨nb, no, nc, e1, _, _, hnb, hnr⟩⟩ := IB3.out
        · exact absurd rfl hne
        · rw [e] at e1; injection e1 with e1 e2 e3; injection e1 with e1; injection e1 with e1 e4; omega
      have H2L : Hid (∀ b off c', C ≠ [] → Value.slice a1 C.length c1 = .slice (some ⟨b, off, none⟩) C.length c' → b < M) := fun b off c' hne e => by
        obtain ⟨_, _, ⟨h0, _⟩ | ⟨nb, no, nc, e1, _, _, hnb, hnr⟩⟩ := J13.out
        · exact absurd h0 hne
        · rw [e] at e1; injection e1 with e1 e2 e3; injection e1 with e1; injection e1 with e1 e4; omega
      clear hw4 hM BR3 B3 J3 hN3
      have hfn : ∀ (x : Value) (w : World), (binOp .eql 30 (.func (.func 25) #[] #[x]) Value.nilFunc).run Try.prog w = .ok (.bool false) w := fun _ _ => rfl
      go_wp2_with fail
      have hseq := frames_seq (fun k => k < M) (M + 1) (.slice a l.length c) l w4 (by omega) (fun k hk => by omega) BB4.out.cell IB4.out (fun b off c' hne e => H1L.out b off c' hne e)
      have HSQ := hd hseq
      clear hseq
      have hll := locs_len IB4.out.1 _ (Nat.le_refl _) 0
      rename_i K hK
      have HK := hd hK
      clear hK
      refine (wpIn_wide (n := 8)).1 ?_
      refine wpIn_rangeFunc_X (gf := 25) (lb := #[.pointer (some ⟨M + 1, 0, none⟩)]) rfl (enters_of Try.func25 (by kernel_rfl) rfl) HSQ.out (fun k hk => by omega) (Below.refl _ _) (fun _ => rfl)
        (ClI M w4 (.slice a1 C.length c1)) (fun _ _ _ _ => False) (hs4 ▸ clI_abides hs4) (fun _ _ _ _ _ _ h _ _ => h) ⟨⟨_, BH4.out, jr_nil _ _, fun g hg => by cases hg⟩, BC4.out, Below.refl _ _, by omega, fun _ h => h.elim⟩
        (fun (x : PL l.length) a' V => ∃ Bx, M + 3 ≤ Bx ∧ Blk V Bx 44 (frv x.1.2.2) ∧ a' = { tmps := #[Value.slice a l.length c, undef, Value.pointer (some { block := w.heap.size, off := 0 }), Value.slice a1 C.length c1, Value.slice a2 C.length c2, Value.slice a3 E.length c3, Value.int IntKind.i64 (E.length : Int), Value.pointer (some { block := M, off := 0 }), Value.func (Fn.func 25) #[] #[Value.pointer (some { block := M + 1, off := 0 })], Value.func (Fn.func 25) #[] #[Value.pointer (some { block := M + 1 + 1, off := 0 })], undef, Value.pointer (some { block := Bx, off := 0 }), undef, undef, undef, Value.slice a l.length c, Value.slice a1 C.length c1, Value.slice a1 C.length c1, Value.slice a2 C.length c2, Value.slice a1 C.length c1, Value.slice a3 E.length c3, Value.int IntKind.i64 (E.length : Int), Value.slice a3 E.length c3, Value.int IntKind.i64 (E.length : Int), Value.bool false, u25, u26, u27, u28, u29, u30, u31, Value.slice a l.length c, Value.func (Fn.func 25) #[] #[Value.pointer (some { block := M + 1, off := 0 })], Value.slice a1 C.length c1, Value.func (Fn.func 25) #[] #[Value.pointer (some { block := M + 1 + 1, off := 0 })], Value.func (Fn.func 25) #[] #[Value.pointer (some { block := M + 1, off := 0 })], Value.bool false, Value.bool false, Value.func (Fn.func 25) #[] #[Value.pointer (some { block := M + 1 + 1, off := 0 })], Value.bool false, Value.bool false, Value.func (Fn.func 25) #[] #[Value.pointer (some { block := M + 1, off := 0 })], .int .i64 (x.1.1 : Int), .agg (frv x.1.2.2).toArray, undef, undef, undef, undef, undef, undef, undef, undef, undef, undef, undef, undef, undef, undef, undef, undef, undef, undef, undef, undef, undef, undef, undef, undef, undef, undef, undef, undef, undef, undef, undef, undef, undef], defers := [] })
        (fun x a' _ V V' row hs hg hr => by
          obtain ⟨Bx, h1, h2, h3⟩ := hs
          exact ⟨Bx, h1, blkQ_kept h2 hg (fun r e => (hr r e).2), h3⟩)
        ?assign ?body ?done ?stop
      case assign =>
        rintro lk pre ⟨⟨x1, x2, k, ⟨rl, rk, rkey, rval⟩, ⟨pl, pk, pa, pn, pkey⟩, ⟨ec, eb, ef, es⟩⟩, hx⟩ X V K hi hX hK
        simp only [enc2, frv]
        gi_wp2
        have hsV := hi.2.2.2.1
        exact hK _ _ ((KeepsOthers.alloc _ _).from _) ((KeepS.refl _).alloc (fun k hk => by rcases hk with hk | hk; exact Nat.lt_of_lt_of_le (show k < M from hk) (by omega); exact (hX k hk).2) _) (clI_abides hs4 pre X X _ _ hi (Turned.alloc _ _) (fun _ h => .inl h)) ⟨V.heap.size, by omega, Blk.new V 44 (frv ⟨k, ⟨rl, rk, rkey, rval⟩, ⟨pl, pk, pa, pn, pkey⟩, ⟨ec, eb, ef, es⟩⟩), rfl⟩
      case body =>
        rintro lk pre ⟨⟨x1, x2, f⟩, hx⟩ X a' V hlk _ hX ⟨⟨hv, bh, j, hnx⟩, bc, hB, hsV, hXM⟩ ⟨Bx, hBx, hblk, rfl⟩ hlen
        have hblk : Blk V Bx 44 [.int .i64 f.kind, .int .u64 (f.r.lsn : Int), .int .i64 f.r.kind, .string f.r.key, .string f.r.val, .int .u64 (f.p.lsn : Int), .int .i64 f.p.kind, .int .i64 f.p.at_, .int .i64 f.p.len, .string f.p.key, .int .i64 f.e.count, .int .i64 f.e.bytes, .int .i64 f.e.frames, .int .u32 (f.e.sum : Int)] := hblk
        have k0 := hblk.cell 0 _ rfl
        have k1 := hblk.cell 1 _ rfl
        have k2 := hblk.cell 2 _ rfl
        have k3 := hblk.cell 3 _ rfl
        have k4 := hblk.cell 4 _ rfl
        have k5 := hblk.cell 5 _ rfl
        have k6 := hblk.cell 6 _ rfl
        have k7 := hblk.cell 7 _ rfl
        have k8 := hblk.cell 8 _ rfl
        have k9 := hblk.cell 9 _ rfl
        have k10 := hblk.cell 10 _ rfl
        have k11 := hblk.cell 11 _ rfl
        have k12 := hblk.cell 12 _ rfl
        have k13 := hblk.cell 13 _ rfl
        have HMP : Hid ((pre ++ [(⟨(x1, x2, f), hx⟩ : PL l.length)]).map (fun x => frv x.1.2.2) = pre.map (fun x => frv x.1.2.2) ++ [[.int .i64 f.kind, .int .u64 (f.r.lsn : Int), .int .i64 f.r.kind, .string f.r.key, .string f.r.val, .int .u64 (f.p.lsn : Int), .int .i64 f.p.kind, .int .i64 f.p.at_, .int .i64 f.p.len, .string f.p.key, .int .i64 f.e.count, .int .i64 f.e.bytes, .int .i64 f.e.frames, .int .u32 (f.e.sum : Int)]]) := by
          show _ = _
          rw [List.map_append, List.map_singleton]
          rfl
        have hpl : (pre.map (fun x => frv x.1.2.2)).length = pre.length := List.length_map _
        obtain ⟨L, hL⟩ : ∃ L, L = pre.map (fun x => frv x.1.2.2) := ⟨_, rfl⟩
        rw [← hL] at j hpl HMP
        have BH := hd bh
        have HJ := hd j
        have HNX := hd hnx
        have BC := hd bc
        have HB := hd hB
        have HX := hd hX
        have HLL := hd hL
        have hone : ∀ u ∈ ([.int .i64 f.kind, .int .u64 (f.r.lsn : Int), .int .i64 f.r.kind, .string f.r.key, .string f.r.val, .int .u64 (f.p.lsn : Int), .int .i64 f.p.kind, .int .i64 f.p.at_, .int .i64 f.p.len, .string f.p.key, .int .i64 f.e.count, .int .i64 f.e.bytes, .int .i64 f.e.frames, .int .u32 (f.e.sum : Int)] : List Value), u.oneCell' = true := frv_one f
        have HONE := hd hone
        have cE := bh.cell
        have fE := bh.frozen
        obtain ⟨av, cv, hve, hcv⟩ := j.shape
        rw [hpl] at hve hcv
        subst hve
        clear bh j hnx bc hB hX hblk hone hL
        gi_wp2_with (gi_at_builtin; refine wpListIn_append_jr Try.underlying28 info_fr rfl (by decide) _ rfl _ _ rfl (M + 3) (.slice av pre.length cv) L V.heap.size 1 [.int .i64 f.kind, .int .u64 (f.r.lsn : Int), .int .i64 f.r.kind, .string f.r.key, .string f.r.val, .int .u64 (f.p.lsn : Int), .int .i64 f.p.kind, .int .i64 f.p.at_, .int .i64 f.p.len, .string f.p.key, .int .i64 f.e.count, .int .i64 f.e.bytes, .int .i64 f.e.frames, .int .u32 (f.e.sum : Int)] rfl rfl (HJ.out.alloc _) rfl HONE.out (fun j u hu => cell_lit V _ _ j u _ rfl hu) (pre.length + 1) (by rw [hpl]) (by omega) (by unfold maxLen; omega) (by rw [World.size_alloc]; omega) ?_; intro g3 c3 w3 hj3 hg3 hw3; have be3 := Boxed.grownJ (BH.out.alloc _) (HJ.out.alloc _) (by decide) hg3; have p1 := be3.cell; have p2 := be3.frozen; have HJ3 := hd hj3; have HG3 := hd hg3; have HW3 := hd hw3; clear hj3 hg3 be3 hw3)
        have hfin := cl_step hsV (fun k hk => ⟨hXM k hk, (HX.out k hk).2⟩) BH.out HJ.out HNX.out BC.out HB.out HG3.out HJ3.out (fun g e => by
          injection e with e
          subst e
          exact HW3.out)
        rw [← HMP.out] at hfin
        exact ⟨hfin.1.from _, hfin.2.1, ⟨_, hfin.2.2.1.1, hfin.2.2.1.2.1, hfin.2.2.1.2.2⟩, hfin.2.2.2.1, hfin.2.2.2.2.1, hfin.2.2.2.2.2, hXM⟩
      case stop =>
        rintro D c2 pre X V hD hp hj
        exact hj.elim
      case done =>
        rintro D ys X V hD hys ⟨⟨hv, bh, j, hnx⟩, bc, hB, hsV, hXM⟩ hKD
        gi_wp2
        refine HK.out _ _ ?_
        clear HK
        have hyl : ys.map (fun x => frv x.1.2.2) = (locs 0 l).map (fun x => frv x.2.2) := by rw [← hys, List.map_map]; rfl
        have HFF : Hid ((locs 0 C).map (fun x => frv x.2.2) = (locs 0 l).map (fun x => frv x.2.2)) := by
          have := congrArg (List.map frv) HP2.out
          rw [List.map_map, List.map_map] at this
          exact this
        rw [hyl] at j
        have hln : ((locs 0 l).map (fun x => frv x.2.2)).length ≤ 1048576 := by rw [List.length_map]; omega
        obtain ⟨L, hL⟩ : ∃ L, L = (locs 0 l).map (fun x => frv x.2.2) := ⟨_, rfl⟩
        rw [← hL] at j HFF hln
        clear hyl hys hL HSQ
        obtain ⟨av, cv, hve, hcv⟩ := j.shape
        subst hve
        obtain ⟨P, hP⟩ : ∃ P, P = V.heap.size := ⟨_, rfl⟩
        have HKD := hd hKD
        have BR5 := hd (boxed_below BR4.out hNM hB)
        have B5 := hd (B4.out.trans (hB.mono (by omega)))
        have hBW := hB4.out.trans hB
        have J15 := hd (J13.out.below (HM.out ▸ hBW))
        have J25 := hd (J23.out.below (HM.out ▸ hBW))
        have BH5 := hd bh
        have BC5 := hd bc
        have HJ5 := hd j
        have hPM : M + 3 ≤ P := by omega
        have HP := hd hP
        clear hBW bh bc j hnx hB J13 J23 IB3 J14 J24 IB4 BR4 B4 BH4 BB4 BC4 hB4 hXM hsV
        clear hKD hP
        go_wp2_with fail
        rw [← HP.out]
        obtain ⟨V1, hV1⟩ : ∃ V1, V1 = V.alloc (.cells #[.int .i64 0] 3) := ⟨_, rfl⟩
        rw [← hV1]
        have hs1 : V1.heap.size = P + 1 := by rw [hV1, World.size_alloc, HP.out]
        have BN := hd (show Boxed V1 P 3 (.int .i64 0) by rw [hV1, HP.out]; exact Boxed.new V _ _)
        have hbV : Below P V V1 := by rw [hV1, HP.out]; exact (Below.refl _ _).alloc (Nat.le_refl _) _
        have BR6 := hd (boxed_below BR5.out (by omega) hbV)
        have B6 := hd (B5.out.trans (hbV.mono (by omega)))
        have J16 := hd (J15.out.below (HP.out ▸ hbV))
        have J26 := hd (J25.out.below (HP.out ▸ hbV))
        have BH6 := hd (boxed_below BH5.out (by omega) hbV)
        have BC6 := hd (boxed_below BC5.out (by omega) hbV)
        have hjl : ∀ g, (Value.slice av L.length cv).ownBlock = some g → g < P := fun g hg => by rw [HP.out]; exact HJ5.out.blk_lt g hg
        have HJL := hd hjl
        have HJ6 := hd (HJ5.out.keep hjl hbV)
        have HKD6 : Hid (V1.heap[D]? = some (.deferred (some []))) := hd (by
          rw [hbV.block D (by rw [HP.out]; exact (Array.getElem?_eq_some_iff.1 HKD.out).1)]; exact HKD.out)
        have hDP : D < P := by rw [HP.out]; exact (Array.getElem?_eq_some_iff.1 HKD.out).1
        have HBV := hd hbV
        clear hV1 hbV hjl BR5 B5 BH5 BC5 HJ5 HKD
        have hseq := frames_seq (fun k => k < P) (M + 1 + 1) (.slice a1 C.length c1) C V1 (by omega) (fun k hk => by omega) BC6.out.cell J16.out (fun b off c' hne e => by have := H2L.out b off c' hne e; omega)
        have HSQ := hd hseq
        clear hseq
        rename_i K hK
        have HK := hd hK
        clear hK
        refine (wpIn_wide (n := 8)).1 ?_
        refine wpIn_rangeFunc_X (gf := 25) (lb := #[.pointer (some ⟨M + 1 + 1, 0, none⟩)]) rfl (enters_of Try.func25 (by kernel_rfl) rfl) HSQ.out (fun k hk => by omega) (Below.refl _ _) (fun _ => rfl)
          (ClJ P V1 L) (fun _ (pre : List (PL C.length)) _ _ => ¬ pre.map (fun x => frv x.1.2.2) <+: L) (hs1 ▸ clJ_abides hs1) (fun _ _ _ _ _ _ h _ _ => h) ⟨BN.out, List.nil_prefix, Below.refl _ _, by omega, fun _ h => h.elim⟩
          (fun (x : PL C.length) a' U => ∃ Bx, P + 1 ≤ Bx ∧ Blk U Bx 44 (frv x.1.2.2) ∧ a' = { tmps := #[Value.slice a l.length c, undef, Value.pointer (some { block := w.heap.size, off := 0 }), Value.slice a1 C.length c1, Value.slice a2 C.length c2, Value.slice a3 E.length c3, Value.int IntKind.i64 (E.length : Int), Value.pointer (some { block := M, off := 0 }), Value.func (Fn.func 25) #[] #[Value.pointer (some { block := M + 1, off := 0 })], Value.func (Fn.func 25) #[] #[Value.pointer (some { block := M + 1 + 1, off := 0 })], undef, undef, Value.pointer (some { block := P, off := 0 }), undef, Value.pointer (some { block := Bx, off := 0 }), Value.slice a l.length c, Value.slice a1 C.length c1, Value.slice a1 C.length c1, Value.slice a2 C.length c2, Value.slice a1 C.length c1, Value.slice a3 E.length c3, Value.int IntKind.i64 (E.length : Int), Value.slice a3 E.length c3, Value.int IntKind.i64 (E.length : Int), Value.bool false, u25, u26, u27, u28, u29, u30, u31, Value.slice a l.length c, Value.func (Fn.func 25) #[] #[Value.pointer (some { block := M + 1, off := 0 })], Value.slice a1 C.length c1, Value.func (Fn.func 25) #[] #[Value.pointer (some { block := M + 1 + 1, off := 0 })], Value.func (Fn.func 25) #[] #[Value.pointer (some { block := M + 1, off := 0 })], Value.bool false, Value.bool false, Value.func (Fn.func 25) #[] #[Value.pointer (some { block := M + 1 + 1, off := 0 })], Value.bool false, Value.bool false, Value.func (Fn.func 25) #[] #[Value.pointer (some { block := M + 1, off := 0 })], undef, undef, undef, undef, undef, undef, Value.func (Fn.func 25) #[] #[Value.pointer (some { block := M + 1 + 1, off := 0 })], .int .i64 (x.1.1 : Int), .agg (frv x.1.2.2).toArray, undef, undef, undef, undef, undef, undef, undef, undef, undef, undef, undef, undef, undef, undef, undef, undef, undef, undef, undef, undef, undef, undef, undef, undef, undef, undef], defers := [] })
          (fun x a' _ V V' row hs hg hr => by
            obtain ⟨Bx, h1, h2, h3⟩ := hs
            exact ⟨Bx, h1, blkQ_kept h2 hg (fun r e => (hr r e).2), h3⟩)
          ?assign2 ?body2 ?done2 ?stop2
        case assign2 =>
          rintro lk pre ⟨⟨x1, x2, k, ⟨rl, rk, rkey, rval⟩, ⟨pl, pk, pa, pn, pkey⟩, ⟨ec, eb, ef, es⟩⟩, hx⟩ X U K hi hX hK
          simp only [enc2, frv]
          gi_wp2
          have hsU := hi.2.2.2.1
          exact hK _ _ ((KeepsOthers.alloc _ _).from _) ((KeepS.refl _).alloc (fun k hk => by rcases hk with hk | hk; exact Nat.lt_of_lt_of_le (show k < P from hk) (by omega); exact (hX k hk).2) _) (clJ_abides hs1 pre X X _ _ hi (Turned.alloc _ _) (fun _ h => .inl h)) ⟨U.heap.size, by omega, Blk.new U 44 (frv ⟨k, ⟨rl, rk, rkey, rval⟩, ⟨pl, pk, pa, pn, pkey⟩, ⟨ec, eb, ef, es⟩⟩), rfl⟩
        case stop2 =>
          rintro D2 c2 pre X U hD2 hp hj
          exfalso
          apply hj
          obtain ⟨r, hr⟩ := hp
          refine ⟨r.map (fun x => frv x.2.2), ?_⟩
          rw [← HFF.out, ← hr, List.map_append, List.map_map]
          rfl
        case body2 =>
          rintro lk pre ⟨⟨x1, x2, f⟩, hx⟩ X a' U hlk _ hX ⟨bn, hpre, hB, hsU, hXM⟩ ⟨Bx, hBx, hblk, rfl⟩ hlen
          obtain ⟨k, ⟨rl, rk, rkey, rval⟩, ⟨pl, pk, pa, pn, pkey⟩, ⟨ec, eb, ef, es⟩⟩ := f
          have hblk : Blk U Bx 44 [.int .i64 k, .int .u64 (rl : Int), .int .i64 rk, .string rkey, .string rval, .int .u64 (pl : Int), .int .i64 pk, .int .i64 pa, .int .i64 pn, .string pkey, .int .i64 ec, .int .i64 eb, .int .i64 ef, .int .u32 (es : Int)] := hblk
          have k0 := hblk.cell 0 _ rfl
          have k1 := hblk.cell 1 _ rfl
          have k2 := hblk.cell 2 _ rfl
          have k3 := hblk.cell 3 _ rfl
          have k4 := hblk.cell 4 _ rfl
          have k5 := hblk.cell 5 _ rfl
          have k6 := hblk.cell 6 _ rfl
          have k7 := hblk.cell 7 _ rfl
          have k8 := hblk.cell 8 _ rfl
          have k9 := hblk.cell 9 _ rfl
          have k10 := hblk.cell 10 _ rfl
          have k11 := hblk.cell 11 _ rfl
          have k12 := hblk.cell 12 _ rfl
          have k13 := hblk.cell 13 _ rfl
          have HMP : Hid ((pre ++ [(⟨(x1, x2, ⟨k, ⟨rl, rk, rkey, rval⟩, ⟨pl, pk, pa, pn, pkey⟩, ⟨ec, eb, ef, es⟩⟩), hx⟩ : PL C.length)]).map (fun x => frv x.1.2.2) = pre.map (fun x => frv x.1.2.2) ++ [frv ⟨k, ⟨rl, rk, rkey, rval⟩, ⟨pl, pk, pa, pn, pkey⟩, ⟨ec, eb, ef, es⟩⟩]) := by
            show _ = _
            rw [List.map_append, List.map_singleton]
          have hpl : (pre.map (fun x => frv x.1.2.2)).length = pre.length := List.length_map _
          have bhU := boxed_below BH6.out (by omega) hB
          have q1 := bn.cell
          have q2 := bn.frozen
          have q3 := bhU.cell
          have hmx : Try.prog.follows .mixedOrders = true := by kernel_rfl
          have BNU := hd bn
          have HPRE := hd hpre
          have HB := hd hB
          have HX := hd hX
          have HPL := hd hpl
          have HJU := hd (HJ6.out.keep HJL.out hB)
          have BRU := boxed_below BR6.out (by omega) hB
          have q4 : U.cell? ⟨w.heap.size, 0, none⟩ = some (.bool false) := by rw [← hN]; exact BRU.cell
          have q5 : U.frozen? ⟨w.heap.size, 0, none⟩ = false := by rw [← hN]; exact BRU.frozen
          clear bn hpre hX hblk bhU hpl BRU
          have hw1 : (pre.length : Int) + 1 = (((pre ++ [(⟨(x1, x2, ⟨k, ⟨rl, rk, rkey, rval⟩, ⟨pl, pk, pa, pn, pkey⟩, ⟨ec, eb, ef, es⟩⟩), hx⟩ : PL C.length)]).length : Nat) : Int) := by
            rw [List.length_append, List.length_singleton]
            omega
          have HW1 := hd hw1
          clear hw1
          by_cases hlt : pre.length < L.length
          · obtain ⟨f0, hf0⟩ : ∃ f0, L[pre.length]? = some (frv f0) := by
              rw [← HFF.out] at hlt ⊢
              rw [List.length_map] at hlt
              exact ⟨(locs 0 C)[pre.length].2.2, by rw [List.getElem?_map, List.getElem?_eq_getElem hlt]; rfl⟩
            have hne : L ≠ [] := by intro e; rw [e] at hf0; simp at hf0
            obtain ⟨g, cv', hv1, hg1, hm1⟩ := HJU.out.nn hne
            injection hv1 with e1 e2 e3
            subst e1
            clear hne e2 e3 hg1 hm1
            have hge : ¬ ((pre.length : Int) ≥ (L.length : Int)) := by omega
            obtain ⟨k0, ⟨rl0, rk0, rkey0, rval0⟩, ⟨pl0, pk0, pa0, pn0, pkey0⟩, ⟨ec0, eb0, ef0, es0⟩⟩ := f0
            have HF0 : Hid (L[pre.length]? = some [.int .i64 k0, .int .u64 (rl0 : Int), .int .i64 rk0, .string rkey0, .string rval0, .int .u64 (pl0 : Int), .int .i64 pk0, .int .i64 pa0, .int .i64 pn0, .string pkey0, .int .i64 ec0, .int .i64 eb0, .int .i64 ef0, .int .u32 (es0 : Int)]) := hd hf0
            have r0 := HJU.out.at pre.length _ 0 _ HF0.out rfl
            have r1 := HJU.out.at pre.length _ 1 _ HF0.out rfl
            have r2 := HJU.out.at pre.length _ 2 _ HF0.out rfl
            have r3 := HJU.out.at pre.length _ 3 _ HF0.out rfl
            have r4 := HJU.out.at pre.length _ 4 _ HF0.out rfl
            have r5 := HJU.out.at pre.length _ 5 _ HF0.out rfl
            have r6 := HJU.out.at pre.length _ 6 _ HF0.out rfl
            have r7 := HJU.out.at pre.length _ 7 _ HF0.out rfl
            have r8 := HJU.out.at pre.length _ 8 _ HF0.out rfl
            have r9 := HJU.out.at pre.length _ 9 _ HF0.out rfl
            have r10 := HJU.out.at pre.length _ 10 _ HF0.out rfl
            have r11 := HJU.out.at pre.length _ 11 _ HF0.out rfl
            have r12 := HJU.out.at pre.length _ 12 _ HF0.out rfl
            have r13 := HJU.out.at pre.length _ 13 _ HF0.out rfl
            simp only [Nat.add_zero] at r0
            obtain ⟨bb, hbb, hbf⟩ := neq_any ⟨k0, ⟨rl0, rk0, rkey0, rval0⟩, ⟨pl0, pk0, pa0, pn0, pkey0⟩, ⟨ec0, eb0, ef0, es0⟩⟩ ⟨k, ⟨rl, rk, rkey, rval⟩, ⟨pl, pk, pa, pn, pkey⟩, ⟨ec, eb, ef, es⟩⟩
            have heq : ∀ w, (binOp .neq 44 (.agg #[.int .i64 k0, .int .u64 (rl0 : Int), .int .i64 rk0, .string rkey0, .string rval0, .int .u64 (pl0 : Int), .int .i64 pk0, .int .i64 pa0, .int .i64 pn0, .string pkey0, .int .i64 ec0, .int .i64 eb0, .int .i64 ef0, .int .u32 (es0 : Int)]) (.agg #[.int .i64 k, .int .u64 (rl : Int), .int .i64 rk, .string rkey, .string rval, .int .u64 (pl : Int), .int .i64 pk, .int .i64 pa, .int .i64 pn, .string pkey, .int .i64 ec, .int .i64 eb, .int .i64 ef, .int .u32 (es : Int)])).run Try.prog w = .ok (.bool bb) w := hbb
            clear hf0 hbb
            cases bb with
            | false =>
              have HYES : Hid (pre.map (fun x => frv x.1.2.2) ++ [frv ⟨k, ⟨rl, rk, rkey, rval⟩, ⟨pl, pk, pa, pn, pkey⟩, ⟨ec, eb, ef, es⟩⟩] <+: L) := hd (pre_snoc_yes HPRE.out (by rw [HPL.out, ← hbf.1 rfl]; exact HF0.out))
              clear hbf
              gi_wp2
              refine region_skipIn (fun i9 v9 _ => match i9 with
                | 0 => v9 = .int .i64 (pre.length : Int)
                | 1 => v9 = .slice (some ⟨g, 0, none⟩) L.length cv
                | 2 => v9 = .int .i64 (L.length : Int)
                | 3 => v9 = .bool false
                | 4 => v9 = .bool false
                | 5 => v9 = .slice (some ⟨g, 0, none⟩) L.length cv
                | 6 => v9 = .int .i64 (pre.length : Int)
                | 7 => v9 = .pointer (some ⟨g, pre.length * 14, none⟩)
                | 8 => v9 = .agg #[.int .i64 k0, .int .u64 (rl0 : Int), .int .i64 rk0, .string rkey0, .string rval0, .int .u64 (pl0 : Int), .int .i64 pk0, .int .i64 pa0, .int .i64 pn0, .string pkey0, .int .i64 ec0, .int .i64 eb0, .int .i64 ef0, .int .u32 (es0 : Int)]
                | 9 => v9 = .agg #[.int .i64 k, .int .u64 (rl : Int), .int .i64 rk, .string rkey, .string rval, .int .u64 (pl : Int), .int .i64 pk, .int .i64 pa, .int .i64 pn, .string pkey, .int .i64 ec, .int .i64 eb, .int .i64 ef, .int .u32 (es : Int)]
                | 10 => v9 = .bool false
                | _ => v9 = .bool false) (fun w => ∃ nn, w = U.drewN nn) (fun _ => trivial) hmx (by kernel_rfl) (by kernel_rfl) ⟨1, rfl⟩ ?_ ?_ ?_
              · intro i9 v9 w8 w9 _ _ hb hG
                match i9, hG with
                | 0, h => exact h
                | 1, h => exact h
                | 2, h => exact h
                | 3, h => exact h
                | 4, h => exact h
                | 5, h => exact h
                | 6, h => exact h
                | 7, h => exact h
                | 8, h => exact h
                | 9, h => exact h
                | 10, h => exact h
                | n + 11, h => exact h
              · intro i9 o9 ho a9 w9 hW hdf hsz hout haf
                have ee7 := getq (show a9.tmps.getD 7 undef = Value.pointer (some { block := M, off := 0 }) from hout 7 (notDst_spec (by kernel_rfl)))
                have ee12 := getq (show a9.tmps.getD 12 undef = Value.pointer (some { block := P, off := 0 }) from hout 12 (notDst_spec (by kernel_rfl)))
                have ee14 := getq (show a9.tmps.getD 14 undef = Value.pointer (some { block := Bx, off := 0 }) from hout 14 (notDst_spec (by kernel_rfl)))
                have hsz2 : a9.tmps.size = 78 := hsz
                clear hout hsz hdf
                match i9, ho, haf with
                | 0, ho, haf =>
                  obtain rfl := Option.some.inj ho
                  refine skip_goodIn _ (wanted_none rfl) ?_
                  clear haf ho hsz2
                  intro K hK
                  simp only [List.getElem_toArray, List.getElem_cons_zero] at hK ⊢
                  obtain ⟨nn, rfl⟩ := hW
                  go_simp
                  exact hK _ _ ⟨Below.refl _ _, ⟨nn, rfl⟩, rfl⟩
                | 1, ho, haf =>
                  obtain rfl := Option.some.inj ho
                  refine skip_goodIn _ (wanted_none rfl) ?_
                  clear haf ho hsz2
                  intro K hK
                  simp only [List.getElem_toArray, List.getElem_cons_succ, List.getElem_cons_zero] at hK ⊢
                  obtain ⟨nn, rfl⟩ := hW
                  go_simp
                  exact hK _ _ ⟨Below.refl _ _, ⟨nn, rfl⟩, rfl⟩
                | 2, ho, haf =>
                  obtain rfl := Option.some.inj ho
                  have f1 := getq (show a9.tmps.getD 53 undef = .slice (some ⟨g, 0, none⟩) L.length cv from haf ⟨1, .data⟩ (by simp) rfl)
                  refine skip_goodIn _ (wanted_none rfl) ?_
                  clear haf ho hsz2
                  intro K hK
                  simp only [List.getElem_toArray, List.getElem_cons_succ, List.getElem_cons_zero] at hK ⊢
                  obtain ⟨nn, rfl⟩ := hW
                  go_simp
                  exact hK _ _ ⟨Below.refl _ _, ⟨nn, rfl⟩, rfl⟩
                | 3, ho, haf =>
                  obtain rfl := Option.some.inj ho
                  have f0 := getq (show a9.tmps.getD 52 undef = .int .i64 (pre.length : Int) from haf ⟨0, .data⟩ (by simp) rfl)
                  have f2 := getq (show a9.tmps.getD 54 undef = .int .i64 (L.length : Int) from haf ⟨2, .data⟩ (by simp) rfl)
                  refine skip_goodIn _ (wanted_none rfl) ?_
                  clear haf ho hsz2
                  intro K hK
                  simp only [List.getElem_toArray, List.getElem_cons_succ, List.getElem_cons_zero] at hK ⊢
                  obtain ⟨nn, rfl⟩ := hW
                  go_simp
                  exact hK _ _ ⟨Below.refl _ _, ⟨nn, rfl⟩, (by first | rfl | (simp only [Value.bool.injEq, decide_eq_false_iff_not]; omega) | (simp only [Value.bool.injEq, decide_eq_true_eq]; omega))⟩
                | 4, ho, haf =>
                  obtain rfl := Option.some.inj ho
                  have f3 := getq (show a9.tmps.getD 55 undef = .bool false from haf ⟨3, .data⟩ (by simp) rfl)
                  refine skip_goodIn _ (wanted_none rfl) ?_
                  clear haf ho hsz2
                  intro K hK
                  simp only [List.getElem_toArray, List.getElem_cons_succ, List.getElem_cons_zero] at hK ⊢
                  obtain ⟨nn, rfl⟩ := hW
                  go_simp
                  exact hK _ _ ⟨Below.refl _ _, ⟨nn, rfl⟩, rfl⟩
                | 5, ho, haf =>
                  obtain rfl := Option.some.inj ho
                  have gg : a9.tmps.getD 56 undef = .bool false := haf ⟨4, .guard⟩ (by simp) rfl
                  refine skip_goodIn _ (wanted_some rfl (yielded_of (d := 56) rfl (by omega) gg)) ?_
                  clear haf ho hsz2 gg
                  intro K hK
                  simp only [List.getElem_toArray, List.getElem_cons_succ, List.getElem_cons_zero] at hK ⊢
                  obtain ⟨nn, rfl⟩ := hW
                  go_simp
                  exact hK _ _ ⟨Below.refl _ _, ⟨nn, rfl⟩, rfl⟩
                | 6, ho, haf =>
                  obtain rfl := Option.some.inj ho
                  have gg : a9.tmps.getD 56 undef = .bool false := haf ⟨4, .guard⟩ (by simp) rfl
                  refine skip_goodIn _ (wanted_some rfl (yielded_of (d := 56) rfl (by omega) gg)) ?_
                  clear haf ho hsz2 gg
                  intro K hK
                  simp only [List.getElem_toArray, List.getElem_cons_succ, List.getElem_cons_zero] at hK ⊢
                  obtain ⟨nn, rfl⟩ := hW
                  go_simp
                  exact hK _ _ ⟨Below.refl _ _, ⟨nn, rfl⟩, rfl⟩
                | 7, ho, haf =>
                  obtain rfl := Option.some.inj ho
                  have gg : a9.tmps.getD 56 undef = .bool false := haf ⟨4, .guard⟩ (by simp) rfl
                  have f5 := getq (show a9.tmps.getD 57 undef = .slice (some ⟨g, 0, none⟩) L.length cv from haf ⟨5, .data⟩ (by simp) rfl)
                  have f6 := getq (show a9.tmps.getD 58 undef = .int .i64 (pre.length : Int) from haf ⟨6, .data⟩ (by simp) rfl)
                  refine skip_goodIn _ (wanted_some rfl (yielded_of (d := 56) rfl (by omega) gg)) ?_
                  clear haf ho hsz2 gg
                  intro K hK
                  simp only [List.getElem_toArray, List.getElem_cons_succ, List.getElem_cons_zero] at hK ⊢
                  obtain ⟨nn, rfl⟩ := hW
                  go_simp
                  exact hK _ _ ⟨Below.refl _ _, ⟨nn, rfl⟩, rfl⟩
                | 8, ho, haf =>
                  obtain rfl := Option.some.inj ho
                  have gg : a9.tmps.getD 56 undef = .bool false := haf ⟨4, .guard⟩ (by simp) rfl
                  have f7 := getq (show a9.tmps.getD 59 undef = .pointer (some ⟨g, pre.length * 14, none⟩) from haf ⟨7, .data⟩ (by simp) rfl)
                  refine skip_goodIn _ (wanted_some rfl (yielded_of (d := 56) rfl (by omega) gg)) ?_
                  clear haf ho hsz2 gg
                  intro K hK
                  simp only [List.getElem_toArray, List.getElem_cons_succ, List.getElem_cons_zero] at hK ⊢
                  obtain ⟨nn, rfl⟩ := hW
                  go_simp
                  exact hK _ _ ⟨Below.refl _ _, ⟨nn, rfl⟩, rfl⟩
                | 9, ho, haf =>
                  obtain rfl := Option.some.inj ho
                  have gg : a9.tmps.getD 56 undef = .bool false := haf ⟨4, .guard⟩ (by simp) rfl
                  refine skip_goodIn _ (wanted_some rfl (yielded_of (d := 56) rfl (by omega) gg)) ?_
                  clear haf ho hsz2 gg
                  intro K hK
                  simp only [List.getElem_toArray, List.getElem_cons_succ, List.getElem_cons_zero] at hK ⊢
                  obtain ⟨nn, rfl⟩ := hW
                  go_simp
                  exact hK _ _ ⟨Below.refl _ _, ⟨nn, rfl⟩, rfl⟩
                | 10, ho, haf =>
                  obtain rfl := Option.some.inj ho
                  have gg : a9.tmps.getD 56 undef = .bool false := haf ⟨4, .guard⟩ (by simp) rfl
                  have f8 := getq (show a9.tmps.getD 60 undef = .agg #[.int .i64 k0, .int .u64 (rl0 : Int), .int .i64 rk0, .string rkey0, .string rval0, .int .u64 (pl0 : Int), .int .i64 pk0, .int .i64 pa0, .int .i64 pn0, .string pkey0, .int .i64 ec0, .int .i64 eb0, .int .i64 ef0, .int .u32 (es0 : Int)] from haf ⟨8, .data⟩ (by simp) rfl)
                  have f9 := getq (show a9.tmps.getD 61 undef = .agg #[.int .i64 k, .int .u64 (rl : Int), .int .i64 rk, .string rkey, .string rval, .int .u64 (pl : Int), .int .i64 pk, .int .i64 pa, .int .i64 pn, .string pkey, .int .i64 ec, .int .i64 eb, .int .i64 ef, .int .u32 (es : Int)] from haf ⟨9, .data⟩ (by simp) rfl)
                  refine skip_goodIn _ (wanted_some rfl (yielded_of (d := 56) rfl (by omega) gg)) ?_
                  clear haf ho hsz2 gg
                  intro K hK
                  simp only [List.getElem_toArray, List.getElem_cons_succ, List.getElem_cons_zero] at hK ⊢
                  obtain ⟨nn, rfl⟩ := hW
                  go_simp
                  exact hK _ _ ⟨Below.refl _ _, ⟨nn, rfl⟩, rfl⟩
                | 11, ho, haf =>
                  obtain rfl := Option.some.inj ho
                  have f4 := getq (show a9.tmps.getD 56 undef = .bool false from haf ⟨4, .data⟩ (by simp) rfl)
                  have f10 := getq (show a9.tmps.getD 62 undef = .bool false from haf ⟨10, .data⟩ (by simp) rfl)
                  refine skip_goodIn _ (wanted_none rfl) ?_
                  clear haf ho hsz2
                  intro K hK
                  simp only [List.getElem_toArray, List.getElem_cons_succ, List.getElem_cons_zero] at hK ⊢
                  obtain ⟨nn, rfl⟩ := hW
                  go_simp
                  exact hK _ _ ⟨Below.refl _ _, ⟨nn, rfl⟩, rfl⟩
                | n + 12, ho, haf => simp at ho
              · intro aa w9 hW hdf hsz hout hall
                have hat : aa.tmps = #[Value.slice a l.length c, undef, Value.pointer (some { block := w.heap.size, off := 0 }), Value.slice a1 C.length c1, Value.slice a2 C.length c2, Value.slice a3 E.length c3, Value.int IntKind.i64 (E.length : Int), Value.pointer (some { block := M, off := 0 }), Value.func (Fn.func 25) #[] #[Value.pointer (some { block := M + 1, off := 0 })], Value.func (Fn.func 25) #[] #[Value.pointer (some { block := M + 1 + 1, off := 0 })], undef, undef, Value.pointer (some { block := P, off := 0 }), undef, Value.pointer (some { block := Bx, off := 0 }), Value.slice a l.length c, Value.slice a1 C.length c1, Value.slice a1 C.length c1, Value.slice a2 C.length c2, Value.slice a1 C.length c1, Value.slice a3 E.length c3, Value.int IntKind.i64 (E.length : Int), Value.slice a3 E.length c3, Value.int IntKind.i64 (E.length : Int), Value.bool false, u25, u26, u27, u28, u29, u30, u31, Value.slice a l.length c, Value.func (Fn.func 25) #[] #[Value.pointer (some { block := M + 1, off := 0 })], Value.slice a1 C.length c1, Value.func (Fn.func 25) #[] #[Value.pointer (some { block := M + 1 + 1, off := 0 })], Value.func (Fn.func 25) #[] #[Value.pointer (some { block := M + 1, off := 0 })], Value.bool false, Value.bool false, Value.func (Fn.func 25) #[] #[Value.pointer (some { block := M + 1 + 1, off := 0 })], Value.bool false, Value.bool false, Value.func (Fn.func 25) #[] #[Value.pointer (some { block := M + 1, off := 0 })], undef, undef, undef, undef, undef, undef, Value.func (Fn.func 25) #[] #[Value.pointer (some { block := M + 1 + 1, off := 0 })], .int .i64 (x1 : Int), .agg (frv ⟨k, ⟨rl, rk, rkey, rval⟩, ⟨pl, pk, pa, pn, pkey⟩, ⟨ec, eb, ef, es⟩⟩).toArray, .int .i64 (pre.length : Int), .slice (some ⟨g, 0, none⟩) L.length cv, .int .i64 (L.length : Int), .bool false, .bool false, .slice (some ⟨g, 0, none⟩) L.length cv, .int .i64 (pre.length : Int), .pointer (some ⟨g, pre.length * 14, none⟩), .agg #[.int .i64 k0, .int .u64 (rl0 : Int), .int .i64 rk0, .string rkey0, .string rval0, .int .u64 (pl0 : Int), .int .i64 pk0, .int .i64 pa0, .int .i64 pn0, .string pkey0, .int .i64 ec0, .int .i64 eb0, .int .i64 ef0, .int .u32 (es0 : Int)], .agg #[.int .i64 k, .int .u64 (rl : Int), .int .i64 rk, .string rkey, .string rval, .int .u64 (pl : Int), .int .i64 pk, .int .i64 pa, .int .i64 pn, .string pkey, .int .i64 ec, .int .i64 eb, .int .i64 ef, .int .u32 (es : Int)], .bool false, .bool false, undef, undef, undef, undef, undef, undef, undef, undef, undef, undef, undef, undef, undef, undef] := by
                  refine arr_one (hsz.trans rfl) fun kk hkk => ?_
                  match kk, hkk with
                  | 0, _ => exact hout 0 (notDst_spec (by kernel_rfl))
                  | 1, _ => exact hout 1 (notDst_spec (by kernel_rfl))
                  | 2, _ => exact hout 2 (notDst_spec (by kernel_rfl))
                  | 3, _ => exact hout 3 (notDst_spec (by kernel_rfl))
                  | 4, _ => exact hout 4 (notDst_spec (by kernel_rfl))
                  | 5, _ => exact hout 5 (notDst_spec (by kernel_rfl))
                  | 6, _ => exact hout 6 (notDst_spec (by kernel_rfl))
                  | 7, _ => exact hout 7 (notDst_spec (by kernel_rfl))
                  | 8, _ => exact hout 8 (notDst_spec (by kernel_rfl))
                  | 9, _ => exact hout 9 (notDst_spec (by kernel_rfl))
                  | 10, _ => exact hout 10 (notDst_spec (by kernel_rfl))
                  | 11, _ => exact hout 11 (notDst_spec (by kernel_rfl))
                  | 12, _ => exact hout 12 (notDst_spec (by kernel_rfl))
                  | 13, _ => exact hout 13 (notDst_spec (by kernel_rfl))
                  | 14, _ => exact hout 14 (notDst_spec (by kernel_rfl))
                  | 15, _ => exact hout 15 (notDst_spec (by kernel_rfl))
                  | 16, _ => exact hout 16 (notDst_spec (by kernel_rfl))
                  | 17, _ => exact hout 17 (notDst_spec (by kernel_rfl))
                  | 18, _ => exact hout 18 (notDst_spec (by kernel_rfl))
                  | 19, _ => exact hout 19 (notDst_spec (by kernel_rfl))
                  | 20, _ => exact hout 20 (notDst_spec (by kernel_rfl))
                  | 21, _ => exact hout 21 (notDst_spec (by kernel_rfl))
                  | 22, _ => exact hout 22 (notDst_spec (by kernel_rfl))
                  | 23, _ => exact hout 23 (notDst_spec (by kernel_rfl))
                  | 24, _ => exact hout 24 (notDst_spec (by kernel_rfl))
                  | 25, _ => exact hout 25 (notDst_spec (by kernel_rfl))
                  | 26, _ => exact hout 26 (notDst_spec (by kernel_rfl))
                  | 27, _ => exact hout 27 (notDst_spec (by kernel_rfl))
                  | 28, _ => exact hout 28 (notDst_spec (by kernel_rfl))
                  | 29, _ => exact hout 29 (notDst_spec (by kernel_rfl))
                  | 30, _ => exact hout 30 (notDst_spec (by kernel_rfl))
                  | 31, _ => exact hout 31 (notDst_spec (by kernel_rfl))
                  | 32, _ => exact hout 32 (notDst_spec (by kernel_rfl))
                  | 33, _ => exact hout 33 (notDst_spec (by kernel_rfl))
                  | 34, _ => exact hout 34 (notDst_spec (by kernel_rfl))
                  | 35, _ => exact hout 35 (notDst_spec (by kernel_rfl))
                  | 36, _ => exact hout 36 (notDst_spec (by kernel_rfl))
                  | 37, _ => exact hout 37 (notDst_spec (by kernel_rfl))
                  | 38, _ => exact hout 38 (notDst_spec (by kernel_rfl))
                  | 39, _ => exact hout 39 (notDst_spec (by kernel_rfl))
                  | 40, _ => exact hout 40 (notDst_spec (by kernel_rfl))
                  | 41, _ => exact hout 41 (notDst_spec (by kernel_rfl))
                  | 42, _ => exact hout 42 (notDst_spec (by kernel_rfl))
                  | 43, _ => exact hout 43 (notDst_spec (by kernel_rfl))
                  | 44, _ => exact hout 44 (notDst_spec (by kernel_rfl))
                  | 45, _ => exact hout 45 (notDst_spec (by kernel_rfl))
                  | 46, _ => exact hout 46 (notDst_spec (by kernel_rfl))
                  | 47, _ => exact hout 47 (notDst_spec (by kernel_rfl))
                  | 48, _ => exact hout 48 (notDst_spec (by kernel_rfl))
                  | 49, _ => exact hout 49 (notDst_spec (by kernel_rfl))
                  | 50, _ => exact hout 50 (notDst_spec (by kernel_rfl))
                  | 51, _ => exact hout 51 (notDst_spec (by kernel_rfl))
                  | 52, _ => exact hall 0 (by decide)
                  | 53, _ => exact hall 1 (by decide)
                  | 54, _ => exact hall 2 (by decide)
                  | 55, _ => exact hall 3 (by decide)
                  | 56, _ => exact hall 4 (by decide)
                  | 57, _ => exact hall 5 (by decide)
                  | 58, _ => exact hall 6 (by decide)
                  | 59, _ => exact hall 7 (by decide)
                  | 60, _ => exact hall 8 (by decide)
                  | 61, _ => exact hall 9 (by decide)
                  | 62, _ => exact hall 10 (by decide)
                  | 63, _ => exact hall 11 (by decide)
                  | 64, _ => exact hout 64 (notDst_spec (by kernel_rfl))
                  | 65, _ => exact hout 65 (notDst_spec (by kernel_rfl))
                  | 66, _ => exact hout 66 (notDst_spec (by kernel_rfl))
                  | 67, _ => exact hout 67 (notDst_spec (by kernel_rfl))
                  | 68, _ => exact hout 68 (notDst_spec (by kernel_rfl))
                  | 69, _ => exact hout 69 (notDst_spec (by kernel_rfl))
                  | 70, _ => exact hout 70 (notDst_spec (by kernel_rfl))
                  | 71, _ => exact hout 71 (notDst_spec (by kernel_rfl))
                  | 72, _ => exact hout 72 (notDst_spec (by kernel_rfl))
                  | 73, _ => exact hout 73 (notDst_spec (by kernel_rfl))
                  | 74, _ => exact hout 74 (notDst_spec (by kernel_rfl))
                  | 75, _ => exact hout 75 (notDst_spec (by kernel_rfl))
                  | 76, _ => exact hout 76 (notDst_spec (by kernel_rfl))
                  | 77, _ => exact hout 77 (notDst_spec (by kernel_rfl))
                  | n + 78, h => exact absurd h (by simp)
                obtain ⟨tt, dd⟩ := aa
                simp only at hat hdf
                subst hat hdf
                clear hsz hout hall
                obtain ⟨nn, rfl⟩ := hW
                gi_wp2
                rw [HW1.out]
                refine ⟨((ko_drewN U nn).trans (KeepsOthers.setCell _ _ _)).from _, ((KeepS.refl U).drewN nn).setCell (p := ⟨P, 0, none⟩) (fun h => ?_) _, (show Boxed (U.setCell ⟨P, 0, none⟩ _) P _ _ from BNU.out.set _), ?_, (below_drewN HB.out nn).setCell (p := ⟨P, 0, none⟩) (Nat.le_refl _) _, by simp [World.setCell]; omega, hXM⟩
                · rcases h with h | h
                  · exact absurd (show P < P from h) (Nat.lt_irrefl _)
                  · have := hXM _ h; have h2 : P + 1 ≤ P := this; omega
                · rw [HMP.out]; exact HYES.out
            | true =>
              have HNO : Hid (¬ pre.map (fun x => frv x.1.2.2) ++ [frv ⟨k, ⟨rl, rk, rkey, rval⟩, ⟨pl, pk, pa, pn, pkey⟩, ⟨ec, eb, ef, es⟩⟩] <+: L) := hd (pre_snoc_no (by
                rw [HPL.out]
                intro e
                have e2 := HF0.out.symm.trans e
                injection e2 with e2
                have := hbf.2 (frv_inj (f := ⟨k0, ⟨rl0, rk0, rkey0, rval0⟩, ⟨pl0, pk0, pa0, pn0, pkey0⟩, ⟨ec0, eb0, ef0, es0⟩⟩) e2)
                cases this))
              clear hbf
              gi_wp2
              refine region_skipIn (fun i9 v9 _ => match i9 with
                | 0 => v9 = .int .i64 (pre.length : Int)
                | 1 => v9 = .slice (some ⟨g, 0, none⟩) L.length cv
                | 2 => v9 = .int .i64 (L.length : Int)
                | 3 => v9 = .bool false
                | 4 => v9 = .bool false
                | 5 => v9 = .slice (some ⟨g, 0, none⟩) L.length cv
                | 6 => v9 = .int .i64 (pre.length : Int)
                | 7 => v9 = .pointer (some ⟨g, pre.length * 14, none⟩)
                | 8 => v9 = .agg #[.int .i64 k0, .int .u64 (rl0 : Int), .int .i64 rk0, .string rkey0, .string rval0, .int .u64 (pl0 : Int), .int .i64 pk0, .int .i64 pa0, .int .i64 pn0, .string pkey0, .int .i64 ec0, .int .i64 eb0, .int .i64 ef0, .int .u32 (es0 : Int)]
                | 9 => v9 = .agg #[.int .i64 k, .int .u64 (rl : Int), .int .i64 rk, .string rkey, .string rval, .int .u64 (pl : Int), .int .i64 pk, .int .i64 pa, .int .i64 pn, .string pkey, .int .i64 ec, .int .i64 eb, .int .i64 ef, .int .u32 (es : Int)]
                | 10 => v9 = .bool true
                | _ => v9 = .bool true) (fun w => ∃ nn, w = U.drewN nn) (fun _ => trivial) hmx (by kernel_rfl) (by kernel_rfl) ⟨1, rfl⟩ ?_ ?_ ?_
              · intro i9 v9 w8 w9 _ _ hb hG
                match i9, hG with
                | 0, h => exact h
                | 1, h => exact h
                | 2, h => exact h
                | 3, h => exact h
                | 4, h => exact h
                | 5, h => exact h
                | 6, h => exact h
                | 7, h => exact h
                | 8, h => exact h
                | 9, h => exact h
                | 10, h => exact h
                | n + 11, h => exact h
              · intro i9 o9 ho a9 w9 hW hdf hsz hout haf
                have ee7 := getq (show a9.tmps.getD 7 undef = Value.pointer (some { block := M, off := 0 }) from hout 7 (notDst_spec (by kernel_rfl)))
                have ee12 := getq (show a9.tmps.getD 12 undef = Value.pointer (some { block := P, off := 0 }) from hout 12 (notDst_spec (by kernel_rfl)))
                have ee14 := getq (show a9.tmps.getD 14 undef = Value.pointer (some { block := Bx, off := 0 }) from hout 14 (notDst_spec (by kernel_rfl)))
                have hsz2 : a9.tmps.size = 78 := hsz
                clear hout hsz hdf
                match i9, ho, haf with
                | 0, ho, haf =>
                  obtain rfl := Option.some.inj ho
                  refine skip_goodIn _ (wanted_none rfl) ?_
                  clear haf ho hsz2
                  intro K hK
                  simp only [List.getElem_toArray, List.getElem_cons_zero] at hK ⊢
                  obtain ⟨nn, rfl⟩ := hW
                  go_simp
                  exact hK _ _ ⟨Below.refl _ _, ⟨nn, rfl⟩, rfl⟩
                | 1, ho, haf =>
                  obtain rfl := Option.some.inj ho
                  refine skip_goodIn _ (wanted_none rfl) ?_
                  clear haf ho hsz2
                  intro K hK
                  simp only [List.getElem_toArray, List.getElem_cons_succ, List.getElem_cons_zero] at hK ⊢
                  obtain ⟨nn, rfl⟩ := hW
                  go_simp
                  exact hK _ _ ⟨Below.refl _ _, ⟨nn, rfl⟩, rfl⟩
                | 2, ho, haf =>
                  obtain rfl := Option.some.inj ho
                  have f1 := getq (show a9.tmps.getD 53 undef = .slice (some ⟨g, 0, none⟩) L.length cv from haf ⟨1, .data⟩ (by simp) rfl)
                  refine skip_goodIn _ (wanted_none rfl) ?_
                  clear haf ho hsz2
                  intro K hK
                  simp only [List.getElem_toArray, List.getElem_cons_succ, List.getElem_cons_zero] at hK ⊢
                  obtain ⟨nn, rfl⟩ := hW
                  go_simp
                  exact hK _ _ ⟨Below.refl _ _, ⟨nn, rfl⟩, rfl⟩
                | 3, ho, haf =>
                  obtain rfl := Option.some.inj ho
                  have f0 := getq (show a9.tmps.getD 52 undef = .int .i64 (pre.length : Int) from haf ⟨0, .data⟩ (by simp) rfl)
                  have f2 := getq (show a9.tmps.getD 54 undef = .int .i64 (L.length : Int) from haf ⟨2, .data⟩ (by simp) rfl)
                  refine skip_goodIn _ (wanted_none rfl) ?_
                  clear haf ho hsz2
                  intro K hK
                  simp only [List.getElem_toArray, List.getElem_cons_succ, List.getElem_cons_zero] at hK ⊢
                  obtain ⟨nn, rfl⟩ := hW
                  go_simp
                  exact hK _ _ ⟨Below.refl _ _, ⟨nn, rfl⟩, (by first | rfl | (simp only [Value.bool.injEq, decide_eq_false_iff_not]; omega) | (simp only [Value.bool.injEq, decide_eq_true_eq]; omega))⟩
                | 4, ho, haf =>
                  obtain rfl := Option.some.inj ho
                  have f3 := getq (show a9.tmps.getD 55 undef = .bool false from haf ⟨3, .data⟩ (by simp) rfl)
                  refine skip_goodIn _ (wanted_none rfl) ?_
                  clear haf ho hsz2
                  intro K hK
                  simp only [List.getElem_toArray, List.getElem_cons_succ, List.getElem_cons_zero] at hK ⊢
                  obtain ⟨nn, rfl⟩ := hW
                  go_simp
                  exact hK _ _ ⟨Below.refl _ _, ⟨nn, rfl⟩, rfl⟩
                | 5, ho, haf =>
                  obtain rfl := Option.some.inj ho
                  have gg : a9.tmps.getD 56 undef = .bool false := haf ⟨4, .guard⟩ (by simp) rfl
                  refine skip_goodIn _ (wanted_some rfl (yielded_of (d := 56) rfl (by omega) gg)) ?_
                  clear haf ho hsz2 gg
                  intro K hK
                  simp only [List.getElem_toArray, List.getElem_cons_succ, List.getElem_cons_zero] at hK ⊢
                  obtain ⟨nn, rfl⟩ := hW
                  go_simp
                  exact hK _ _ ⟨Below.refl _ _, ⟨nn, rfl⟩, rfl⟩
                | 6, ho, haf =>
                  obtain rfl := Option.some.inj ho
                  have gg : a9.tmps.getD 56 undef = .bool false := haf ⟨4, .guard⟩ (by simp) rfl
                  refine skip_goodIn _ (wanted_some rfl (yielded_of (d := 56) rfl (by omega) gg)) ?_
                  clear haf ho hsz2 gg
                  intro K hK
                  simp only [List.getElem_toArray, List.getElem_cons_succ, List.getElem_cons_zero] at hK ⊢
                  obtain ⟨nn, rfl⟩ := hW
                  go_simp
                  exact hK _ _ ⟨Below.refl _ _, ⟨nn, rfl⟩, rfl⟩
                | 7, ho, haf =>
                  obtain rfl := Option.some.inj ho
                  have gg : a9.tmps.getD 56 undef = .bool false := haf ⟨4, .guard⟩ (by simp) rfl
                  have f5 := getq (show a9.tmps.getD 57 undef = .slice (some ⟨g, 0, none⟩) L.length cv from haf ⟨5, .data⟩ (by simp) rfl)
                  have f6 := getq (show a9.tmps.getD 58 undef = .int .i64 (pre.length : Int) from haf ⟨6, .data⟩ (by simp) rfl)
                  refine skip_goodIn _ (wanted_some rfl (yielded_of (d := 56) rfl (by omega) gg)) ?_
                  clear haf ho hsz2 gg
                  intro K hK
                  simp only [List.getElem_toArray, List.getElem_cons_succ, List.getElem_cons_zero] at hK ⊢
                  obtain ⟨nn, rfl⟩ := hW
                  go_simp
                  exact hK _ _ ⟨Below.refl _ _, ⟨nn, rfl⟩, rfl⟩
                | 8, ho, haf =>
                  obtain rfl := Option.some.inj ho
                  have gg : a9.tmps.getD 56 undef = .bool false := haf ⟨4, .guard⟩ (by simp) rfl
                  have f7 := getq (show a9.tmps.getD 59 undef = .pointer (some ⟨g, pre.length * 14, none⟩) from haf ⟨7, .data⟩ (by simp) rfl)
                  refine skip_goodIn _ (wanted_some rfl (yielded_of (d := 56) rfl (by omega) gg)) ?_
                  clear haf ho hsz2 gg
                  intro K hK
                  simp only [List.getElem_toArray, List.getElem_cons_succ, List.getElem_cons_zero] at hK ⊢
                  obtain ⟨nn, rfl⟩ := hW
                  go_simp
                  exact hK _ _ ⟨Below.refl _ _, ⟨nn, rfl⟩, rfl⟩
                | 9, ho, haf =>
                  obtain rfl := Option.some.inj ho
                  have gg : a9.tmps.getD 56 undef = .bool false := haf ⟨4, .guard⟩ (by simp) rfl
                  refine skip_goodIn _ (wanted_some rfl (yielded_of (d := 56) rfl (by omega) gg)) ?_
                  clear haf ho hsz2 gg
                  intro K hK
                  simp only [List.getElem_toArray, List.getElem_cons_succ, List.getElem_cons_zero] at hK ⊢
                  obtain ⟨nn, rfl⟩ := hW
                  go_simp
                  exact hK _ _ ⟨Below.refl _ _, ⟨nn, rfl⟩, rfl⟩
                | 10, ho, haf =>
                  obtain rfl := Option.some.inj ho
                  have gg : a9.tmps.getD 56 undef = .bool false := haf ⟨4, .guard⟩ (by simp) rfl
                  have f8 := getq (show a9.tmps.getD 60 undef = .agg #[.int .i64 k0, .int .u64 (rl0 : Int), .int .i64 rk0, .string rkey0, .string rval0, .int .u64 (pl0 : Int), .int .i64 pk0, .int .i64 pa0, .int .i64 pn0, .string pkey0, .int .i64 ec0, .int .i64 eb0, .int .i64 ef0, .int .u32 (es0 : Int)] from haf ⟨8, .data⟩ (by simp) rfl)
                  have f9 := getq (show a9.tmps.getD 61 undef = .agg #[.int .i64 k, .int .u64 (rl : Int), .int .i64 rk, .string rkey, .string rval, .int .u64 (pl : Int), .int .i64 pk, .int .i64 pa, .int .i64 pn, .string pkey, .int .i64 ec, .int .i64 eb, .int .i64 ef, .int .u32 (es : Int)] from haf ⟨9, .data⟩ (by simp) rfl)
                  refine skip_goodIn _ (wanted_some rfl (yielded_of (d := 56) rfl (by omega) gg)) ?_
                  clear haf ho hsz2 gg
                  intro K hK
                  simp only [List.getElem_toArray, List.getElem_cons_succ, List.getElem_cons_zero] at hK ⊢
                  obtain ⟨nn, rfl⟩ := hW
                  go_simp
                  exact hK _ _ ⟨Below.refl _ _, ⟨nn, rfl⟩, rfl⟩
                | 11, ho, haf =>
                  obtain rfl := Option.some.inj ho
                  have f4 := getq (show a9.tmps.getD 56 undef = .bool false from haf ⟨4, .data⟩ (by simp) rfl)
                  have f10 := getq (show a9.tmps.getD 62 undef = .bool true from haf ⟨10, .data⟩ (by simp) rfl)
                  refine skip_goodIn _ (wanted_none rfl) ?_
                  clear haf ho hsz2
                  intro K hK
                  simp only [List.getElem_toArray, List.getElem_cons_succ, List.getElem_cons_zero] at hK ⊢
                  obtain ⟨nn, rfl⟩ := hW
                  go_simp
                  exact hK _ _ ⟨Below.refl _ _, ⟨nn, rfl⟩, rfl⟩
                | n + 12, ho, haf => simp at ho
              · intro aa w9 hW hdf hsz hout hall
                have hat : aa.tmps = #[Value.slice a l.length c, undef, Value.pointer (some { block := w.heap.size, off := 0 }), Value.slice a1 C.length c1, Value.slice a2 C.length c2, Value.slice a3 E.length c3, Value.int IntKind.i64 (E.length : Int), Value.pointer (some { block := M, off := 0 }), Value.func (Fn.func 25) #[] #[Value.pointer (some { block := M + 1, off := 0 })], Value.func (Fn.func 25) #[] #[Value.pointer (some { block := M + 1 + 1, off := 0 })], undef, undef, Value.pointer (some { block := P, off := 0 }), undef, Value.pointer (some { block := Bx, off := 0 }), Value.slice a l.length c, Value.slice a1 C.length c1, Value.slice a1 C.length c1, Value.slice a2 C.length c2, Value.slice a1 C.length c1, Value.slice a3 E.length c3, Value.int IntKind.i64 (E.length : Int), Value.slice a3 E.length c3, Value.int IntKind.i64 (E.length : Int), Value.bool false, u25, u26, u27, u28, u29, u30, u31, Value.slice a l.length c, Value.func (Fn.func 25) #[] #[Value.pointer (some { block := M + 1, off := 0 })], Value.slice a1 C.length c1, Value.func (Fn.func 25) #[] #[Value.pointer (some { block := M + 1 + 1, off := 0 })], Value.func (Fn.func 25) #[] #[Value.pointer (some { block := M + 1, off := 0 })], Value.bool false, Value.bool false, Value.func (Fn.func 25) #[] #[Value.pointer (some { block := M + 1 + 1, off := 0 })], Value.bool false, Value.bool false, Value.func (Fn.func 25) #[] #[Value.pointer (some { block := M + 1, off := 0 })], undef, undef, undef, undef, undef, undef, Value.func (Fn.func 25) #[] #[Value.pointer (some { block := M + 1 + 1, off := 0 })], .int .i64 (x1 : Int), .agg (frv ⟨k, ⟨rl, rk, rkey, rval⟩, ⟨pl, pk, pa, pn, pkey⟩, ⟨ec, eb, ef, es⟩⟩).toArray, .int .i64 (pre.length : Int), .slice (some ⟨g, 0, none⟩) L.length cv, .int .i64 (L.length : Int), .bool false, .bool false, .slice (some ⟨g, 0, none⟩) L.length cv, .int .i64 (pre.length : Int), .pointer (some ⟨g, pre.length * 14, none⟩), .agg #[.int .i64 k0, .int .u64 (rl0 : Int), .int .i64 rk0, .string rkey0, .string rval0, .int .u64 (pl0 : Int), .int .i64 pk0, .int .i64 pa0, .int .i64 pn0, .string pkey0, .int .i64 ec0, .int .i64 eb0, .int .i64 ef0, .int .u32 (es0 : Int)], .agg #[.int .i64 k, .int .u64 (rl : Int), .int .i64 rk, .string rkey, .string rval, .int .u64 (pl : Int), .int .i64 pk, .int .i64 pa, .int .i64 pn, .string pkey, .int .i64 ec, .int .i64 eb, .int .i64 ef, .int .u32 (es : Int)], .bool true, .bool true, undef, undef, undef, undef, undef, undef, undef, undef, undef, undef, undef, undef, undef, undef] := by
                  refine arr_one (hsz.trans rfl) fun kk hkk => ?_
                  match kk, hkk with
                  | 0, _ => exact hout 0 (notDst_spec (by kernel_rfl))
                  | 1, _ => exact hout 1 (notDst_spec (by kernel_rfl))
                  | 2, _ => exact hout 2 (notDst_spec (by kernel_rfl))
                  | 3, _ => exact hout 3 (notDst_spec (by kernel_rfl))
                  | 4, _ => exact hout 4 (notDst_spec (by kernel_rfl))
                  | 5, _ => exact hout 5 (notDst_spec (by kernel_rfl))
                  | 6, _ => exact hout 6 (notDst_spec (by kernel_rfl))
                  | 7, _ => exact hout 7 (notDst_spec (by kernel_rfl))
                  | 8, _ => exact hout 8 (notDst_spec (by kernel_rfl))
                  | 9, _ => exact hout 9 (notDst_spec (by kernel_rfl))
                  | 10, _ => exact hout 10 (notDst_spec (by kernel_rfl))
                  | 11, _ => exact hout 11 (notDst_spec (by kernel_rfl))
                  | 12, _ => exact hout 12 (notDst_spec (by kernel_rfl))
                  | 13, _ => exact hout 13 (notDst_spec (by kernel_rfl))
                  | 14, _ => exact hout 14 (notDst_spec (by kernel_rfl))
                  | 15, _ => exact hout 15 (notDst_spec (by kernel_rfl))
                  | 16, _ => exact hout 16 (notDst_spec (by kernel_rfl))
                  | 17, _ => exact hout 17 (notDst_spec (by kernel_rfl))
                  | 18, _ => exact hout 18 (notDst_spec (by kernel_rfl))
                  | 19, _ => exact hout 19 (notDst_spec (by kernel_rfl))
                  | 20, _ => exact hout 20 (notDst_spec (by kernel_rfl))
                  | 21, _ => exact hout 21 (notDst_spec (by kernel_rfl))
                  | 22, _ => exact hout 22 (notDst_spec (by kernel_rfl))
                  | 23, _ => exact hout 23 (notDst_spec (by kernel_rfl))
                  | 24, _ => exact hout 24 (notDst_spec (by kernel_rfl))
                  | 25, _ => exact hout 25 (notDst_spec (by kernel_rfl))
                  | 26, _ => exact hout 26 (notDst_spec (by kernel_rfl))
                  | 27, _ => exact hout 27 (notDst_spec (by kernel_rfl))
                  | 28, _ => exact hout 28 (notDst_spec (by kernel_rfl))
                  | 29, _ => exact hout 29 (notDst_spec (by kernel_rfl))
                  | 30, _ => exact hout 30 (notDst_spec (by kernel_rfl))
                  | 31, _ => exact hout 31 (notDst_spec (by kernel_rfl))
                  | 32, _ => exact hout 32 (notDst_spec (by kernel_rfl))
                  | 33, _ => exact hout 33 (notDst_spec (by kernel_rfl))
                  | 34, _ => exact hout 34 (notDst_spec (by kernel_rfl))
                  | 35, _ => exact hout 35 (notDst_spec (by kernel_rfl))
                  | 36, _ => exact hout 36 (notDst_spec (by kernel_rfl))
                  | 37, _ => exact hout 37 (notDst_spec (by kernel_rfl))
                  | 38, _ => exact hout 38 (notDst_spec (by kernel_rfl))
                  | 39, _ => exact hout 39 (notDst_spec (by kernel_rfl))
                  | 40, _ => exact hout 40 (notDst_spec (by kernel_rfl))
                  | 41, _ => exact hout 41 (notDst_spec (by kernel_rfl))
                  | 42, _ => exact hout 42 (notDst_spec (by kernel_rfl))
                  | 43, _ => exact hout 43 (notDst_spec (by kernel_rfl))
                  | 44, _ => exact hout 44 (notDst_spec (by kernel_rfl))
                  | 45, _ => exact hout 45 (notDst_spec (by kernel_rfl))
                  | 46, _ => exact hout 46 (notDst_spec (by kernel_rfl))
                  | 47, _ => exact hout 47 (notDst_spec (by kernel_rfl))
                  | 48, _ => exact hout 48 (notDst_spec (by kernel_rfl))
                  | 49, _ => exact hout 49 (notDst_spec (by kernel_rfl))
                  | 50, _ => exact hout 50 (notDst_spec (by kernel_rfl))
                  | 51, _ => exact hout 51 (notDst_spec (by kernel_rfl))
                  | 52, _ => exact hall 0 (by decide)
                  | 53, _ => exact hall 1 (by decide)
                  | 54, _ => exact hall 2 (by decide)
                  | 55, _ => exact hall 3 (by decide)
                  | 56, _ => exact hall 4 (by decide)
                  | 57, _ => exact hall 5 (by decide)
                  | 58, _ => exact hall 6 (by decide)
                  | 59, _ => exact hall 7 (by decide)
                  | 60, _ => exact hall 8 (by decide)
                  | 61, _ => exact hall 9 (by decide)
                  | 62, _ => exact hall 10 (by decide)
                  | 63, _ => exact hall 11 (by decide)
                  | 64, _ => exact hout 64 (notDst_spec (by kernel_rfl))
                  | 65, _ => exact hout 65 (notDst_spec (by kernel_rfl))
                  | 66, _ => exact hout 66 (notDst_spec (by kernel_rfl))
                  | 67, _ => exact hout 67 (notDst_spec (by kernel_rfl))
                  | 68, _ => exact hout 68 (notDst_spec (by kernel_rfl))
                  | 69, _ => exact hout 69 (notDst_spec (by kernel_rfl))
                  | 70, _ => exact hout 70 (notDst_spec (by kernel_rfl))
                  | 71, _ => exact hout 71 (notDst_spec (by kernel_rfl))
                  | 72, _ => exact hout 72 (notDst_spec (by kernel_rfl))
                  | 73, _ => exact hout 73 (notDst_spec (by kernel_rfl))
                  | 74, _ => exact hout 74 (notDst_spec (by kernel_rfl))
                  | 75, _ => exact hout 75 (notDst_spec (by kernel_rfl))
                  | 76, _ => exact hout 76 (notDst_spec (by kernel_rfl))
                  | 77, _ => exact hout 77 (notDst_spec (by kernel_rfl))
                  | n + 78, h => exact absurd h (by simp)
                obtain ⟨tt, dd⟩ := aa
                simp only at hat hdf
                subst hat hdf
                clear hsz hout hall
                obtain ⟨nn, rfl⟩ := hW
                gi_wp2
                refine ⟨((ko_drewN U nn).trans (KeepsOthers.setCell _ _ _)).from _, ?_⟩
                exact fun h => HNO.out (by rw [← HMP.out]; exact h)
          · have hge : (pre.length : Int) ≥ (L.length : Int) := by omega
            have HNO : Hid (¬ pre.map (fun x => frv x.1.2.2) ++ [frv ⟨k, ⟨rl, rk, rkey, rval⟩, ⟨pl, pk, pa, pn, pkey⟩, ⟨ec, eb, ef, es⟩⟩] <+: L) := hd (pre_snoc_no (by
              rw [HPL.out, List.getElem?_eq_none (by omega)]
              intro e
              cases e))
            gi_wp2
            refine region_skipIn (fun i9 v9 _ => match i9 with
              | 0 => v9 = .int .i64 (pre.length : Int)
              | 1 => v9 = .slice av L.length cv
              | 2 => v9 = .int .i64 (L.length : Int)
              | 3 => v9 = .bool true
              | 4 => v9 = .bool true
              | 5 => v9 = undef
              | 6 => v9 = undef
              | 7 => v9 = undef
              | 8 => v9 = undef
              | 9 => v9 = undef
              | 10 => v9 = undef
              | _ => v9 = .bool true) (fun w => ∃ nn, w = U.drewN nn) (fun _ => trivial) hmx (by kernel_rfl) (by kernel_rfl) ⟨1, rfl⟩ ?_ ?_ ?_
            · intro i9 v9 w8 w9 _ _ hb hG
              match i9, hG with
              | 0, h => exact h
              | 1, h => exact h
              | 2, h => exact h
              | 3, h => exact h
              | 4, h => exact h
              | 5, h => exact h
              | 6, h => exact h
              | 7, h => exact h
              | 8, h => exact h
              | 9, h => exact h
              | 10, h => exact h
              | n + 11, h => exact h
            · intro i9 o9 ho a9 w9 hW hdf hsz hout haf
              have ee7 := getq (show a9.tmps.getD 7 undef = Value.pointer (some { block := M, off := 0 }) from hout 7 (notDst_spec (by kernel_rfl)))
              have ee12 := getq (show a9.tmps.getD 12 undef = Value.pointer (some { block := P, off := 0 }) from hout 12 (notDst_spec (by kernel_rfl)))
              have hsz2 : a9.tmps.size = 78 := hsz
              clear hout hsz hdf
              match i9, ho, haf with
              | 0, ho, haf =>
                obtain rfl := Option.some.inj ho
                refine skip_goodIn _ (wanted_none rfl) ?_
                clear haf ho hsz2
                intro K hK
                simp only [List.getElem_toArray, List.getElem_cons_zero] at hK ⊢
                obtain ⟨nn, rfl⟩ := hW
                go_simp
                exact hK _ _ ⟨Below.refl _ _, ⟨nn, rfl⟩, rfl⟩
              | 1, ho, haf =>
                obtain rfl := Option.some.inj ho
                refine skip_goodIn _ (wanted_none rfl) ?_
                clear haf ho hsz2
                intro K hK
                simp only [List.getElem_toArray, List.getElem_cons_succ, List.getElem_cons_zero] at hK ⊢
                obtain ⟨nn, rfl⟩ := hW
                go_simp
                exact hK _ _ ⟨Below.refl _ _, ⟨nn, rfl⟩, rfl⟩
              | 2, ho, haf =>
                obtain rfl := Option.some.inj ho
                have f1 := getq (show a9.tmps.getD 53 undef = .slice av L.length cv from haf ⟨1, .data⟩ (by simp) rfl)
                refine skip_goodIn _ (wanted_none rfl) ?_
                clear haf ho hsz2
                intro K hK
                simp only [List.getElem_toArray, List.getElem_cons_succ, List.getElem_cons_zero] at hK ⊢
                obtain ⟨nn, rfl⟩ := hW
                go_simp
                exact hK _ _ ⟨Below.refl _ _, ⟨nn, rfl⟩, rfl⟩
              | 3, ho, haf =>
                obtain rfl := Option.some.inj ho
                have f0 := getq (show a9.tmps.getD 52 undef = .int .i64 (pre.length : Int) from haf ⟨0, .data⟩ (by simp) rfl)
                have f2 := getq (show a9.tmps.getD 54 undef = .int .i64 (L.length : Int) from haf ⟨2, .data⟩ (by simp) rfl)
                refine skip_goodIn _ (wanted_none rfl) ?_
                clear haf ho hsz2
                intro K hK
                simp only [List.getElem_toArray, List.getElem_cons_succ, List.getElem_cons_zero] at hK ⊢
                obtain ⟨nn, rfl⟩ := hW
                go_simp
                exact hK _ _ ⟨Below.refl _ _, ⟨nn, rfl⟩, (by first | rfl | (simp only [Value.bool.injEq, decide_eq_false_iff_not]; omega) | (simp only [Value.bool.injEq, decide_eq_true_eq]; omega))⟩
              | 4, ho, haf =>
                obtain rfl := Option.some.inj ho
                have f3 := getq (show a9.tmps.getD 55 undef = .bool true from haf ⟨3, .data⟩ (by simp) rfl)
                refine skip_goodIn _ (wanted_none rfl) ?_
                clear haf ho hsz2
                intro K hK
                simp only [List.getElem_toArray, List.getElem_cons_succ, List.getElem_cons_zero] at hK ⊢
                obtain ⟨nn, rfl⟩ := hW
                go_simp
                exact hK _ _ ⟨Below.refl _ _, ⟨nn, rfl⟩, rfl⟩
              | 5, ho, haf =>
                obtain rfl := Option.some.inj ho
                have gg : a9.tmps.getD 56 undef = .bool true := haf ⟨4, .guard⟩ (by simp) rfl
                exact skip_no (b := true) rfl (yielded_of (d := 56) rfl (by omega) gg) rfl
              | 6, ho, haf =>
                obtain rfl := Option.some.inj ho
                have gg : a9.tmps.getD 56 undef = .bool true := haf ⟨4, .guard⟩ (by simp) rfl
                exact skip_no (b := true) rfl (yielded_of (d := 56) rfl (by omega) gg) rfl
              | 7, ho, haf =>
                obtain rfl := Option.some.inj ho
                have gg : a9.tmps.getD 56 undef = .bool true := haf ⟨4, .guard⟩ (by simp) rfl
                exact skip_no (b := true) rfl (yielded_of (d := 56) rfl (by omega) gg) rfl
              | 8, ho, haf =>
                obtain rfl := Option.some.inj ho
                have gg : a9.tmps.getD 56 undef = .bool true := haf ⟨4, .guard⟩ (by simp) rfl
                exact skip_no (b := true) rfl (yielded_of (d := 56) rfl (by omega) gg) rfl
              | 9, ho, haf =>
                obtain rfl := Option.some.inj ho
                have gg : a9.tmps.getD 56 undef = .bool true := haf ⟨4, .guard⟩ (by simp) rfl
                exact skip_no (b := true) rfl (yielded_of (d := 56) rfl (by omega) gg) rfl
              | 10, ho, haf =>
                obtain rfl := Option.some.inj ho
                have gg : a9.tmps.getD 56 undef = .bool true := haf ⟨4, .guard⟩ (by simp) rfl
                exact skip_no (b := true) rfl (yielded_of (d := 56) rfl (by omega) gg) rfl
              | 11, ho, haf =>
                obtain rfl := Option.some.inj ho
                have f4 := getq (show a9.tmps.getD 56 undef = .bool true from haf ⟨4, .data⟩ (by simp) rfl)
                have f10 := getq (show a9.tmps.getD 62 undef = undef from haf ⟨10, .data⟩ (by simp) rfl)
                refine skip_goodIn _ (wanted_none rfl) ?_
                clear haf ho hsz2
                intro K hK
                simp only [List.getElem_toArray, List.getElem_cons_succ, List.getElem_cons_zero] at hK ⊢
                obtain ⟨nn, rfl⟩ := hW
                go_simp
                exact hK _ _ ⟨Below.refl _ _, ⟨nn, rfl⟩, rfl⟩
              | n + 12, ho, haf => simp at ho
            · intro aa w9 hW hdf hsz hout hall
              have hat : aa.tmps = #[Value.slice a l.length c, undef, Value.pointer (some { block := w.heap.size, off := 0 }), Value.slice a1 C.length c1, Value.slice a2 C.length c2, Value.slice a3 E.length c3, Value.int IntKind.i64 (E.length : Int), Value.pointer (some { block := M, off := 0 }), Value.func (Fn.func 25) #[] #[Value.pointer (some { block := M + 1, off := 0 })], Value.func (Fn.func 25) #[] #[Value.pointer (some { block := M + 1 + 1, off := 0 })], undef, undef, Value.pointer (some { block := P, off := 0 }), undef, Value.pointer (some { block := Bx, off := 0 }), Value.slice a l.length c, Value.slice a1 C.length c1, Value.slice a1 C.length c1, Value.slice a2 C.length c2, Value.slice a1 C.length c1, Value.slice a3 E.length c3, Value.int IntKind.i64 (E.length : Int), Value.slice a3 E.length c3, Value.int IntKind.i64 (E.length : Int), Value.bool false, u25, u26, u27, u28, u29, u30, u31, Value.slice a l.length c, Value.func (Fn.func 25) #[] #[Value.pointer (some { block := M + 1, off := 0 })], Value.slice a1 C.length c1, Value.func (Fn.func 25) #[] #[Value.pointer (some { block := M + 1 + 1, off := 0 })], Value.func (Fn.func 25) #[] #[Value.pointer (some { block := M + 1, off := 0 })], Value.bool false, Value.bool false, Value.func (Fn.func 25) #[] #[Value.pointer (some { block := M + 1 + 1, off := 0 })], Value.bool false, Value.bool false, Value.func (Fn.func 25) #[] #[Value.pointer (some { block := M + 1, off := 0 })], undef, undef, undef, undef, undef, undef, Value.func (Fn.func 25) #[] #[Value.pointer (some { block := M + 1 + 1, off := 0 })], .int .i64 (x1 : Int), .agg (frv ⟨k, ⟨rl, rk, rkey, rval⟩, ⟨pl, pk, pa, pn, pkey⟩, ⟨ec, eb, ef, es⟩⟩).toArray, .int .i64 (pre.length : Int), .slice av L.length cv, .int .i64 (L.length : Int), .bool true, .bool true, undef, undef, undef, undef, undef, undef, .bool true, undef, undef, undef, undef, undef, undef, undef, undef, undef, undef, undef, undef, undef, undef] := by
                refine arr_one (hsz.trans rfl) fun kk hkk => ?_
                match kk, hkk with
                | 0, _ => exact hout 0 (notDst_spec (by kernel_rfl))
                | 1, _ => exact hout 1 (notDst_spec (by kernel_rfl))
                | 2, _ => exact hout 2 (notDst_spec (by kernel_rfl))
                | 3, _ => exact hout 3 (notDst_spec (by kernel_rfl))
                | 4, _ => exact hout 4 (notDst_spec (by kernel_rfl))
                | 5, _ => exact hout 5 (notDst_spec (by kernel_rfl))
                | 6, _ => exact hout 6 (notDst_spec (by kernel_rfl))
                | 7, _ => exact hout 7 (notDst_spec (by kernel_rfl))
                | 8, _ => exact hout 8 (notDst_spec (by kernel_rfl))
                | 9, _ => exact hout 9 (notDst_spec (by kernel_rfl))
                | 10, _ => exact hout 10 (notDst_spec (by kernel_rfl))
                | 11, _ => exact hout 11 (notDst_spec (by kernel_rfl))
                | 12, _ => exact hout 12 (notDst_spec (by kernel_rfl))
                | 13, _ => exact hout 13 (notDst_spec (by kernel_rfl))
                | 14, _ => exact hout 14 (notDst_spec (by kernel_rfl))
                | 15, _ => exact hout 15 (notDst_spec (by kernel_rfl))
                | 16, _ => exact hout 16 (notDst_spec (by kernel_rfl))
                | 17, _ => exact hout 17 (notDst_spec (by kernel_rfl))
                | 18, _ => exact hout 18 (notDst_spec (by kernel_rfl))
                | 19, _ => exact hout 19 (notDst_spec (by kernel_rfl))
                | 20, _ => exact hout 20 (notDst_spec (by kernel_rfl))
                | 21, _ => exact hout 21 (notDst_spec (by kernel_rfl))
                | 22, _ => exact hout 22 (notDst_spec (by kernel_rfl))
                | 23, _ => exact hout 23 (notDst_spec (by kernel_rfl))
                | 24, _ => exact hout 24 (notDst_spec (by kernel_rfl))
                | 25, _ => exact hout 25 (notDst_spec (by kernel_rfl))
                | 26, _ => exact hout 26 (notDst_spec (by kernel_rfl))
                | 27, _ => exact hout 27 (notDst_spec (by kernel_rfl))
                | 28, _ => exact hout 28 (notDst_spec (by kernel_rfl))
                | 29, _ => exact hout 29 (notDst_spec (by kernel_rfl))
                | 30, _ => exact hout 30 (notDst_spec (by kernel_rfl))
                | 31, _ => exact hout 31 (notDst_spec (by kernel_rfl))
                | 32, _ => exact hout 32 (notDst_spec (by kernel_rfl))
                | 33, _ => exact hout 33 (notDst_spec (by kernel_rfl))
                | 34, _ => exact hout 34 (notDst_spec (by kernel_rfl))
                | 35, _ => exact hout 35 (notDst_spec (by kernel_rfl))
                | 36, _ => exact hout 36 (notDst_spec (by kernel_rfl))
                | 37, _ => exact hout 37 (notDst_spec (by kernel_rfl))
                | 38, _ => exact hout 38 (notDst_spec (by kernel_rfl))
                | 39, _ => exact hout 39 (notDst_spec (by kernel_rfl))
                | 40, _ => exact hout 40 (notDst_spec (by kernel_rfl))
                | 41, _ => exact hout 41 (notDst_spec (by kernel_rfl))
                | 42, _ => exact hout 42 (notDst_spec (by kernel_rfl))
                | 43, _ => exact hout 43 (notDst_spec (by kernel_rfl))
                | 44, _ => exact hout 44 (notDst_spec (by kernel_rfl))
                | 45, _ => exact hout 45 (notDst_spec (by kernel_rfl))
                | 46, _ => exact hout 46 (notDst_spec (by kernel_rfl))
                | 47, _ => exact hout 47 (notDst_spec (by kernel_rfl))
                | 48, _ => exact hout 48 (notDst_spec (by kernel_rfl))
                | 49, _ => exact hout 49 (notDst_spec (by kernel_rfl))
                | 50, _ => exact hout 50 (notDst_spec (by kernel_rfl))
                | 51, _ => exact hout 51 (notDst_spec (by kernel_rfl))
                | 52, _ => exact hall 0 (by decide)
                | 53, _ => exact hall 1 (by decide)
                | 54, _ => exact hall 2 (by decide)
                | 55, _ => exact hall 3 (by decide)
                | 56, _ => exact hall 4 (by decide)
                | 57, _ => exact hall 5 (by decide)
                | 58, _ => exact hall 6 (by decide)
                | 59, _ => exact hall 7 (by decide)
                | 60, _ => exact hall 8 (by decide)
                | 61, _ => exact hall 9 (by decide)
                | 62, _ => exact hall 10 (by decide)
                | 63, _ => exact hall 11 (by decide)
                | 64, _ => exact hout 64 (notDst_spec (by kernel_rfl))
                | 65, _ => exact hout 65 (notDst_spec (by kernel_rfl))
                | 66, _ => exact hout 66 (notDst_spec (by kernel_rfl))
                | 67, _ => exact hout 67 (notDst_spec (by kernel_rfl))
                | 68, _ => exact hout 68 (notDst_spec (by kernel_rfl))
                | 69, _ => exact hout 69 (notDst_spec (by kernel_rfl))
                | 70, _ => exact hout 70 (notDst_spec (by kernel_rfl))
                | 71, _ => exact hout 71 (notDst_spec (by kernel_rfl))
                | 72, _ => exact hout 72 (notDst_spec (by kernel_rfl))
                | 73, _ => exact hout 73 (notDst_spec (by kernel_rfl))
                | 74, _ => exact hout 74 (notDst_spec (by kernel_rfl))
                | 75, _ => exact hout 75 (notDst_spec (by kernel_rfl))
                | 76, _ => exact hout 76 (notDst_spec (by kernel_rfl))
                | 77, _ => exact hout 77 (notDst_spec (by kernel_rfl))
                | n + 78, h => exact absurd h (by simp)
              obtain ⟨tt, dd⟩ := aa
              simp only at hat hdf
              subst hat hdf
              clear hsz hout hall
              obtain ⟨nn, rfl⟩ := hW
              gi_wp2
              refine ⟨((ko_drewN U nn).trans (KeepsOthers.setCell _ _ _)).from _, ?_⟩
              exact fun h => HNO.out (by rw [← HMP.out]; exact h)
        case done2 =>
          rintro D2 ys X U hD2 hys ⟨bn, hpre, hB, hsU, hXM⟩ hKD2
          gi_wp2
          refine HK.out _ _ ?_
          clear HK
          have hyl : ys.length = L.length := by rw [← HFF.out, List.length_map, ← hys, List.length_map]
          rw [hyl] at bn
          have hmx : Try.prog.follows .mixedOrders = true := by kernel_rfl
          have q1 := bn.cell
          have bhU := boxed_below BH6.out (by omega) hB
          have q3 := bhU.cell
          have hBU := HBV.out.trans hB
          have J1U := hd (J15.out.below (HP.out ▸ hBU))
          have J2U := hd (J25.out.below (HP.out ▸ hBU))
          have HSM : Hid (∀ m : Nat, Calls Try.prog 9 #[.slice a1 C.length c1, .slice a2 C.length c2] (U.drewN m) fun e w' => e = .returned (.bool true) ∧ ∃ n, w' = U.drewN n) := fun m => by
            refine (ssame_is _ _ C C (U.drewN m) (J1U.out.below (below_drewN (Below.refl _ _) m)) (J2U.out.below (below_drewN (Below.refl _ _) m))).mono ?_
            rintro e w' ⟨rfl, n, rfl⟩
            exact ⟨by simp, drewN2 _ _ _⟩
          have BUw : Hid (Below w.heap.size w U) := hd (B6.out.trans (hB.mono (by omega)))
          have BRU := hd (boxed_below BR6.out (by omega) hB)
          have HD1 : Hid (U.heap[D]? = some (.deferred (some []))) := hd ((hB.block D hDP).trans HKD6.out)
          have HD2 := hd hKD2
          have hDU : D < U.heap.size := by omega
          have hD2U : D2 < U.heap.size := (Array.getElem?_eq_some_iff.1 hKD2).1
          have hNU : w.heap.size < U.heap.size := by omega
          have HNN := hd hN
          have HWK : Hid (∀ m : Nat, Calls Try.prog 10 #[] (U.drewN m) fun e w' => e = .returned (.bool true) ∧ Boxed w' w.heap.size 4 (.bool false) ∧ Below w.heap.size w w' ∧ w'.heap[D]? = some (.deferred (some [])) ∧ w'.heap[D2]? = some (.deferred (some []))) := fun m => by
            refine (works_is (U.drewN m)).mono ?_
            rintro e w' ⟨rfl, hb⟩
            have hb2 : Below U.heap.size U w' := (below_drewN (Below.refl _ _) m).trans hb
            exact ⟨rfl, boxed_below (HNN.out ▸ BRU.out) hNU hb2, BUw.out.trans (hb2.mono (by omega)), (hb2.block D hDU).trans HD1.out, (hb2.block D2 hD2U).trans HD2.out⟩
          clear bn bhU hB hBU hKD2 hpre hyl hys J1U J2U J15 J25 J16 J26 hN
          go_wp2_with fail
          refine Calls.mono (HSM.out 0) ?_
          rintro e w3 ⟨rfl, nn, rfl⟩
          go_wp2_with fail
          refine Calls.mono (HWK.out _) ?_
          rintro e w3 ⟨rfl, hb3, hB3, hd3, hd4⟩
          have z1 := hb3.cell
          have z2 := hb3.frozen
          have HZ1 := hd hb3
          have HZ3 := hd hB3
          have HZ4 := hd hd3
          have HZ5 := hd hd4
          clear hb3 hB3 hd3 hd4
          go_wp2_with fail
          have hKa := (KeepsOthers.setCell w3 ⟨w.heap.size, 0, none⟩ (.bool true)).same D2 _ HZ5.out rfl
          have hKb := (KeepsOthers.setCell w3 ⟨w.heap.size, 0, none⟩ (.bool true)).same D _ HZ4.out rfl
          refine ⟨by simp, .inl ⟨_, _, rfl, run_takeDeferred hKa, ?_⟩⟩
          have hKc := ((grownBy_putObj' (w3.setCell ⟨w.heap.size, 0, none⟩ (.bool true)) D2 (.deferred none)).block D (Array.getElem?_eq_some_iff.1 hKb).1 (by intro e; injection e; omega)).trans hKb
          refine ⟨by simp, .inl ⟨_, _, rfl, run_takeDeferred hKc, ?_⟩⟩
          have hc5 := cell_kept (HZ1.out.set (.bool true)).cell (grownBy_putObj' _ D2 (.deferred none)) (fun r e => by cases e; exact ⟨_, hKa, rfl⟩)
          have hc6 := cell_kept hc5 (grownBy_putObj' _ D (.deferred none)) (fun r e => by cases e; exact ⟨_, hKc, rfl⟩)
          have hNN := HNN.out
          refine ⟨.bool true, ?_, rfl, ((HZ3.out.setCell (p := ⟨w.heap.size, 0, none⟩) (Nat.le_refl _) _).trans (belowK_b (w := w) (Nat.le_refl _) _ D2 _ _ (by omega) hKa rfl rfl)).trans (belowK_b (w := w) (Nat.le_refl _) _ D _ _ (by omega) hKc rfl rfl)⟩
          simp [results, Try.f3, go_sem, hc6]
end Vt
end Go.Proofs.Ytkcbehdfiaobcaa
