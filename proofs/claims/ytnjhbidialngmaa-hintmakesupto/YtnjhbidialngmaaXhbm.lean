/-
  THE LAW OF A CHAIN OF MOVERS (Rg) where an edge that binds in no order that is drawn here stands behind its operation.
  A REGION THAT DRAWS ITS ORDER, by an invariant, with operations that their guards pass over. No condition beyond those that the theorem bears.
-/
import Derived.Test.YtnjhbidialngmaaXhbl
namespace Go.Proofs.Ytnjhbidialngmaa
open Go Go.RowKit
/-- each operation's forerunners that bind stand ahead of it -/
def aftersBound (ops : Array Oper) : Bool := (List.range ops.size).all fun i => ((ops[i]?).map fun o => o.after.all fun e => !Region.binds .any e || decide (e.on < i)).getD true
theorem all_listedB {ops : Array Oper} {L : Array Bool} (h : aftersBound ops = true) (hs : L.size = ops.size) (hr : Region.ready .any ops L = []) : ∀ i, i < ops.size → L.getD i false = true := by
  intro i
  induction i using Nat.strongRecOn with
  | _ i ih =>
    intro hi
    refine Classical.byContradiction fun hn => ?_
    have hL : L.getD i true = false := by
      rw [Array.getD_eq_getD_getElem?, Array.getElem?_eq_getElem (by omega)] at hn ⊢
      simpa using hn
    have ho : ops[i]? = some ops[i] := Array.getElem?_eq_getElem hi
    have hmem : i ∈ Region.ready .any ops L := by
      unfold Region.ready
      refine List.mem_filter.2 ⟨by simpa using hi, ?_⟩
      rw [hL, ho]
      simp only [Option.map_some, Option.getD_some, Bool.not_false, Bool.true_and, Array.all_eq_true']
      intro e he
      by_cases hb : Region.binds .any e = true
      · have hlt : e.on < i := by
          unfold aftersBound at h
          have := List.all_eq_true.1 h i (by simpa using hi)
          rw [ho] at this
          simp only [Option.map_some, Option.getD_some, Array.all_eq_true'] at this
          have := this e he
          rw [hb] at this
          simpa using this
        rw [ih e.on hlt (by omega)]
        simp
      · have hb' : Region.binds .any e = false := by simpa using hb
        rw [hb']
        simp
    rw [hr] at hmem
    simp at hmem
end Go.Proofs.Ytnjhbidialngmaa
namespace Go.Proofs.Ytnjhbidialngmaa
open Go Go.RowKit
theorem skip_good {P : Program} {o : Oper} {a : Act} {w : World} {Q : Exit → Act → World → Prop} {ops : Array Oper} (good : Value → World → Prop) {X : Prop} (hw : Region.wanted o (yielded ops a.tmps) = true)
    (h : ∀ K : Act → World → Prop, (∀ v w', good v w' → K (a.put o.dst v) w') → o.wp P a w K Q) :
    if Region.wanted o (yielded ops a.tmps) then o.wp P a w (fun a' w' => ∃ v, a' = a.put o.dst v ∧ good v w') Q else X := by
  rw [if_pos hw]
  exact h _ (fun v w' hg => ⟨v, rfl, hg⟩)
theorem skip_no {o : Oper} {f : Nat → Option Bool} {A X : Prop} {j : Nat} {b : Bool} (h : o.guard = some (j, !b)) (hf : f j = some b) (hx : X) : if Region.wanted o f then A else X := by
  rw [if_neg]
  · exact hx
  · unfold Region.wanted; rw [h]; simp [hf]
/-- region_inv, where an operation may be passed over by its guard: it yields undef then. 'G i v w': what operation i has yielded, v, is good in the world w; it stays so while the world grows ('W', 'stable'); each operation, its forerunners' yields being good, yields something good ('step'). -/
theorem region_skip {P : Program} {id : Nat} {ops : Array Oper} {Q : Exit → Act → World → Prop} {a0 : Act} {w0 : World} (G : Nat → Value → World → Prop) (W : World → Prop)
    (hm : P.follows .mixedOrders = true) (hd : dstsApart ops a0.tmps.size = true) (hah : aftersBound ops = true) (hW0 : W w0.drew)
    (stable : ∀ i v w w', W w → W w' → Below w.heap.size w w' → G i v w → G i v w')
    (step : ∀ i o, ops[i]? = some o → ∀ a w, W w → a.defers = a0.defers → a.tmps.size = a0.tmps.size →
      (∀ k, (∀ j, j < ops.size → dstOf ops j ≠ some k) → a.tmps.getD k undef = a0.tmps.getD k undef) →
      (∀ e ∈ o.after, Region.binds .any e = true → G e.on (slotOf ops a e.on) w) →
      (if Region.wanted o (yielded ops a.tmps) then o.wp P a w (fun a' w' => ∃ v, a' = a.put o.dst v ∧ Below w.heap.size w w' ∧ W w' ∧ G i v w') Q else G i undef w))
    (done : ∀ a w, W w → a.defers = a0.defers → a.tmps.size = a0.tmps.size →
      (∀ k, (∀ j, j < ops.size → dstOf ops j ≠ some k) → a.tmps.getD k undef = a0.tmps.getD k undef) →
      (∀ i, i < ops.size → G i (slotOf ops a i) w) → Q .normal a w) :
    (Code.region id ops true).wp P Q a0 w0 := by
  refine wp_region_any hm ?_
  refine wpAny_inv (fun L a w => L.size = ops.size ∧ W w ∧ a.defers = a0.defers ∧ a.tmps.size = a0.tmps.size ∧
      (∀ k, (∀ j, j < ops.size → dstOf ops j ≠ some k) → a.tmps.getD k undef = a0.tmps.getD k undef) ∧
      (∀ i, i < ops.size → L.getD i false = true → G i (slotOf ops a i) w)) (fun L a w h => h.1) ?_ ?_ _ _ _ _ ?_ ?_
  · rintro L a w i ⟨h1, h2, h3, h4, h5, h6⟩ hi
    obtain ⟨o, ho, hlt, hL, haf⟩ := ready_spec hi
    obtain ⟨d, hdi, hdn, hdj⟩ := dsts_spec hd hlt
    have hod : o.dst = some d := by simpa [dstOf, ho] using hdi
    have hst := step i o ho a w h2 h3 h4 h5 (fun e he hb => h6 e.on (by
      have := haf e he hb
      rcases Nat.lt_or_ge e.on ops.size with h' | h'
      · exact h'
      · rw [Array.getD_eq_getD_getElem?, Array.getElem?_eq_none (by omega)] at this; simp at this) (haf e he hb))
    have fin : ∀ v w', Below w.heap.size w w' → W w' → G i v w' → (L.setIfInBounds i true).size = ops.size ∧ W w' ∧ (a.put o.dst v).defers = a0.defers ∧ (a.put o.dst v).tmps.size = a0.tmps.size ∧
        (∀ k, (∀ j, j < ops.size → dstOf ops j ≠ some k) → (a.put o.dst v).tmps.getD k undef = a0.tmps.getD k undef) ∧
        (∀ j, j < ops.size → (L.setIfInBounds i true).getD j false = true → G j (slotOf ops (a.put o.dst v) j) w') := by
      intro v w' hb hW' hG
      have hda : d < a.tmps.size := by omega
      rw [hod]
      refine ⟨by rw [Array.size_setIfInBounds]; exact h1, hW', by simp only [Act.put]; exact h3, by simp only [Act.put, Array.size_setIfInBounds]; exact h4, ?_, ?_⟩
      · intro k hk
        rw [getD_put _ _ _ _ hda, if_neg (fun e => hk i hlt (by rw [e]; exact hdi))]
        exact h5 k hk
      · intro j hj hLj
        by_cases e : j = i
        · subst e
          unfold slotOf
          rw [hdi, Option.getD_some, getD_put _ _ _ _ hda, if_pos rfl]
          exact hG
        · obtain ⟨dj, hdj1, hdj2, hdj3⟩ := dsts_spec hd hj
          have hne : dj ≠ d := fun e2 => hdj j hj e (by rw [← e2]; exact hdj1)
          unfold slotOf
          rw [hdj1, Option.getD_some, getD_put _ _ _ _ hda, if_neg hne]
          have hLj' : L.getD j false = true := by
            rw [Array.getD_eq_getD_getElem?, Array.getElem?_setIfInBounds_ne (by omega)] at hLj
            rw [Array.getD_eq_getD_getElem?]; exact hLj
          have := h6 j hj hLj'
          unfold slotOf at this
          rw [hdj1, Option.getD_some] at this
          exact stable j _ w w' h2 hW' hb this
    unfold wpOp
    rw [ho]
    split at hst
    · rename_i hw
      simp only [hw, if_true]
      refine .inl (Oper.wp_mono ?_ hst)
      rintro a' w' ⟨v, rfl, hb, hW', hG⟩
      exact fin v w' hb hW' hG
    · rename_i hw
      simp only [hw]
      exact fin undef w (Below.refl _ _) h2 hst
  · rintro L a w ⟨h1, h2, h3, h4, h5, h6⟩ hr
    exact done a w h2 h3 h4 h5 fun i hi => h6 i hi (all_listedB hah h1 hr i hi)
  · refine ⟨by simp, hW0, rfl, rfl, fun _ _ => rfl, fun i hi h => ?_⟩
    rw [Array.getD_eq_getD_getElem?, Array.getElem?_replicate] at h
    simp [hi] at h
  · unfold left
    exact Nat.le_trans (List.countP_le_length) (by simp)
end Go.Proofs.Ytnjhbidialngmaa
