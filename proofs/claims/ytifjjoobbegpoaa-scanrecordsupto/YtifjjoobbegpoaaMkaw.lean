/-
  A REGION THAT DRAWS ITS ORDER, BY AN INVARIANT: whatever the order in which its operations come up, what each has yielded is told by a property that later operations leave standing; so each operation is looked at once, not once for each order. No condition beyond those that each theorem bears.
  A REGION THAT DRAWS ITS ORDER, WITHIN A FENCE, where what each operation yields does not hang on the order: each is looked at once.
-/
import Derived.WalkKit
import Derived.OrdersIn
import Derived.OwnWalkIn
namespace Go.Proofs.Ytifjjoobbegpoaa
open Go Go.RowKit

theorem ready_spec {md : Region.Mode} {ops : Array Oper} {L : Array Bool} {i : Nat} (h : i ∈ Region.ready md ops L) :
    ∃ o, ops[i]? = some o ∧ i < ops.size ∧ L.getD i true = false ∧ ∀ e ∈ o.after, Region.binds md e = true → L.getD e.on false = true := by
  unfold Region.ready at h
  obtain ⟨h1, h2⟩ := List.mem_filter.1 h
  have hi : i < ops.size := by simpa using h1
  have ho : ops[i]? = some ops[i] := Array.getElem?_eq_getElem hi
  rw [ho] at h2
  simp only [Option.map_some, Option.getD_some, Bool.and_eq_true, Bool.not_eq_eq_eq_not, Bool.not_true, Array.all_eq_true'] at h2
  refine ⟨ops[i], ho, hi, h2.1, fun e he hb => ?_⟩
  have := h2.2 e he
  rw [hb] at this
  simpa using this
theorem ready_nil {md : Region.Mode} {ops : Array Oper} {L : Array Bool} (h : ∀ i, i < ops.size → L.getD i true = true) : Region.ready md ops L = [] := by
  unfold Region.ready
  rw [List.filter_eq_nil_iff]
  intro i hi
  rw [h i (by simpa using hi)]
  simp
/-- how many are not yet listed -/
def left (L : Array Bool) : Nat := L.toList.countP (fun b => !b)
theorem left_set {L : Array Bool} {i : Nat} (h : L.getD i true = false) : left (L.setIfInBounds i true) + 1 = left L := by
  have hi : i < L.size := by
    rcases Nat.lt_or_ge i L.size with h' | h'
    · exact h'
    · rw [Array.getD_eq_getD_getElem?, Array.getElem?_eq_none h'] at h; simp at h
  have hv : L.toList[i]'(by simpa using hi) = false := by
    rw [Array.getD_eq_getD_getElem?, Array.getElem?_eq_getElem hi] at h
    simpa using h
  unfold left
  rw [Array.toList_setIfInBounds, List.countP_set (by simpa using hi), hv]
  have hpos : 0 < L.toList.countP (fun b => !b) := List.countP_pos_iff.2 ⟨false, by rw [← hv]; exact List.getElem_mem _, rfl⟩
  rw [if_pos (by decide), if_neg (by decide)]
  omega
theorem left_zero {L : Array Bool} (h : left L = 0) (i : Nat) (hi : i < L.size) : L.getD i true = true := by
  unfold left at h
  rw [List.countP_eq_zero] at h
  have := h L[i] (by simp)
  rw [Array.getD_eq_getD_getElem?, Array.getElem?_eq_getElem hi]
  simpa using this
theorem wpAny_inv {P : Program} {md : Region.Mode} {ops : Array Oper} {Q : Exit → Act → World → Prop} (I : Array Bool → Act → World → Prop)
    (hsz : ∀ L a w, I L a w → L.size = ops.size)
    (hstep : ∀ L a w i, I L a w → i ∈ Region.ready md ops L → wpOp P ops Q i (fun a' w' => I (L.setIfInBounds i true) a' w') a w)
    (hdone : ∀ L a w, I L a w → Region.ready md ops L = [] → Q .normal a w) :
    ∀ fuel L a w, I L a w → left L ≤ fuel → wpAny P md ops Q fuel L a w := by
  intro fuel
  induction fuel with
  | zero =>
    intro L a w h hl
    have hr : Region.ready md ops L = [] := ready_nil fun i hi => left_zero (by omega) i (by rw [hsz L a w h]; exact hi)
    exact ⟨hr, hdone L a w h hr⟩
  | succ fuel ih =>
    intro L a w h hl
    refine ⟨fun hr => hdone L a w h hr, fun i hi => ?_⟩
    obtain ⟨o, ho, hlt, hL, _⟩ := ready_spec hi
    have := left_set hL
    exact wpOp_mono (fun a' w' h' => ih _ a' w' h' (by omega)) (hstep L a w i h hi)

/-- each operation's forerunners stand ahead of it -/
def aftersAhead (ops : Array Oper) : Bool := (List.range ops.size).all fun i => ((ops[i]?).map fun o => o.after.all fun e => decide (e.on < i)).getD true
theorem all_listed {md : Region.Mode} {ops : Array Oper} {L : Array Bool} (h : aftersAhead ops = true) (hs : L.size = ops.size) (hr : Region.ready md ops L = []) : ∀ i, i < ops.size → L.getD i false = true := by
  intro i
  induction i using Nat.strongRecOn with
  | _ i ih =>
    intro hi
    refine Classical.byContradiction fun hn => ?_
    have hL : L.getD i true = false := by
      rw [Array.getD_eq_getD_getElem?, Array.getElem?_eq_getElem (by omega)] at hn ⊢
      simpa using hn
    have ho : ops[i]? = some ops[i] := Array.getElem?_eq_getElem hi
    have hmem : i ∈ Region.ready md ops L := by
      unfold Region.ready
      refine List.mem_filter.2 ⟨by simpa using hi, ?_⟩
      rw [hL, ho]
      simp only [Option.map_some, Option.getD_some, Bool.not_false, Bool.true_and, Array.all_eq_true']
      intro e he
      have hlt : e.on < i := by
        unfold aftersAhead at h
        have := List.all_eq_true.1 h i (by simpa using hi)
        rw [ho] at this
        simp only [Option.map_some, Option.getD_some, Array.all_eq_true', decide_eq_true_eq] at this
        exact this e he
      rw [ih e.on hlt (by omega)]
      simp
    rw [hr] at hmem
    simp at hmem
/-- where an operation writes -/
def dstOf (ops : Array Oper) (i : Nat) : Option Nat := (ops[i]?).bind (·.dst)
def dstsApart (ops : Array Oper) (n : Nat) : Bool :=
  (List.range ops.size).all fun i => match dstOf ops i with
    | none => false
    | some d => decide (d < n) && (List.range ops.size).all fun j => decide (i = j) || !(dstOf ops j == some d)
theorem dsts_spec {ops : Array Oper} {n : Nat} (h : dstsApart ops n = true) {i : Nat} (hi : i < ops.size) : ∃ d, dstOf ops i = some d ∧ d < n ∧ ∀ j, j < ops.size → j ≠ i → dstOf ops j ≠ some d := by
  unfold dstsApart at h
  have := List.all_eq_true.1 h i (by simpa using hi)
  split at this
  · simp at this
  · rename_i d hd
    simp only [Bool.and_eq_true, decide_eq_true_eq, List.all_eq_true, List.mem_range, Bool.or_eq_true, Bool.not_eq_eq_eq_not, Bool.not_true, beq_eq_false_iff_ne] at this
    refine ⟨d, hd, this.1, fun j hj hne => ?_⟩
    rcases this.2 j hj with h' | h'
    · exact absurd h'.symm hne
    · exact h'
def notDst (ops : Array Oper) (k : Nat) : Bool := (List.range ops.size).all fun j => !(dstOf ops j == some k)
theorem notDst_spec {ops : Array Oper} {k : Nat} (h : notDst ops k = true) : ∀ j, j < ops.size → dstOf ops j ≠ some k := by
  intro j hj
  have := List.all_eq_true.1 h j (by simpa using hj)
  simpa using this
theorem yielded_of {ops : Array Oper} {a : Act} {j d : Nat} {b : Bool} (hd : dstOf ops j = some d) (hs : d < a.tmps.size) (hv : a.tmps.getD d undef = .bool b) : yielded ops a.tmps j = some b := by
  unfold yielded
  unfold dstOf at hd
  rw [hd, Option.bind_some]
  rw [Array.getD_eq_getD_getElem?, Array.getElem?_eq_getElem hs] at hv
  rw [Array.getElem?_eq_getElem hs]
  simp only [Option.getD_some] at hv
  rw [hv]
/-- the slot that operation i has filled -/
def slotOf (ops : Array Oper) (a : Act) (i : Nat) : Value := a.tmps.getD ((dstOf ops i).getD 0) undef
theorem getD_put (a : Act) (d k : Nat) (v : Value) (hd : d < a.tmps.size) : (a.put (some d) v).tmps.getD k undef = if k = d then v else a.tmps.getD k undef := by
  simp only [Act.put, Array.getD_eq_getD_getElem?, Array.getElem?_setIfInBounds]
  by_cases h : k = d
  · subst h; simp [hd]
  · rw [if_neg (by omega), if_neg h]

theorem getq {a : Act} {k : Nat} {v : Value} (h : a.tmps.getD k undef = v) : a.tmps[k]?.getD undef = v := by rwa [Array.getD_eq_getD_getElem?] at h
/-- an operation that is wanted and yields something good -/
theorem step_good {P : Program} {o : Oper} {a : Act} {w : World} {Q : Exit → Act → World → Prop} {ops : Array Oper} (good : Value → World → Prop) (hw : Region.wanted o (yielded ops a.tmps) = true)
    (h : ∀ K : Act → World → Prop, (∀ v w', good v w' → K (a.put o.dst v) w') → o.wp P a w K Q) :
    if Region.wanted o (yielded ops a.tmps) then o.wp P a w (fun a' w' => ∃ v, a' = a.put o.dst v ∧ good v w') Q else False := by
  rw [if_pos hw]
  exact h _ (fun v w' hg => ⟨v, rfl, hg⟩)
theorem wanted_none {o : Oper} {f : Nat → Option Bool} (h : o.guard = none) : Region.wanted o f = true := by
  unfold Region.wanted; rw [h]
theorem wanted_some {o : Oper} {f : Nat → Option Bool} {j : Nat} {b : Bool} (h : o.guard = some (j, b)) (hf : f j = some b) : Region.wanted o f = true := by
  unfold Region.wanted; rw [h]; simp [hf]
/-- THE REGION BY AN INVARIANT. 'G i v w': what operation i has yielded, v, is good in the world w; it stays so while the world grows ('W', 'stable'); each operation, its forerunners' yields being good, yields something good ('step'). -/
theorem region_inv {P : Program} {id : Nat} {ops : Array Oper} {Q : Exit → Act → World → Prop} {a0 : Act} {w0 : World} (G : Nat → Value → World → Prop) (W : World → Prop)
    (hm : P.follows .mixedOrders = true) (hd : dstsApart ops a0.tmps.size = true) (hah : aftersAhead ops = true) (hW0 : W w0.drew)
    (stable : ∀ i v w w', W w → W w' → Below w.heap.size w w' → G i v w → G i v w')
    (step : ∀ i o, ops[i]? = some o → ∀ a w, W w → a.defers = a0.defers → a.tmps.size = a0.tmps.size →
      (∀ k, (∀ j, j < ops.size → dstOf ops j ≠ some k) → a.tmps.getD k undef = a0.tmps.getD k undef) →
      (∀ e ∈ o.after, Region.binds .any e = true → G e.on (slotOf ops a e.on) w) →
      (if Region.wanted o (yielded ops a.tmps) then o.wp P a w (fun a' w' => ∃ v, a' = a.put o.dst v ∧ Below w.heap.size w w' ∧ W w' ∧ G i v w') Q else False))
    (done : ∀ a w, W w → a.defers = a0.defers → a.tmps.size = a0.tmps.size →
      (∀ k, (∀ j, j < ops.size → dstOf ops j ≠ some k) → a.tmps.getD k undef = a0.tmps.getD k undef) →
      (∀ i, i < ops.size → G i (slotOf ops a i) w) → Q .normal a w) :
    (Code.region id ops true).wp P Q a0 w0 := by
  refine wp_region_any hm ?_
  refine wpAny_inv (fun L a w => L.size = ops.size ∧ W w ∧ a.defers = a0.defers ∧ a.tmps.size = a0.tmps.size ∧
      (∀ k, (∀ j, j < ops.size → dstOf ops j ≠ some k) → a.tmps.getD k undef = a0.tmps.getD k undef) ∧
      (∀ i, i < ops.size → L.getD i false = true → G i (slotOf ops a i) w)) (fun L a w h => h.1) ?_ ?_ _ _ _ _ ?_ ?_
  · rintro L a w i ⟨h1, h2, h3, h4, h5, h6⟩ hi
    obtain ⟨o, ho, hlt, hL, haf⟩ := ready_spec hi
    obtain ⟨d, hdi, hdn, hdj⟩ := dsts_spec hd hlt
    have hod : o.dst = some d := by simpa [dstOf, ho] using hdi
    have hst := step i o ho a w h2 h3 h4 h5 (fun e he hb => h6 e.on (by
      have := haf e he hb
      rcases Nat.lt_or_ge e.on ops.size with h' | h'
      · exact h'
      · rw [Array.getD_eq_getD_getElem?, Array.getElem?_eq_none (by omega)] at this; simp at this) (haf e he hb))
    unfold wpOp
    rw [ho]
    split at hst
    · rename_i hw
      simp only [hw, if_true]
      refine .inl (Oper.wp_mono ?_ hst)
      rintro a' w' ⟨v, rfl, hb, hW', hG⟩
      have hda : d < a.tmps.size := by omega
      rw [hod]
      refine ⟨by rw [Array.size_setIfInBounds]; exact h1, hW', by simp only [Act.put]; exact h3, by simp only [Act.put, Array.size_setIfInBounds]; exact h4, ?_, ?_⟩
      · intro k hk
        rw [getD_put _ _ _ _ hda, if_neg (fun e => hk i hlt (by rw [e]; exact hdi))]
        exact h5 k hk
      · intro j hj hLj
        by_cases e : j = i
        · subst e
          unfold slotOf
          rw [hdi, Option.getD_some, getD_put _ _ _ _ hda, if_pos rfl]
          exact hG
        · obtain ⟨dj, hdj1, hdj2, hdj3⟩ := dsts_spec hd hj
          have hne : dj ≠ d := fun e2 => hdj j hj e (by rw [← e2]; exact hdj1)
          unfold slotOf
          rw [hdj1, Option.getD_some, getD_put _ _ _ _ hda, if_neg hne]
          have hLj' : L.getD j false = true := by
            rw [Array.getD_eq_getD_getElem?, Array.getElem?_setIfInBounds_ne (by omega)] at hLj
            rw [Array.getD_eq_getD_getElem?]; exact hLj
          have := h6 j hj hLj'
          unfold slotOf at this
          rw [hdj1, Option.getD_some] at this
          exact stable j _ w w' h2 hW' hb this
    · exact hst.elim
  · rintro L a w ⟨h1, h2, h3, h4, h5, h6⟩ hr
    exact done a w h2 h3 h4 h5 fun i hi => h6 i hi (all_listed hah h1 hr i hi)
  · refine ⟨by simp, hW0, rfl, rfl, fun _ _ => rfl, fun i hi h => ?_⟩
    rw [Array.getD_eq_getD_getElem?, Array.getElem?_replicate] at h
    simp [hi] at h
  · unfold left
    exact Nat.le_trans (List.countP_le_length) (by simp)
end Go.Proofs.Ytifjjoobbegpoaa
namespace Go.Proofs.Ytifjjoobbegpoaa
open Go Go.RowKit
theorem wpAnyIn_inv {F : Fence} {n : Nat} {P : Program} {md : Region.Mode} {ops : Array Oper} {Q : Exit → Act → World → Prop} (I : Array Bool → Act → World → Prop)
    (hsz : ∀ L a w, I L a w → L.size = ops.size)
    (hstep : ∀ L a w i, I L a w → i ∈ Region.ready md ops L → wpOpIn F n P ops Q i (fun a' w' => I (L.setIfInBounds i true) a' w') a w)
    (hdone : ∀ L a w, I L a w → Region.ready md ops L = [] → Q .normal a w) :
    ∀ fuel L a w, I L a w → left L ≤ fuel → wpAnyIn F n P md ops Q fuel L a w := by
  intro fuel
  induction fuel with
  | zero =>
    intro L a w h hl
    have hr : Region.ready md ops L = [] := ready_nil fun i hi => left_zero (by omega) i (by rw [hsz L a w h]; exact hi)
    exact ⟨hr, hdone L a w h hr⟩
  | succ fuel ih =>
    intro L a w h hl
    refine ⟨fun hr => hdone L a w h hr, fun i hi => ?_⟩
    obtain ⟨o, ho, hlt, hL, _⟩ := ready_spec hi
    have := left_set hL
    exact wpOpIn_mono (fun a' w' h' => ih _ a' w' h' (by omega)) (hstep L a w i h hi)
/-- where operations write: each within the frame, no two at one place -/
def dstsFine (ops : Array Oper) (n : Nat) : Bool :=
  (List.range ops.size).all fun i => match dstOf ops i with
    | none => true
    | some d => decide (d < n) && (List.range ops.size).all fun j => decide (i = j) || !(dstOf ops j == some d)
theorem fine_spec {ops : Array Oper} {n : Nat} (h : dstsFine ops n = true) {i d : Nat} (hi : i < ops.size) (hd : dstOf ops i = some d) : d < n ∧ ∀ j, j < ops.size → j ≠ i → dstOf ops j ≠ some d := by
  unfold dstsFine at h
  have := List.all_eq_true.1 h i (by simpa using hi)
  rw [hd] at this
  simp only [Bool.and_eq_true, decide_eq_true_eq, List.all_eq_true, List.mem_range, Bool.or_eq_true, Bool.not_eq_eq_eq_not, Bool.not_true, beq_eq_false_iff_ne] at this
  refine ⟨this.1, fun j hj hne => ?_⟩
  rcases this.2 j hj with h' | h'
  · exact absurd h'.symm hne
  · exact h'
/-- listed are, with each operation, those that must come ahead of it -/
def Closed (ops : Array Oper) (L : Array Bool) : Prop := ∀ j p, ops[j]? = some p → L.getD j false = true → ∀ e ∈ p.after, Region.binds .any e = true → L.getD e.on false = true
theorem set_getD (L : Array Bool) (i j : Nat) (hi : i < L.size) : (L.setIfInBounds i true).getD j false = if j = i then true else L.getD j false := by
  rw [Array.getD_eq_getD_getElem?, Array.getD_eq_getD_getElem?, Array.getElem?_setIfInBounds]
  by_cases h : j = i
  · subst h; simp [hi]
  · rw [if_neg (by omega), if_neg h]
theorem region_det {F : Fence} {n : Nat} {P : Program} {id : Nat} {ops : Array Oper} {Q : Exit → Act → World → Prop} {a0 : Act} {w0 : World} (val : Nat → Value) (Wd : Array Bool → World → Prop)
    (hm : P.follows .mixedOrders = true) (hg : (ops.all fun o => o.guard.isNone) = true) (hdf : dstsFine ops a0.tmps.size = true) (hah : aftersAhead ops = true) (hW0 : Wd (Array.replicate ops.size false) w0.drew)
    (step : ∀ i o, ops[i]? = some o → ∀ (L : Array Bool) (a : Act) (w : World), L.size = ops.size → L.getD i false = false → Closed ops L → Wd L w →
      (∀ k, (∀ j, j < ops.size → dstOf ops j ≠ some k) → a.tmps.getD k undef = a0.tmps.getD k undef) →
      (∀ e ∈ o.after, Region.binds .any e = true → ∀ d, dstOf ops e.on = some d → a.tmps.getD d undef = val e.on) →
      (∀ e ∈ o.after, Region.binds .any e = true → L.getD e.on false = true) →
      o.wpIn F n P a w (fun a' w' => a' = a.put o.dst (val i) ∧ Wd (L.setIfInBounds i true) w') Q)
    (done : ∀ (L : Array Bool) a w, (∀ i, i < ops.size → L.getD i false = true) → Wd L w → a.defers = a0.defers → a.tmps.size = a0.tmps.size →
      (∀ k, (∀ j, j < ops.size → dstOf ops j ≠ some k) → a.tmps.getD k undef = a0.tmps.getD k undef) →
      (∀ i d, i < ops.size → dstOf ops i = some d → a.tmps.getD d undef = val i) → Q .normal a w) :
    (Code.region id ops true).wpIn F n P Q a0 w0 := by
  refine wpIn_region_any hm ?_
  refine wpAnyIn_inv (fun L a w => L.size = ops.size ∧ Closed ops L ∧ Wd L w ∧ a.defers = a0.defers ∧ a.tmps.size = a0.tmps.size ∧
      (∀ k, (∀ j, j < ops.size → dstOf ops j ≠ some k) → a.tmps.getD k undef = a0.tmps.getD k undef) ∧
      (∀ i d, i < ops.size → L.getD i false = true → dstOf ops i = some d → a.tmps.getD d undef = val i)) (fun L a w h => h.1) ?_ ?_ _ _ _ _ ?_ ?_
  · rintro L a w i ⟨h1, hcl, h2, h3, h4, h5, h6⟩ hi
    obtain ⟨o, ho, hlt, hL, haf⟩ := ready_spec hi
    have hLf : L.getD i false = false := by
      rw [Array.getD_eq_getD_getElem?, Array.getElem?_eq_getElem (by omega)] at hL ⊢
      simpa using hL
    have hon : ∀ e ∈ o.after, Region.binds .any e = true → e.on < ops.size := fun e he hb => by
      have := haf e he hb
      rcases Nat.lt_or_ge e.on ops.size with h' | h'
      · exact h'
      · rw [Array.getD_eq_getD_getElem?, Array.getElem?_eq_none (by omega)] at this; simp at this
    have hst := step i o ho L a w h1 hLf hcl h2 h5 (fun e he hb d hd => h6 e.on d (hon e he hb) (haf e he hb) hd) haf
    have hgo : o.guard = none := by
      rw [Array.all_eq_true] at hg
      have := hg i hlt
      have ho' : ops[i] = o := by rw [Array.getElem?_eq_getElem hlt] at ho; injection ho
      rw [ho'] at this
      simpa using this
    unfold wpOpIn
    rw [ho]
    simp only [wanted_none hgo, if_true]
    refine Oper.wpIn_mono ?_ hst
    rintro a' w' ⟨rfl, hW'⟩
    refine ⟨by rw [Array.size_setIfInBounds]; exact h1, ?_, hW', ?_, ?_, ?_, ?_⟩
    · intro j p hp hj e he hb
      rw [set_getD _ _ _ (by omega)] at hj ⊢
      by_cases hji : j = i
      · subst hji
        rw [ho] at hp
        injection hp with hp
        subst hp
        rw [haf e he hb]; simp
      · rw [if_neg hji] at hj
        rw [hcl j p hp hj e he hb]; simp
    · cases o.dst <;> exact h3
    · cases hod : o.dst with
      | none => exact h4
      | some d => simp only [Act.put, Array.size_setIfInBounds]; exact h4
    · intro k hk
      cases hod : o.dst with
      | none => exact h5 k hk
      | some d =>
        have hdi : dstOf ops i = some d := by simp [dstOf, ho, hod]
        rw [getD_put _ _ _ _ (by have := (fine_spec hdf hlt hdi).1; omega), if_neg (fun e => hk i hlt (by rw [e]; exact hdi))]
        exact h5 k hk
    · intro j d hj hLj hdj
      rw [set_getD _ _ _ (by omega)] at hLj
      cases hod : o.dst with
      | none =>
        by_cases hji : j = i
        · subst hji
          have : dstOf ops j = none := by simp [dstOf, ho, hod]
          rw [this] at hdj
          cases hdj
        · rw [if_neg hji] at hLj
          exact h6 j d hj hLj hdj
      | some d' =>
        have hdi : dstOf ops i = some d' := by simp [dstOf, ho, hod]
        have hf := fine_spec hdf hlt hdi
        rw [getD_put _ _ _ _ (by omega)]
        by_cases hji : j = i
        · subst hji
          rw [hdi] at hdj
          injection hdj with hdj
          rw [if_pos hdj.symm]
        · rw [if_neg hji] at hLj
          rw [if_neg (fun e => hf.2 j hj hji (by rw [← e]; exact hdj))]
          exact h6 j d hj hLj hdj
  · rintro L a w ⟨h1, hcl, h2, h3, h4, h5, h6⟩ hr
    have hall := all_listed hah h1 hr
    exact done L a w hall h2 h3 h4 h5 fun i d hi hd => h6 i d hi (hall i hi) hd
  · refine ⟨by simp, ?_, hW0, rfl, rfl, fun _ _ => rfl, fun i d hi h => ?_⟩
    · intro j p hp hj
      rw [Array.getD_eq_getD_getElem?, Array.getElem?_replicate] at hj
      split at hj <;> simp at hj
    · rw [Array.getD_eq_getD_getElem?, Array.getElem?_replicate] at h
      simp [hi] at h
  · unfold left
    exact Nat.le_trans (List.countP_le_length) (by simp)
/-- two frames of one length that read alike are one -/
theorem arr_eq {x y : Array Value} (hs : x.size = y.size) (h : ∀ k, k < y.size → x.getD k undef = y.getD k undef) : x = y := by
  refine Array.ext hs fun i h1 h2 => ?_
  have := h i h2
  rwa [Array.getD_eq_getD_getElem?, Array.getD_eq_getD_getElem?, Array.getElem?_eq_getElem h1, Array.getElem?_eq_getElem h2] at this
end Go.Proofs.Ytifjjoobbegpoaa
