/-
  A REGION THAT DRAWS ITS ORDER, BY AN INVARIANT: whatever the order in which its operations come up, what each has yielded is told by a property that later operations leave standing; so each operation is looked at once, not once for each order. No condition beyond those that each theorem bears.
  A REGION THAT DRAWS ITS ORDER, whose operations that turn the world stand one behind the other (a chain): each operation is looked at once, in the worlds in which it may come up. No condition beyond those that each theorem bears.
-/
import Derived.WalkKit
namespace Go.Proofs.YtolddolfpnkndaaGreat
open Go Go.RowKit

theorem ready_spec {md : Region.Mode} {ops : Array Oper} {L : Array Bool} {i : Nat} (h : i ∈ Region.ready md ops L) :
    ∃ o, ops[i]? = some o ∧ i < ops.size ∧ L.getD i true = false ∧ ∀ e ∈ o.after, Region.binds md e = true → L.getD e.on false = true := by
  unfold Region.ready at h
  obtain ⟨h1, h2⟩ := List.mem_filter.1 h
  have hi : i < ops.size := by simpa using h1
  have ho : ops[i]? = some ops[i] := Array.getElem?_eq_getElem hi
  rw [ho] at h2
  simp only [Option.map_some, Option.getD_some, Bool.and_eq_true, Bool.not_eq_eq_eq_not, Bool.not_true, Array.all_eq_true'] at h2
  refine ⟨ops[i], ho, hi, h2.1, fun e he hb => ?_⟩
  have := h2.2 e he
  rw [hb] at this
  simpa using this
theorem ready_nil {md : Region.Mode} {ops : Array Oper} {L : Array Bool} (h : ∀ i, i < ops.size → L.getD i true = true) : Region.ready md ops L = [] := by
  unfold Region.ready
  rw [List.filter_eq_nil_iff]
  intro i hi
  rw [h i (by simpa using hi)]
  simp
/-- how many are not yet listed -/
def left (L : Array Bool) : Nat := L.toList.countP (fun b => !b)
theorem left_set {L : Array Bool} {i : Nat} (h : L.getD i true = false) : left (L.setIfInBounds i true) + 1 = left L := by
  have hi : i < L.size := by
    rcases Nat.lt_or_ge i L.size with h' | h'
    · exact h'
    · rw [Array.getD_eq_getD_getElem?, Array.getElem?_eq_none h'] at h; simp at h
  have hv : L.toList[i]'(by simpa using hi) = false := by
    rw [Array.getD_eq_getD_getElem?, Array.getElem?_eq_getElem hi] at h
    simpa using h
  unfold left
  rw [Array.toList_setIfInBounds, List.countP_set (by simpa using hi), hv]
  have hpos : 0 < L.toList.countP (fun b => !b) := List.countP_pos_iff.2 ⟨false, by rw [← hv]; exact List.getElem_mem _, rfl⟩
  rw [if_pos (by decide), if_neg (by decide)]
  omega
theorem left_zero {L : Array Bool} (h : left L = 0) (i : Nat) (hi : i < L.size) : L.getD i true = true := by
  unfold left at h
  rw [List.countP_eq_zero] at h
  have := h L[i] (by simp)
  rw [Array.getD_eq_getD_getElem?, Array.getElem?_eq_getElem hi]
  simpa using this
theorem wpAny_inv {P : Program} {md : Region.Mode} {ops : Array Oper} {Q : Exit → Act → World → Prop} (I : Array Bool → Act → World → Prop)
    (hsz : ∀ L a w, I L a w → L.size = ops.size)
    (hstep : ∀ L a w i, I L a w → i ∈ Region.ready md ops L → wpOp P ops Q i (fun a' w' => I (L.setIfInBounds i true) a' w') a w)
    (hdone : ∀ L a w, I L a w → Region.ready md ops L = [] → Q .normal a w) :
    ∀ fuel L a w, I L a w → left L ≤ fuel → wpAny P md ops Q fuel L a w := by
  intro fuel
  induction fuel with
  | zero =>
    intro L a w h hl
    have hr : Region.ready md ops L = [] := ready_nil fun i hi => left_zero (by omega) i (by rw [hsz L a w h]; exact hi)
    exact ⟨hr, hdone L a w h hr⟩
  | succ fuel ih =>
    intro L a w h hl
    refine ⟨fun hr => hdone L a w h hr, fun i hi => ?_⟩
    obtain ⟨o, ho, hlt, hL, _⟩ := ready_spec hi
    have := left_set hL
    exact wpOp_mono (fun a' w' h' => ih _ a' w' h' (by omega)) (hstep L a w i h hi)

/-- each operation's forerunners stand ahead of it -/
def aftersAhead (ops : Array Oper) : Bool := (List.range ops.size).all fun i => ((ops[i]?).map fun o => o.after.all fun e => decide (e.on < i)).getD true
theorem all_listed {md : Region.Mode} {ops : Array Oper} {L : Array Bool} (h : aftersAhead ops = true) (hs : L.size = ops.size) (hr : Region.ready md ops L = []) : ∀ i, i < ops.size → L.getD i false = true := by
  intro i
  induction i using Nat.strongRecOn with
  | _ i ih =>
    intro hi
    refine Classical.byContradiction fun hn => ?_
    have hL : L.getD i true = false := by
      rw [Array.getD_eq_getD_getElem?, Array.getElem?_eq_getElem (by omega)] at hn ⊢
      simpa using hn
    have ho : ops[i]? = some ops[i] := Array.getElem?_eq_getElem hi
    have hmem : i ∈ Region.ready md ops L := by
      unfold Region.ready
      refine List.mem_filter.2 ⟨by simpa using hi, ?_⟩
      rw [hL, ho]
      simp only [Option.map_some, Option.getD_some, Bool.not_false, Bool.true_and, Array.all_eq_true']
      intro e he
      have hlt : e.on < i := by
        unfold aftersAhead at h
        have := List.all_eq_true.1 h i (by simpa using hi)
        rw [ho] at this
        simp only [Option.map_some, Option.getD_some, Array.all_eq_true', decide_eq_true_eq] at this
        exact this e he
      rw [ih e.on hlt (by omega)]
      simp
    rw [hr] at hmem
    simp at hmem
/-- where an operation writes -/
def dstOf (ops : Array Oper) (i : Nat) : Option Nat := (ops[i]?).bind (·.dst)
def dstsApart (ops : Array Oper) (n : Nat) : Bool :=
  (List.range ops.size).all fun i => match dstOf ops i with
    | none => false
    | some d => decide (d < n) && (List.range ops.size).all fun j => decide (i = j) || !(dstOf ops j == some d)
theorem dsts_spec {ops : Array Oper} {n : Nat} (h : dstsApart ops n = true) {i : Nat} (hi : i < ops.size) : ∃ d, dstOf ops i = some d ∧ d < n ∧ ∀ j, j < ops.size → j ≠ i → dstOf ops j ≠ some d := by
  unfold dstsApart at h
  have := List.all_eq_true.1 h i (by simpa using hi)
  split at this
  · simp at this
  · rename_i d hd
    simp only [Bool.and_eq_true, decide_eq_true_eq, List.all_eq_true, List.mem_range, Bool.or_eq_true, Bool.not_eq_eq_eq_not, Bool.not_true, beq_eq_false_iff_ne] at this
    refine ⟨d, hd, this.1, fun j hj hne => ?_⟩
    rcases this.2 j hj with h' | h'
    · exact absurd h'.symm hne
    · exact h'
def notDst (ops : Array Oper) (k : Nat) : Bool := (List.range ops.size).all fun j => !(dstOf ops j == some k)
theorem notDst_spec {ops : Array Oper} {k : Nat} (h : notDst ops k = true) : ∀ j, j < ops.size → dstOf ops j ≠ some k := by
  intro j hj
  have := List.all_eq_true.1 h j (by simpa using hj)
  simpa using this
theorem yielded_of {ops : Array Oper} {a : Act} {j d : Nat} {b : Bool} (hd : dstOf ops j = some d) (hs : d < a.tmps.size) (hv : a.tmps.getD d undef = .bool b) : yielded ops a.tmps j = some b := by
  unfold yielded
  unfold dstOf at hd
  rw [hd, Option.bind_some]
  rw [Array.getD_eq_getD_getElem?, Array.getElem?_eq_getElem hs] at hv
  rw [Array.getElem?_eq_getElem hs]
  simp only [Option.getD_some] at hv
  rw [hv]
/-- the slot that operation i has filled -/
def slotOf (ops : Array Oper) (a : Act) (i : Nat) : Value := a.tmps.getD ((dstOf ops i).getD 0) undef
theorem getD_put (a : Act) (d k : Nat) (v : Value) (hd : d < a.tmps.size) : (a.put (some d) v).tmps.getD k undef = if k = d then v else a.tmps.getD k undef := by
  simp only [Act.put, Array.getD_eq_getD_getElem?, Array.getElem?_setIfInBounds]
  by_cases h : k = d
  · subst h; simp [hd]
  · rw [if_neg (by omega), if_neg h]

theorem getq {a : Act} {k : Nat} {v : Value} (h : a.tmps.getD k undef = v) : a.tmps[k]?.getD undef = v := by rwa [Array.getD_eq_getD_getElem?] at h
/-- an operation that is wanted and yields something good -/
theorem step_good {P : Program} {o : Oper} {a : Act} {w : World} {Q : Exit → Act → World → Prop} {ops : Array Oper} (good : Value → World → Prop) (hw : Region.wanted o (yielded ops a.tmps) = true)
    (h : ∀ K : Act → World → Prop, (∀ v w', good v w' → K (a.put o.dst v) w') → o.wp P a w K Q) :
    if Region.wanted o (yielded ops a.tmps) then o.wp P a w (fun a' w' => ∃ v, a' = a.put o.dst v ∧ good v w') Q else False := by
  rw [if_pos hw]
  exact h _ (fun v w' hg => ⟨v, rfl, hg⟩)
theorem wanted_none {o : Oper} {f : Nat → Option Bool} (h : o.guard = none) : Region.wanted o f = true := by
  unfold Region.wanted; rw [h]
theorem wanted_some {o : Oper} {f : Nat → Option Bool} {j : Nat} {b : Bool} (h : o.guard = some (j, b)) (hf : f j = some b) : Region.wanted o f = true := by
  unfold Region.wanted; rw [h]; simp [hf]
/-- THE REGION BY AN INVARIANT. 'G i v w': what operation i has yielded, v, is good in the world w; it stays so while the world grows ('W', 'stable'); each operation, its forerunners' yields being good, yields something good ('step'). -/
theorem region_inv {P : Program} {id : Nat} {ops : Array Oper} {Q : Exit → Act → World → Prop} {a0 : Act} {w0 : World} (G : Nat → Value → World → Prop) (W : World → Prop)
    (hm : P.follows .mixedOrders = true) (hd : dstsApart ops a0.tmps.size = true) (hah : aftersAhead ops = true) (hW0 : W w0.drew)
    (stable : ∀ i v w w', W w → W w' → Below w.heap.size w w' → G i v w → G i v w')
    (step : ∀ i o, ops[i]? = some o → ∀ a w, W w → a.defers = a0.defers → a.tmps.size = a0.tmps.size →
      (∀ k, (∀ j, j < ops.size → dstOf ops j ≠ some k) → a.tmps.getD k undef = a0.tmps.getD k undef) →
      (∀ e ∈ o.after, Region.binds .any e = true → G e.on (slotOf ops a e.on) w) →
      (if Region.wanted o (yielded ops a.tmps) then o.wp P a w (fun a' w' => ∃ v, a' = a.put o.dst v ∧ Below w.heap.size w w' ∧ W w' ∧ G i v w') Q else False))
    (done : ∀ a w, W w → a.defers = a0.defers → a.tmps.size = a0.tmps.size →
      (∀ k, (∀ j, j < ops.size → dstOf ops j ≠ some k) → a.tmps.getD k undef = a0.tmps.getD k undef) →
      (∀ i, i < ops.size → G i (slotOf ops a i) w) → Q .normal a w) :
    (Code.region id ops true).wp P Q a0 w0 := by
  refine wp_region_any hm ?_
  refine wpAny_inv (fun L a w => L.size = ops.size ∧ W w ∧ a.defers = a0.defers ∧ a.tmps.size = a0.tmps.size ∧
      (∀ k, (∀ j, j < ops.size → dstOf ops j ≠ some k) → a.tmps.getD k undef = a0.tmps.getD k undef) ∧
      (∀ i, i < ops.size → L.getD i false = true → G i (slotOf ops a i) w)) (fun L a w h => h.1) ?_ ?_ _ _ _ _ ?_ ?_
  · rintro L a w i ⟨h1, h2, h3, h4, h5, h6⟩ hi
    obtain ⟨o, ho, hlt, hL, haf⟩ := ready_spec hi
    obtain ⟨d, hdi, hdn, hdj⟩ := dsts_spec hd hlt
    have hod : o.dst = some d := by simpa [dstOf, ho] using hdi
    have hst := step i o ho a w h2 h3 h4 h5 (fun e he hb => h6 e.on (by
      have := haf e he hb
      rcases Nat.lt_or_ge e.on ops.size with h' | h'
      · exact h'
      · rw [Array.getD_eq_getD_getElem?, Array.getElem?_eq_none (by omega)] at this; simp at this) (haf e he hb))
    unfold wpOp
    rw [ho]
    split at hst
    · rename_i hw
      simp only [hw, if_true]
      refine .inl (Oper.wp_mono ?_ hst)
      rintro a' w' ⟨v, rfl, hb, hW', hG⟩
      have hda : d < a.tmps.size := by omega
      rw [hod]
      refine ⟨by rw [Array.size_setIfInBounds]; exact h1, hW', by simp only [Act.put]; exact h3, by simp only [Act.put, Array.size_setIfInBounds]; exact h4, ?_, ?_⟩
      · intro k hk
        rw [getD_put _ _ _ _ hda, if_neg (fun e => hk i hlt (by rw [e]; exact hdi))]
        exact h5 k hk
      · intro j hj hLj
        by_cases e : j = i
        · subst e
          unfold slotOf
          rw [hdi, Option.getD_some, getD_put _ _ _ _ hda, if_pos rfl]
          exact hG
        · obtain ⟨dj, hdj1, hdj2, hdj3⟩ := dsts_spec hd hj
          have hne : dj ≠ d := fun e2 => hdj j hj e (by rw [← e2]; exact hdj1)
          unfold slotOf
          rw [hdj1, Option.getD_some, getD_put _ _ _ _ hda, if_neg hne]
          have hLj' : L.getD j false = true := by
            rw [Array.getD_eq_getD_getElem?, Array.getElem?_setIfInBounds_ne (by omega)] at hLj
            rw [Array.getD_eq_getD_getElem?]; exact hLj
          have := h6 j hj hLj'
          unfold slotOf at this
          rw [hdj1, Option.getD_some] at this
          exact stable j _ w w' h2 hW' hb this
    · exact hst.elim
  · rintro L a w ⟨h1, h2, h3, h4, h5, h6⟩ hr
    exact done a w h2 h3 h4 h5 fun i hi => h6 i hi (all_listed hah h1 hr i hi)
  · refine ⟨by simp, hW0, rfl, rfl, fun _ _ => rfl, fun i hi h => ?_⟩
    rw [Array.getD_eq_getD_getElem?, Array.getElem?_replicate] at h
    simp [hi] at h
  · unfold left
    exact Nat.le_trans (List.countP_le_length) (by simp)
end Go.Proofs.YtolddolfpnkndaaGreat
namespace Go.Proofs.YtolddolfpnkndaaGreat
open Go Go.RowKit
/-- operation j must come ahead of operation i -/
def anc (ops : Array Oper) : Nat → Nat → Nat → Bool
  | 0, _, _ => false
  | f + 1, i, j => match ops[i]? with
    | none => false
    | some o => o.after.any fun e => Region.binds .any e && (e.on == j || anc ops f e.on j)
def ClosedL (ops : Array Oper) (L : Array Bool) : Prop := ∀ j p, ops[j]? = some p → L.getD j false = true → ∀ e ∈ p.after, Region.binds .any e = true → L.getD e.on false = true
theorem anc_listed {ops : Array Oper} {L : Array Bool} (hc : ClosedL ops L) : ∀ f i j, L.getD i false = true → anc ops f i j = true → L.getD j false = true := by
  intro f
  induction f with
  | zero => intro i j _ h; cases h
  | succ f ih =>
    intro i j hi h
    unfold anc at h
    split at h
    · cases h
    · rename_i o ho
      rw [Array.any_eq_true'] at h
      obtain ⟨e, he, h⟩ := h
      simp only [Bool.and_eq_true, Bool.or_eq_true, beq_iff_eq] at h
      have hl := hc i o ho hi e he h.1
      rcases h.2 with rfl | h2
      · exact hl
      · exact ih _ _ hl h2
theorem anc_ready {ops : Array Oper} {L : Array Bool} (hc : ClosedL ops L) {i : Nat} {o : Oper} (ho : ops[i]? = some o) (hon : ∀ e ∈ o.after, Region.binds .any e = true → L.getD e.on false = true) (f j : Nat) (h : anc ops f i j = true) : L.getD j false = true := by
  cases f with
  | zero => cases h
  | succ f =>
    unfold anc at h
    rw [ho] at h
    simp only [Array.any_eq_true'] at h
    obtain ⟨e, he, h⟩ := h
    simp only [Bool.and_eq_true, Bool.or_eq_true, beq_iff_eq] at h
    have hl := hon e he h.1
    rcases h.2 with rfl | h2
    · exact hl
    · exact anc_listed hc f _ _ hl h2
theorem set_getD' (L : Array Bool) (i j : Nat) (hi : i < L.size) : (L.setIfInBounds i true).getD j false = if j = i then true else L.getD j false := by
  rw [Array.getD_eq_getD_getElem?, Array.getD_eq_getD_getElem?, Array.getElem?_setIfInBounds]
  by_cases h : j = i
  · subst h; simp [hi]
  · rw [if_neg (by omega), if_neg h]
def dstsGood (ops : Array Oper) (n : Nat) : Bool :=
  (List.range ops.size).all fun i => match dstOf ops i with
    | none => true
    | some d => decide (d < n) && (List.range ops.size).all fun j => decide (i = j) || !(dstOf ops j == some d)
theorem good_spec {ops : Array Oper} {n : Nat} (h : dstsGood ops n = true) {i d : Nat} (hi : i < ops.size) (hd : dstOf ops i = some d) : d < n ∧ ∀ j, j < ops.size → j ≠ i → dstOf ops j ≠ some d := by
  unfold dstsGood at h
  have := List.all_eq_true.1 h i (by simpa using hi)
  rw [hd] at this
  simp only [Bool.and_eq_true, decide_eq_true_eq, List.all_eq_true, List.mem_range, Bool.or_eq_true, Bool.not_eq_eq_eq_not, Bool.not_true, beq_eq_false_iff_ne] at this
  refine ⟨this.1, fun j hj hne => ?_⟩
  rcases this.2 j hj with h' | h'
  · exact absurd h'.symm hne
  · exact h'
/-- the movers: no one twice, each behind all that stand ahead of it in the list -/
def chainOk (ops : Array Oper) (ms : List Nat) : Bool :=
  (List.range ms.length).all fun k => (List.range ms.length).all fun k' => decide (k = k') || (decide (ms.getD k 0 ≠ ms.getD k' 0) && (decide (k < k') || anc ops ops.size (ms.getD k 0) (ms.getD k' 0)))
theorem chain_spec {ops : Array Oper} {ms : List Nat} (h : chainOk ops ms = true) {k k' : Nat} (hk : k < ms.length) (hk' : k' < ms.length) (hne : k ≠ k') : ms.getD k 0 ≠ ms.getD k' 0 ∧ (k' < k → anc ops ops.size (ms.getD k 0) (ms.getD k' 0) = true) := by
  unfold chainOk at h
  have := List.all_eq_true.1 (List.all_eq_true.1 h k (by simpa using hk)) k' (by simpa using hk')
  simp only [Bool.or_eq_true, decide_eq_true_eq, Bool.and_eq_true] at this
  rcases this with h1 | ⟨h1, h2⟩
  · exact absurd h1 hne
  · refine ⟨h1, fun hlt => ?_⟩
    rcases h2 with h2 | h2
    · omega
    · exact h2
/-- s of the movers are listed, the first ones -/
def Stage (ms : List Nat) (L : Array Bool) (s : Nat) : Prop := s ≤ ms.length ∧ ∀ k, k < ms.length → L.getD (ms.getD k 0) false = decide (k < s)
theorem region_chain {P : Program} {id : Nat} {ops : Array Oper} {Q : Exit → Act → World → Prop} {a0 : Act} {w0 : World} (val : Nat → Value) (ms : List Nat) (S : Nat → World)
    (hm : P.follows .mixedOrders = true) (hg : (ops.all fun o => o.guard.isNone) = true) (hdf : dstsGood ops a0.tmps.size = true) (hah : aftersAhead ops = true) (hch : chainOk ops ms = true) (hW0 : S 0 = w0.drew)
    (step : ∀ i o, ops[i]? = some o → ∀ (s : Nat) (a : Act), s ≤ ms.length →
      (∀ k, k < ms.length → anc ops ops.size i (ms.getD k 0) = true → k < s) → (∀ k, k < ms.length → (ms.getD k 0 = i ∨ anc ops ops.size (ms.getD k 0) i = true) → s ≤ k) →
      (∀ k, (∀ j, j < ops.size → dstOf ops j ≠ some k) → a.tmps.getD k undef = a0.tmps.getD k undef) →
      (∀ e ∈ o.after, Region.binds .any e = true → ∀ d, dstOf ops e.on = some d → a.tmps.getD d undef = val e.on) →
      (∀ j d, j < ops.size → (j = i ∨ anc ops ops.size j i = true) → dstOf ops j = some d → a.tmps.getD d undef = a0.tmps.getD d undef) →
      o.wp P a (S s) (fun a' w' => a' = a.put o.dst (val i) ∧ w' = S (if ms.contains i then s + 1 else s)) Q)
    (done : ∀ a, a.defers = a0.defers → a.tmps.size = a0.tmps.size →
      (∀ k, (∀ j, j < ops.size → dstOf ops j ≠ some k) → a.tmps.getD k undef = a0.tmps.getD k undef) →
      (∀ i d, i < ops.size → dstOf ops i = some d → a.tmps.getD d undef = val i) → Q .normal a (S ms.length)) (hlt : ∀ m ∈ ms, m < ops.size) :
    (Code.region id ops true).wp P Q a0 w0 := by
  refine wp_region_any hm ?_
  refine wpAny_inv (fun L a w => L.size = ops.size ∧ ClosedL ops L ∧ (∃ s, Stage ms L s ∧ w = S s) ∧ a.defers = a0.defers ∧ a.tmps.size = a0.tmps.size ∧
      (∀ k, (∀ j, j < ops.size → dstOf ops j ≠ some k) → a.tmps.getD k undef = a0.tmps.getD k undef) ∧
      (∀ i d, i < ops.size → L.getD i false = true → dstOf ops i = some d → a.tmps.getD d undef = val i) ∧
      (∀ j d, j < ops.size → L.getD j false = false → dstOf ops j = some d → a.tmps.getD d undef = a0.tmps.getD d undef)) (fun L a w h => h.1) ?_ ?_ _ _ _ _ ?_ ?_
  · rintro L a w i ⟨h1, hcl, ⟨s, hS, rfl⟩, h3, h4, h5, h6, h7⟩ hi
    obtain ⟨o, ho, hlt', hL, haf⟩ := ready_spec hi
    have hLf : L.getD i false = false := by
      rw [Array.getD_eq_getD_getElem?, Array.getElem?_eq_getElem (by omega)] at hL ⊢
      simpa using hL
    have hon : ∀ e ∈ o.after, Region.binds .any e = true → e.on < ops.size := fun e he hb => by
      have := haf e he hb
      rcases Nat.lt_or_ge e.on ops.size with h' | h'
      · exact h'
      · rw [Array.getD_eq_getD_getElem?, Array.getElem?_eq_none (by omega)] at this; simp at this
    have hun : ∀ j, (j = i ∨ anc ops ops.size j i = true) → L.getD j false = false := by
      intro j hj
      rcases hj with rfl | hj
      · exact hLf
      · cases h : L.getD j false with
        | false => rfl
        | true => rw [anc_listed hcl _ _ _ h hj] at hLf; cases hLf
    have hlo : ∀ k, k < ms.length → anc ops ops.size i (ms.getD k 0) = true → k < s := by
      intro k hk ha
      have := anc_ready hcl ho haf _ _ ha
      rw [hS.2 k hk] at this
      simpa using this
    have hhi : ∀ k, k < ms.length → (ms.getD k 0 = i ∨ anc ops ops.size (ms.getD k 0) i = true) → s ≤ k := by
      intro k hk ha
      have := hun _ ha
      rw [hS.2 k hk] at this
      simpa using this
    have hst := step i o ho s a hS.1 hlo hhi h5 (fun e he hb d hd => h6 e.on d (hon e he hb) (haf e he hb) hd) (fun j d hj ha hd => h7 j d hj (hun j ha) hd)
    have hgo : o.guard = none := by
      rw [Array.all_eq_true] at hg
      have := hg i hlt'
      have ho' : ops[i] = o := by rw [Array.getElem?_eq_getElem hlt'] at ho; injection ho
      rw [ho'] at this
      simpa using this
    unfold wpOp
    rw [ho]
    simp only [wanted_none hgo, if_true]
    refine .inl (Oper.wp_mono ?_ hst)
    rintro a' w' ⟨rfl, rfl⟩
    refine ⟨by rw [Array.size_setIfInBounds]; exact h1, ?_, ⟨_, ?_, rfl⟩, ?_, ?_, ?_, ?_, ?_⟩
    · intro j p hp hj e he hb
      rw [set_getD' _ _ _ (by omega)] at hj ⊢
      by_cases hji : j = i
      · subst hji
        rw [ho] at hp
        injection hp with hp
        subst hp
        rw [haf e he hb]; simp
      · rw [if_neg hji] at hj
        rw [hcl j p hp hj e he hb]; simp
    · by_cases hmi : i ∈ ms
      · obtain ⟨k, hk, hki⟩ := List.getElem_of_mem hmi
        have hkd : ms.getD k 0 = i := by rw [List.getD_eq_getElem?_getD, List.getElem?_eq_getElem hk, Option.getD_some, hki]
        have hs1 := hhi k hk (.inl hkd)
        have hs2 : k ≤ s := by
          cases k with
          | zero => omega
          | succ k =>
            have := hlo k (by omega) (by rw [← hkd]; exact (chain_spec hch hk (by omega) (by omega)).2 (by omega))
            omega
        have hsk : s = k := by omega
        subst hsk
        rw [if_pos (by simpa using hmi)]
        refine ⟨by omega, fun k' hk' => ?_⟩
        rw [set_getD' _ _ _ (by omega)]
        by_cases e : k' = s
        · subst e; rw [if_pos hkd]; simp
        · rw [if_neg (fun q => (chain_spec hch hk' hk e).1 (q.trans hkd.symm)), hS.2 k' hk']
          rw [decide_eq_decide]; omega
      · rw [if_neg (by simpa using hmi)]
        refine ⟨hS.1, fun k' hk' => ?_⟩
        rw [set_getD' _ _ _ (by omega), if_neg (fun q => hmi ?_), hS.2 k' hk']
        rw [← q, List.getD_eq_getElem?_getD, List.getElem?_eq_getElem hk', Option.getD_some]
        exact List.getElem_mem _
    · cases o.dst <;> exact h3
    · cases hod : o.dst with
      | none => exact h4
      | some d => simp only [Act.put, Array.size_setIfInBounds]; exact h4
    · intro k hk
      cases hod : o.dst with
      | none => exact h5 k hk
      | some d =>
        have hdi : dstOf ops i = some d := by simp [dstOf, ho, hod]
        rw [getD_put _ _ _ _ (by have := (good_spec hdf hlt' hdi).1; omega), if_neg (fun e => hk i hlt' (by rw [e]; exact hdi))]
        exact h5 k hk
    · intro j d hj hLj hdj
      rw [set_getD' _ _ _ (by omega)] at hLj
      cases hod : o.dst with
      | none =>
        by_cases hji : j = i
        · subst hji
          have : dstOf ops j = none := by simp [dstOf, ho, hod]
          rw [this] at hdj
          cases hdj
        · rw [if_neg hji] at hLj
          exact h6 j d hj hLj hdj
      | some d' =>
        have hdi : dstOf ops i = some d' := by simp [dstOf, ho, hod]
        have hf := good_spec hdf hlt' hdi
        rw [getD_put _ _ _ _ (by omega)]
        by_cases hji : j = i
        · subst hji
          rw [hdi] at hdj
          injection hdj with hdj
          rw [if_pos hdj.symm]
        · rw [if_neg hji] at hLj
          rw [if_neg (fun e => hf.2 j hj hji (by rw [← e]; exact hdj))]
          exact h6 j d hj hLj hdj
    · intro j d hj hLj hdj
      rw [set_getD' _ _ _ (by omega)] at hLj
      have hji : j ≠ i := by
        rintro rfl
        rw [if_pos rfl] at hLj
        cases hLj
      rw [if_neg hji] at hLj
      cases hod : o.dst with
      | none => exact h7 j d hj hLj hdj
      | some d' =>
        have hdi : dstOf ops i = some d' := by simp [dstOf, ho, hod]
        have hf := good_spec hdf hlt' hdi
        rw [getD_put _ _ _ _ (by omega), if_neg (fun e => hf.2 j hj hji (by rw [← e]; exact hdj))]
        exact h7 j d hj hLj hdj
  · rintro L a w ⟨h1, hcl, ⟨s, hS, rfl⟩, h3, h4, h5, h6, h7⟩ hr
    have hall := all_listed hah h1 hr
    have hs : s = ms.length := by
      refine Nat.le_antisymm hS.1 (Nat.le_of_not_lt fun h => ?_)
      have e := hS.2 s h
      have hmem : ms.getD s 0 ∈ ms := by rw [List.getD_eq_getElem?_getD, List.getElem?_eq_getElem h, Option.getD_some]; exact List.getElem_mem _
      rw [hall _ (hlt _ hmem)] at e
      simp at e
    subst hs
    exact done a h3 h4 h5 fun i d hi hd => h6 i d hi (hall i hi) hd
  · refine ⟨by simp, ?_, ⟨0, ⟨Nat.zero_le _, fun k hk => ?_⟩, hW0.symm⟩, rfl, rfl, fun _ _ => rfl, fun i d hi h => ?_, fun _ _ _ _ _ => rfl⟩
    · intro j p hp hj
      rw [Array.getD_eq_getD_getElem?, Array.getElem?_replicate] at hj
      split at hj <;> simp at hj
    · rw [Array.getD_eq_getD_getElem?, Array.getElem?_replicate]
      split <;> simp
    · rw [Array.getD_eq_getD_getElem?, Array.getElem?_replicate] at h
      simp [hi] at h
  · unfold left
    exact Nat.le_trans (List.countP_le_length) (by simp)
/-- two frames of one length that read alike are one -/
theorem arr_one {x y : Array Value} (hs : x.size = y.size) (h : ∀ k, k < y.size → x.getD k undef = y.getD k undef) : x = y := by
  refine Array.ext hs fun i h1 h2 => ?_
  have := h i h2
  rwa [Array.getD_eq_getD_getElem?, Array.getD_eq_getD_getElem?, Array.getElem?_eq_getElem h1, Array.getElem?_eq_getElem h2] at this
theorem step_c {P : Program} {o : Oper} {a : Act} {w w' : World} {Q : Exit → Act → World → Prop} {v : Value} {X : World} (hX : w' = X) (h : ∀ K : Act → World → Prop, K (a.put o.dst v) w' → o.wp P a w K Q) : o.wp P a w (fun a' w'' => a' = a.put o.dst v ∧ w'' = X) Q := h _ ⟨rfl, hX⟩
end Go.Proofs.YtolddolfpnkndaaGreat
