/-
  A REGION THAT DRAWS ITS ORDER, whose operations that turn the world stand one behind the other (a chain): each operation is looked at once, in the worlds in which it may come up. No condition beyond those that each theorem bears.
  THE LAW OF A CHAIN OF MOVERS (Rg) where an edge that binds in no order that is drawn here stands behind its operation.
  A REGION THAT DRAWS ITS ORDER, by an invariant, with operations that their guards pass over. No condition beyond those that the theorem bears.
  hint.parts' function value.
-/
import Derived.Test.YtifjjoobbegpoaaMhao
import Derived.Test.YtifjjoobbegpoaaMhbm
import Derived.Test.YtifjjoobbegpoaaMhbi
namespace Go.Proofs.Ytifjjoobbegpoaa
open Go Go.RowKit
/-- operation j must come ahead of operation i -/
def anc (ops : Array Oper) : Nat → Nat → Nat → Bool
  | 0, _, _ => false
  | f + 1, i, j => match ops[i]? with
    | none => false
    | some o => o.after.any fun e => Region.binds .any e && (e.on == j || anc ops f e.on j)
def ClosedL (ops : Array Oper) (L : Array Bool) : Prop := ∀ j p, ops[j]? = some p → L.getD j false = true → ∀ e ∈ p.after, Region.binds .any e = true → L.getD e.on false = true
theorem anc_listed {ops : Array Oper} {L : Array Bool} (hc : ClosedL ops L) : ∀ f i j, L.getD i false = true → anc ops f i j = true → L.getD j false = true := by
  intro f
  induction f with
  | zero => intro i j _ h; cases h
  | succ f ih =>
    intro i j hi h
    unfold anc at h
    split at h
    · cases h
    · rename_i o ho
      rw [Array.any_eq_true'] at h
      obtain ⟨e, he, h⟩ := h
      simp only [Bool.and_eq_true, Bool.or_eq_true, beq_iff_eq] at h
      have hl := hc i o ho hi e he h.1
      rcases h.2 with rfl | h2
      · exact hl
      · exact ih _ _ hl h2
theorem anc_ready {ops : Array Oper} {L : Array Bool} (hc : ClosedL ops L) {i : Nat} {o : Oper} (ho : ops[i]? = some o) (hon : ∀ e ∈ o.after, Region.binds .any e = true → L.getD e.on false = true) (f j : Nat) (h : anc ops f i j = true) : L.getD j false = true := by
  cases f with
  | zero => cases h
  | succ f =>
    unfold anc at h
    rw [ho] at h
    simp only [Array.any_eq_true'] at h
    obtain ⟨e, he, h⟩ := h
    simp only [Bool.and_eq_true, Bool.or_eq_true, beq_iff_eq] at h
    have hl := hon e he h.1
    rcases h.2 with rfl | h2
    · exact hl
    · exact anc_listed hc f _ _ hl h2
theorem set_getD' (L : Array Bool) (i j : Nat) (hi : i < L.size) : (L.setIfInBounds i true).getD j false = if j = i then true else L.getD j false := by
  rw [Array.getD_eq_getD_getElem?, Array.getD_eq_getD_getElem?, Array.getElem?_setIfInBounds]
  by_cases h : j = i
  · subst h; simp [hi]
  · rw [if_neg (by omega), if_neg h]
def dstsGood (ops : Array Oper) (n : Nat) : Bool :=
  (List.range ops.size).all fun i => match dstOf ops i with
    | none => true
    | some d => decide (d < n) && (List.range ops.size).all fun j => decide (i = j) || !(dstOf ops j == some d)
theorem good_spec {ops : Array Oper} {n : Nat} (h : dstsGood ops n = true) {i d : Nat} (hi : i < ops.size) (hd : dstOf ops i = some d) : d < n ∧ ∀ j, j < ops.size → j ≠ i → dstOf ops j ≠ some d := by
  unfold dstsGood at h
  have := List.all_eq_true.1 h i (by simpa using hi)
  rw [hd] at this
  simp only [Bool.and_eq_true, decide_eq_true_eq, List.all_eq_true, List.mem_range, Bool.or_eq_true, Bool.not_eq_eq_eq_not, Bool.not_true, beq_eq_false_iff_ne] at this
  refine ⟨this.1, fun j hj hne => ?_⟩
  rcases this.2 j hj with h' | h'
  · exact absurd h'.symm hne
  · exact h'
/-- the movers: no one twice, each behind all that stand ahead of it in the list -/
def chainOk (ops : Array Oper) (ms : List Nat) : Bool :=
  (List.range ms.length).all fun k => (List.range ms.length).all fun k' => decide (k = k') || (decide (ms.getD k 0 ≠ ms.getD k' 0) && (decide (k < k') || anc ops ops.size (ms.getD k 0) (ms.getD k' 0)))
theorem chain_spec {ops : Array Oper} {ms : List Nat} (h : chainOk ops ms = true) {k k' : Nat} (hk : k < ms.length) (hk' : k' < ms.length) (hne : k ≠ k') : ms.getD k 0 ≠ ms.getD k' 0 ∧ (k' < k → anc ops ops.size (ms.getD k 0) (ms.getD k' 0) = true) := by
  unfold chainOk at h
  have := List.all_eq_true.1 (List.all_eq_true.1 h k (by simpa using hk)) k' (by simpa using hk')
  simp only [Bool.or_eq_true, decide_eq_true_eq, Bool.and_eq_true] at this
  rcases this with h1 | ⟨h1, h2⟩
  · exact absurd h1 hne
  · refine ⟨h1, fun hlt => ?_⟩
    rcases h2 with h2 | h2
    · omega
    · exact h2
/-- s of the movers are listed, the first ones -/
def Stage (ms : List Nat) (L : Array Bool) (s : Nat) : Prop := s ≤ ms.length ∧ ∀ k, k < ms.length → L.getD (ms.getD k 0) false = decide (k < s)
theorem region_chain {P : Program} {id : Nat} {ops : Array Oper} {Q : Exit → Act → World → Prop} {a0 : Act} {w0 : World} (val : Nat → Value) (ms : List Nat) (S : Nat → World)
    (hm : P.follows .mixedOrders = true) (hg : (ops.all fun o => o.guard.isNone) = true) (hdf : dstsGood ops a0.tmps.size = true) (hah : aftersAhead ops = true) (hch : chainOk ops ms = true) (hW0 : S 0 = w0.drew)
    (step : ∀ i o, ops[i]? = some o → ∀ (s : Nat) (a : Act), s ≤ ms.length →
      (∀ k, k < ms.length → anc ops ops.size i (ms.getD k 0) = true → k < s) → (∀ k, k < ms.length → (ms.getD k 0 = i ∨ anc ops ops.size (ms.getD k 0) i = true) → s ≤ k) →
      (∀ k, (∀ j, j < ops.size → dstOf ops j ≠ some k) → a.tmps.getD k undef = a0.tmps.getD k undef) →
      (∀ e ∈ o.after, Region.binds .any e = true → ∀ d, dstOf ops e.on = some d → a.tmps.getD d undef = val e.on) →
      (∀ j d, j < ops.size → (j = i ∨ anc ops ops.size j i = true) → dstOf ops j = some d → a.tmps.getD d undef = a0.tmps.getD d undef) →
      o.wp P a (S s) (fun a' w' => a' = a.put o.dst (val i) ∧ w' = S (if ms.contains i then s + 1 else s)) Q)
    (done : ∀ a, a.defers = a0.defers → a.tmps.size = a0.tmps.size →
      (∀ k, (∀ j, j < ops.size → dstOf ops j ≠ some k) → a.tmps.getD k undef = a0.tmps.getD k undef) →
      (∀ i d, i < ops.size → dstOf ops i = some d → a.tmps.getD d undef = val i) → Q .normal a (S ms.length)) (hlt : ∀ m ∈ ms, m < ops.size) :
    (Code.region id ops true).wp P Q a0 w0 := by
  refine wp_region_any hm ?_
  refine wpAny_inv (fun L a w => L.size = ops.size ∧ ClosedL ops L ∧ (∃ s, Stage ms L s ∧ w = S s) ∧ a.defers = a0.defers ∧ a.tmps.size = a0.tmps.size ∧
      (∀ k, (∀ j, j < ops.size → dstOf ops j ≠ some k) → a.tmps.getD k undef = a0.tmps.getD k undef) ∧
      (∀ i d, i < ops.size → L.getD i false = true → dstOf ops i = some d → a.tmps.getD d undef = val i) ∧
      (∀ j d, j < ops.size → L.getD j false = false → dstOf ops j = some d → a.tmps.getD d undef = a0.tmps.getD d undef)) (fun L a w h => h.1) ?_ ?_ _ _ _ _ ?_ ?_
  · rintro L a w i ⟨h1, hcl, ⟨s, hS, rfl⟩, h3, h4, h5, h6, h7⟩ hi
    obtain ⟨o, ho, hlt', hL, haf⟩ := ready_spec hi
    have hLf : L.getD i false = false := by
      rw [Array.getD_eq_getD_getElem?, Array.getElem?_eq_getElem (by omega)] at hL ⊢
      simpa using hL
    have hon : ∀ e ∈ o.after, Region.binds .any e = true → e.on < ops.size := fun e he hb => by
      have := haf e he hb
      rcases Nat.lt_or_ge e.on ops.size with h' | h'
      · exact h'
      · rw [Array.getD_eq_getD_getElem?, Array.getElem?_eq_none (by omega)] at this; simp at this
    have hun : ∀ j, (j = i ∨ anc ops ops.size j i = true) → L.getD j false = false := by
      intro j hj
      rcases hj with rfl | hj
      · exact hLf
      · cases h : L.getD j false with
        | false => rfl
        | true => rw [anc_listed hcl _ _ _ h hj] at hLf; cases hLf
    have hlo : ∀ k, k < ms.length → anc ops ops.size i (ms.getD k 0) = true → k < s := by
      intro k hk ha
      have := anc_ready hcl ho haf _ _ ha
      rw [hS.2 k hk] at this
      simpa using this
    have hhi : ∀ k, k < ms.length → (ms.getD k 0 = i ∨ anc ops ops.size (ms.getD k 0) i = true) → s ≤ k := by
      intro k hk ha
      have := hun _ ha
      rw [hS.2 k hk] at this
      simpa using this
    have hst := step i o ho s a hS.1 hlo hhi h5 (fun e he hb d hd => h6 e.on d (hon e he hb) (haf e he hb) hd) (fun j d hj ha hd => h7 j d hj (hun j ha) hd)
    have hgo : o.guard = none := by
      rw [Array.all_eq_true] at hg
      have := hg i hlt'
      have ho' : ops[i] = o := by rw [Array.getElem?_eq_getElem hlt'] at ho; injection ho
      rw [ho'] at this
      simpa using this
    unfold wpOp
    rw [ho]
    simp only [wanted_none hgo, if_true]
    refine .inl (Oper.wp_mono ?_ hst)
    rintro a' w' ⟨rfl, rfl⟩
    refine ⟨by rw [Array.size_setIfInBounds]; exact h1, ?_, ⟨_, ?_, rfl⟩, ?_, ?_, ?_, ?_, ?_⟩
    · intro j p hp hj e he hb
      rw [set_getD' _ _ _ (by omega)] at hj ⊢
      by_cases hji : j = i
      · subst hji
        rw [ho] at hp
        injection hp with hp
        subst hp
        rw [haf e he hb]; simp
      · rw [if_neg hji] at hj
        rw [hcl j p hp hj e he hb]; simp
    · by_cases hmi : i ∈ ms
      · obtain ⟨k, hk, hki⟩ := List.getElem_of_mem hmi
        have hkd : ms.getD k 0 = i := by rw [List.getD_eq_getElem?_getD, List.getElem?_eq_getElem hk, Option.getD_some, hki]
        have hs1 := hhi k hk (.inl hkd)
        have hs2 : k ≤ s := by
          cases k with
          | zero => omega
          | succ k =>
            have := hlo k (by omega) (by rw [← hkd]; exact (chain_spec hch hk (by omega) (by omega)).2 (by omega))
            omega
        have hsk : s = k := by omega
        subst hsk
        rw [if_pos (by simpa using hmi)]
        refine ⟨by omega, fun k' hk' => ?_⟩
        rw [set_getD' _ _ _ (by omega)]
        by_cases e : k' = s
        · subst e; rw [if_pos hkd]; simp
        · rw [if_neg (fun q => (chain_spec hch hk' hk e).1 (q.trans hkd.symm)), hS.2 k' hk']
          rw [decide_eq_decide]; omega
      · rw [if_neg (by simpa using hmi)]
        refine ⟨hS.1, fun k' hk' => ?_⟩
        rw [set_getD' _ _ _ (by omega), if_neg (fun q => hmi ?_), hS.2 k' hk']
        rw [← q, List.getD_eq_getElem?_getD, List.getElem?_eq_getElem hk', Option.getD_some]
        exact List.getElem_mem _
    · cases o.dst <;> exact h3
    · cases hod : o.dst with
      | none => exact h4
      | some d => simp only [Act.put, Array.size_setIfInBounds]; exact h4
    · intro k hk
      cases hod : o.dst with
      | none => exact h5 k hk
      | some d =>
        have hdi : dstOf ops i = some d := by simp [dstOf, ho, hod]
        rw [getD_put _ _ _ _ (by have := (good_spec hdf hlt' hdi).1; omega), if_neg (fun e => hk i hlt' (by rw [e]; exact hdi))]
        exact h5 k hk
    · intro j d hj hLj hdj
      rw [set_getD' _ _ _ (by omega)] at hLj
      cases hod : o.dst with
      | none =>
        by_cases hji : j = i
        · subst hji
          have : dstOf ops j = none := by simp [dstOf, ho, hod]
          rw [this] at hdj
          cases hdj
        · rw [if_neg hji] at hLj
          exact h6 j d hj hLj hdj
      | some d' =>
        have hdi : dstOf ops i = some d' := by simp [dstOf, ho, hod]
        have hf := good_spec hdf hlt' hdi
        rw [getD_put _ _ _ _ (by omega)]
        by_cases hji : j = i
        · subst hji
          rw [hdi] at hdj
          injection hdj with hdj
          rw [if_pos hdj.symm]
        · rw [if_neg hji] at hLj
          rw [if_neg (fun e => hf.2 j hj hji (by rw [← e]; exact hdj))]
          exact h6 j d hj hLj hdj
    · intro j d hj hLj hdj
      rw [set_getD' _ _ _ (by omega)] at hLj
      have hji : j ≠ i := by
        rintro rfl
        rw [if_pos rfl] at hLj
        cases hLj
      rw [if_neg hji] at hLj
      cases hod : o.dst with
      | none => exact h7 j d hj hLj hdj
      | some d' =>
        have hdi : dstOf ops i = some d' := by simp [dstOf, ho, hod]
        have hf := good_spec hdf hlt' hdi
        rw [getD_put _ _ _ _ (by omega), if_neg (fun e => hf.2 j hj hji (by rw [← e]; exact hdj))]
        exact h7 j d hj hLj hdj
  · rintro L a w ⟨h1, hcl, ⟨s, hS, rfl⟩, h3, h4, h5, h6, h7⟩ hr
    have hall := all_listed hah h1 hr
    have hs : s = ms.length := by
      refine Nat.le_antisymm hS.1 (Nat.le_of_not_lt fun h => ?_)
      have e := hS.2 s h
      have hmem : ms.getD s 0 ∈ ms := by rw [List.getD_eq_getElem?_getD, List.getElem?_eq_getElem h, Option.getD_some]; exact List.getElem_mem _
      rw [hall _ (hlt _ hmem)] at e
      simp at e
    subst hs
    exact done a h3 h4 h5 fun i d hi hd => h6 i d hi (hall i hi) hd
  · refine ⟨by simp, ?_, ⟨0, ⟨Nat.zero_le _, fun k hk => ?_⟩, hW0.symm⟩, rfl, rfl, fun _ _ => rfl, fun i d hi h => ?_, fun _ _ _ _ _ => rfl⟩
    · intro j p hp hj
      rw [Array.getD_eq_getD_getElem?, Array.getElem?_replicate] at hj
      split at hj <;> simp at hj
    · rw [Array.getD_eq_getD_getElem?, Array.getElem?_replicate]
      split <;> simp
    · rw [Array.getD_eq_getD_getElem?, Array.getElem?_replicate] at h
      simp [hi] at h
  · unfold left
    exact Nat.le_trans (List.countP_le_length) (by simp)
/-- two frames of one length that read alike are one -/
theorem arr_one {x y : Array Value} (hs : x.size = y.size) (h : ∀ k, k < y.size → x.getD k undef = y.getD k undef) : x = y := by
  refine Array.ext hs fun i h1 h2 => ?_
  have := h i h2
  rwa [Array.getD_eq_getD_getElem?, Array.getD_eq_getD_getElem?, Array.getElem?_eq_getElem h1, Array.getElem?_eq_getElem h2] at this
theorem step_c {P : Program} {o : Oper} {a : Act} {w w' : World} {Q : Exit → Act → World → Prop} {v : Value} {X : World} (hX : w' = X) (h : ∀ K : Act → World → Prop, K (a.put o.dst v) w' → o.wp P a w K Q) : o.wp P a w (fun a' w'' => a' = a.put o.dst v ∧ w'' = X) Q := h _ ⟨rfl, hX⟩
end Go.Proofs.Ytifjjoobbegpoaa
namespace Go.Proofs.Ytifjjoobbegpoaa
open Go Go.RowKit
/-- each operation's forerunners that bind stand ahead of it -/
def aftersBound (ops : Array Oper) : Bool := (List.range ops.size).all fun i => ((ops[i]?).map fun o => o.after.all fun e => !Region.binds .any e || decide (e.on < i)).getD true
theorem all_listedB {ops : Array Oper} {L : Array Bool} (h : aftersBound ops = true) (hs : L.size = ops.size) (hr : Region.ready .any ops L = []) : ∀ i, i < ops.size → L.getD i false = true := by
  intro i
  induction i using Nat.strongRecOn with
  | _ i ih =>
    intro hi
    refine Classical.byContradiction fun hn => ?_
    have hL : L.getD i true = false := by
      rw [Array.getD_eq_getD_getElem?, Array.getElem?_eq_getElem (by omega)] at hn ⊢
      simpa using hn
    have ho : ops[i]? = some ops[i] := Array.getElem?_eq_getElem hi
    have hmem : i ∈ Region.ready .any ops L := by
      unfold Region.ready
      refine List.mem_filter.2 ⟨by simpa using hi, ?_⟩
      rw [hL, ho]
      simp only [Option.map_some, Option.getD_some, Bool.not_false, Bool.true_and, Array.all_eq_true']
      intro e he
      by_cases hb : Region.binds .any e = true
      · have hlt : e.on < i := by
          unfold aftersBound at h
          have := List.all_eq_true.1 h i (by simpa using hi)
          rw [ho] at this
          simp only [Option.map_some, Option.getD_some, Array.all_eq_true'] at this
          have := this e he
          rw [hb] at this
          simpa using this
        rw [ih e.on hlt (by omega)]
        simp
      · have hb' : Region.binds .any e = false := by simpa using hb
        rw [hb']
        simp
    rw [hr] at hmem
    simp at hmem
theorem region_chainB {P : Program} {id : Nat} {ops : Array Oper} {Q : Exit → Act → World → Prop} {a0 : Act} {w0 : World} (val : Nat → Value) (ms : List Nat) (S : Nat → World)
    (hm : P.follows .mixedOrders = true) (hg : (ops.all fun o => o.guard.isNone) = true) (hdf : dstsGood ops a0.tmps.size = true) (hah : aftersBound ops = true) (hch : chainOk ops ms = true) (hW0 : S 0 = w0.drew)
    (step : ∀ i o, ops[i]? = some o → ∀ (s : Nat) (a : Act), s ≤ ms.length →
      (∀ k, k < ms.length → anc ops ops.size i (ms.getD k 0) = true → k < s) → (∀ k, k < ms.length → (ms.getD k 0 = i ∨ anc ops ops.size (ms.getD k 0) i = true) → s ≤ k) →
      (∀ k, (∀ j, j < ops.size → dstOf ops j ≠ some k) → a.tmps.getD k undef = a0.tmps.getD k undef) →
      (∀ e ∈ o.after, Region.binds .any e = true → ∀ d, dstOf ops e.on = some d → a.tmps.getD d undef = val e.on) →
      (∀ j d, j < ops.size → (j = i ∨ anc ops ops.size j i = true) → dstOf ops j = some d → a.tmps.getD d undef = a0.tmps.getD d undef) →
      o.wp P a (S s) (fun a' w' => a' = a.put o.dst (val i) ∧ w' = S (if ms.contains i then s + 1 else s)) Q)
    (done : ∀ a, a.defers = a0.defers → a.tmps.size = a0.tmps.size →
      (∀ k, (∀ j, j < ops.size → dstOf ops j ≠ some k) → a.tmps.getD k undef = a0.tmps.getD k undef) →
      (∀ i d, i < ops.size → dstOf ops i = some d → a.tmps.getD d undef = val i) → Q .normal a (S ms.length)) (hlt : ∀ m ∈ ms, m < ops.size) :
    (Code.region id ops true).wp P Q a0 w0 := by
  refine wp_region_any hm ?_
  refine wpAny_inv (fun L a w => L.size = ops.size ∧ ClosedL ops L ∧ (∃ s, Stage ms L s ∧ w = S s) ∧ a.defers = a0.defers ∧ a.tmps.size = a0.tmps.size ∧
      (∀ k, (∀ j, j < ops.size → dstOf ops j ≠ some k) → a.tmps.getD k undef = a0.tmps.getD k undef) ∧
      (∀ i d, i < ops.size → L.getD i false = true → dstOf ops i = some d → a.tmps.getD d undef = val i) ∧
      (∀ j d, j < ops.size → L.getD j false = false → dstOf ops j = some d → a.tmps.getD d undef = a0.tmps.getD d undef)) (fun L a w h => h.1) ?_ ?_ _ _ _ _ ?_ ?_
  · rintro L a w i ⟨h1, hcl, ⟨s, hS, rfl⟩, h3, h4, h5, h6, h7⟩ hi
    obtain ⟨o, ho, hlt', hL, haf⟩ := ready_spec hi
    have hLf : L.getD i false = false := by
      rw [Array.getD_eq_getD_getElem?, Array.getElem?_eq_getElem (by omega)] at hL ⊢
      simpa using hL
    have hon : ∀ e ∈ o.after, Region.binds .any e = true → e.on < ops.size := fun e he hb => by
      have := haf e he hb
      rcases Nat.lt_or_ge e.on ops.size with h' | h'
      · exact h'
      · rw [Array.getD_eq_getD_getElem?, Array.getElem?_eq_none (by omega)] at this; simp at this
    have hun : ∀ j, (j = i ∨ anc ops ops.size j i = true) → L.getD j false = false := by
      intro j hj
      rcases hj with rfl | hj
      · exact hLf
      · cases h : L.getD j false with
        | false => rfl
        | true => rw [anc_listed hcl _ _ _ h hj] at hLf; cases hLf
    have hlo : ∀ k, k < ms.length → anc ops ops.size i (ms.getD k 0) = true → k < s := by
      intro k hk ha
      have := anc_ready hcl ho haf _ _ ha
      rw [hS.2 k hk] at this
      simpa using this
    have hhi : ∀ k, k < ms.length → (ms.getD k 0 = i ∨ anc ops ops.size (ms.getD k 0) i = true) → s ≤ k := by
      intro k hk ha
      have := hun _ ha
      rw [hS.2 k hk] at this
      simpa using this
    have hst := step i o ho s a hS.1 hlo hhi h5 (fun e he hb d hd => h6 e.on d (hon e he hb) (haf e he hb) hd) (fun j d hj ha hd => h7 j d hj (hun j ha) hd)
    have hgo : o.guard = none := by
      rw [Array.all_eq_true] at hg
      have := hg i hlt'
      have ho' : ops[i] = o := by rw [Array.getElem?_eq_getElem hlt'] at ho; injection ho
      rw [ho'] at this
      simpa using this
    unfold wpOp
    rw [ho]
    simp only [wanted_none hgo, if_true]
    refine .inl (Oper.wp_mono ?_ hst)
    rintro a' w' ⟨rfl, rfl⟩
    refine ⟨by rw [Array.size_setIfInBounds]; exact h1, ?_, ⟨_, ?_, rfl⟩, ?_, ?_, ?_, ?_, ?_⟩
    · intro j p hp hj e he hb
      rw [set_getD' _ _ _ (by omega)] at hj ⊢
      by_cases hji : j = i
      · subst hji
        rw [ho] at hp
        injection hp with hp
        subst hp
        rw [haf e he hb]; simp
      · rw [if_neg hji] at hj
        rw [hcl j p hp hj e he hb]; simp
    · by_cases hmi : i ∈ ms
      · obtain ⟨k, hk, hki⟩ := List.getElem_of_mem hmi
        have hkd : ms.getD k 0 = i := by rw [List.getD_eq_getElem?_getD, List.getElem?_eq_getElem hk, Option.getD_some, hki]
        have hs1 := hhi k hk (.inl hkd)
        have hs2 : k ≤ s := by
          cases k with
          | zero => omega
          | succ k =>
            have := hlo k (by omega) (by rw [← hkd]; exact (chain_spec hch hk (by omega) (by omega)).2 (by omega))
            omega
        have hsk : s = k := by omega
        subst hsk
        rw [if_pos (by simpa using hmi)]
        refine ⟨by omega, fun k' hk' => ?_⟩
        rw [set_getD' _ _ _ (by omega)]
        by_cases e : k' = s
        · subst e; rw [if_pos hkd]; simp
        · rw [if_neg (fun q => (chain_spec hch hk' hk e).1 (q.trans hkd.symm)), hS.2 k' hk']
          rw [decide_eq_decide]; omega
      · rw [if_neg (by simpa using hmi)]
        refine ⟨hS.1, fun k' hk' => ?_⟩
        rw [set_getD' _ _ _ (by omega), if_neg (fun q => hmi ?_), hS.2 k' hk']
        rw [← q, List.getD_eq_getElem?_getD, List.getElem?_eq_getElem hk', Option.getD_some]
        exact List.getElem_mem _
    · cases o.dst <;> exact h3
    · cases hod : o.dst with
      | none => exact h4
      | some d => simp only [Act.put, Array.size_setIfInBounds]; exact h4
    · intro k hk
      cases hod : o.dst with
      | none => exact h5 k hk
      | some d =>
        have hdi : dstOf ops i = some d := by simp [dstOf, ho, hod]
        rw [getD_put _ _ _ _ (by have := (good_spec hdf hlt' hdi).1; omega), if_neg (fun e => hk i hlt' (by rw [e]; exact hdi))]
        exact h5 k hk
    · intro j d hj hLj hdj
      rw [set_getD' _ _ _ (by omega)] at hLj
      cases hod : o.dst with
      | none =>
        by_cases hji : j = i
        · subst hji
          have : dstOf ops j = none := by simp [dstOf, ho, hod]
          rw [this] at hdj
          cases hdj
        · rw [if_neg hji] at hLj
          exact h6 j d hj hLj hdj
      | some d' =>
        have hdi : dstOf ops i = some d' := by simp [dstOf, ho, hod]
        have hf := good_spec hdf hlt' hdi
        rw [getD_put _ _ _ _ (by omega)]
        by_cases hji : j = i
        · subst hji
          rw [hdi] at hdj
          injection hdj with hdj
          rw [if_pos hdj.symm]
        · rw [if_neg hji] at hLj
          rw [if_neg (fun e => hf.2 j hj hji (by rw [← e]; exact hdj))]
          exact h6 j d hj hLj hdj
    · intro j d hj hLj hdj
      rw [set_getD' _ _ _ (by omega)] at hLj
      have hji : j ≠ i := by
        rintro rfl
        rw [if_pos rfl] at hLj
        cases hLj
      rw [if_neg hji] at hLj
      cases hod : o.dst with
      | none => exact h7 j d hj hLj hdj
      | some d' =>
        have hdi : dstOf ops i = some d' := by simp [dstOf, ho, hod]
        have hf := good_spec hdf hlt' hdi
        rw [getD_put _ _ _ _ (by omega), if_neg (fun e => hf.2 j hj hji (by rw [← e]; exact hdj))]
        exact h7 j d hj hLj hdj
  · rintro L a w ⟨h1, hcl, ⟨s, hS, rfl⟩, h3, h4, h5, h6, h7⟩ hr
    have hall := all_listedB hah h1 hr
    have hs : s = ms.length := by
      refine Nat.le_antisymm hS.1 (Nat.le_of_not_lt fun h => ?_)
      have e := hS.2 s h
      have hmem : ms.getD s 0 ∈ ms := by rw [List.getD_eq_getElem?_getD, List.getElem?_eq_getElem h, Option.getD_some]; exact List.getElem_mem _
      rw [hall _ (hlt _ hmem)] at e
      simp at e
    subst hs
    exact done a h3 h4 h5 fun i d hi hd => h6 i d hi (hall i hi) hd
  · refine ⟨by simp, ?_, ⟨0, ⟨Nat.zero_le _, fun k hk => ?_⟩, hW0.symm⟩, rfl, rfl, fun _ _ => rfl, fun i d hi h => ?_, fun _ _ _ _ _ => rfl⟩
    · intro j p hp hj
      rw [Array.getD_eq_getD_getElem?, Array.getElem?_replicate] at hj
      split at hj <;> simp at hj
    · rw [Array.getD_eq_getD_getElem?, Array.getElem?_replicate]
      split <;> simp
    · rw [Array.getD_eq_getD_getElem?, Array.getElem?_replicate] at h
      simp [hi] at h
  · unfold left
    exact Nat.le_trans (List.countP_le_length) (by simp)
end Go.Proofs.Ytifjjoobbegpoaa
namespace Go.Proofs.Ytifjjoobbegpoaa
open Go Go.RowKit
theorem skip_good {P : Program} {o : Oper} {a : Act} {w : World} {Q : Exit → Act → World → Prop} {ops : Array Oper} (good : Value → World → Prop) {X : Prop} (hw : Region.wanted o (yielded ops a.tmps) = true)
    (h : ∀ K : Act → World → Prop, (∀ v w', good v w' → K (a.put o.dst v) w') → o.wp P a w K Q) :
    if Region.wanted o (yielded ops a.tmps) then o.wp P a w (fun a' w' => ∃ v, a' = a.put o.dst v ∧ good v w') Q else X := by
  rw [if_pos hw]
  exact h _ (fun v w' hg => ⟨v, rfl, hg⟩)
theorem skip_no {o : Oper} {f : Nat → Option Bool} {A X : Prop} {j : Nat} {b : Bool} (h : o.guard = some (j, !b)) (hf : f j = some b) (hx : X) : if Region.wanted o f then A else X := by
  rw [if_neg]
  · exact hx
  · unfold Region.wanted; rw [h]; simp [hf]
theorem skip_un {o : Oper} {f : Nat → Option Bool} {A X : Prop} {j : Nat} {b : Bool} (h : o.guard = some (j, b)) (hf : f j = none) (hx : X) : if Region.wanted o f then A else X := by
  rw [if_neg]
  · exact hx
  · unfold Region.wanted; rw [h]; simp [hf]
theorem yielded_un {ops : Array Oper} {t : Array Value} {j d : Nat} (hj : dstOf ops j = some d) (hv : t.getD d undef = undef) : yielded ops t j = none := by
  unfold yielded
  unfold dstOf at hj
  rw [hj]
  simp only [Option.bind_some]
  rw [Array.getD_eq_getD_getElem?] at hv
  cases h : t[d]? with
  | none => rfl
  | some v =>
    rw [h] at hv
    simp only [Option.getD_some] at hv
    subst hv
    rfl
/-- region_inv, where an operation may be passed over by its guard: it yields undef then. 'G i v w': what operation i has yielded, v, is good in the world w; it stays so while the world grows ('W', 'stable'); each operation, its forerunners' yields being good, yields something good ('step'). -/
theorem region_skip {P : Program} {id : Nat} {ops : Array Oper} {Q : Exit → Act → World → Prop} {a0 : Act} {w0 : World} (G : Nat → Value → World → Prop) (W : World → Prop)
    (hm : P.follows .mixedOrders = true) (hd : dstsApart ops a0.tmps.size = true) (hah : aftersBound ops = true) (hW0 : W w0.drew)
    (stable : ∀ i v w w', W w → W w' → Below w.heap.size w w' → G i v w → G i v w')
    (step : ∀ i o, ops[i]? = some o → ∀ a w, W w → a.defers = a0.defers → a.tmps.size = a0.tmps.size →
      (∀ k, (∀ j, j < ops.size → dstOf ops j ≠ some k) → a.tmps.getD k undef = a0.tmps.getD k undef) →
      (∀ e ∈ o.after, Region.binds .any e = true → G e.on (slotOf ops a e.on) w) →
      (if Region.wanted o (yielded ops a.tmps) then o.wp P a w (fun a' w' => ∃ v, a' = a.put o.dst v ∧ Below w.heap.size w w' ∧ W w' ∧ G i v w') Q else G i undef w))
    (done : ∀ a w, W w → a.defers = a0.defers → a.tmps.size = a0.tmps.size →
      (∀ k, (∀ j, j < ops.size → dstOf ops j ≠ some k) → a.tmps.getD k undef = a0.tmps.getD k undef) →
      (∀ i, i < ops.size → G i (slotOf ops a i) w) → Q .normal a w) :
    (Code.region id ops true).wp P Q a0 w0 := by
  refine wp_region_any hm ?_
  refine wpAny_inv (fun L a w => L.size = ops.size ∧ W w ∧ a.defers = a0.defers ∧ a.tmps.size = a0.tmps.size ∧
      (∀ k, (∀ j, j < ops.size → dstOf ops j ≠ some k) → a.tmps.getD k undef = a0.tmps.getD k undef) ∧
      (∀ i, i < ops.size → L.getD i false = true → G i (slotOf ops a i) w)) (fun L a w h => h.1) ?_ ?_ _ _ _ _ ?_ ?_
  · rintro L a w i ⟨h1, h2, h3, h4, h5, h6⟩ hi
    obtain ⟨o, ho, hlt, hL, haf⟩ := ready_spec hi
    obtain ⟨d, hdi, hdn, hdj⟩ := dsts_spec hd hlt
    have hod : o.dst = some d := by simpa [dstOf, ho] using hdi
    have hst := step i o ho a w h2 h3 h4 h5 (fun e he hb => h6 e.on (by
      have := haf e he hb
      rcases Nat.lt_or_ge e.on ops.size with h' | h'
      · exact h'
      · rw [Array.getD_eq_getD_getElem?, Array.getElem?_eq_none (by omega)] at this; simp at this) (haf e he hb))
    have fin : ∀ v w', Below w.heap.size w w' → W w' → G i v w' → (L.setIfInBounds i true).size = ops.size ∧ W w' ∧ (a.put o.dst v).defers = a0.defers ∧ (a.put o.dst v).tmps.size = a0.tmps.size ∧
        (∀ k, (∀ j, j < ops.size → dstOf ops j ≠ some k) → (a.put o.dst v).tmps.getD k undef = a0.tmps.getD k undef) ∧
        (∀ j, j < ops.size → (L.setIfInBounds i true).getD j false = true → G j (slotOf ops (a.put o.dst v) j) w') := by
      intro v w' hb hW' hG
      have hda : d < a.tmps.size := by omega
      rw [hod]
      refine ⟨by rw [Array.size_setIfInBounds]; exact h1, hW', by simp only [Act.put]; exact h3, by simp only [Act.put, Array.size_setIfInBounds]; exact h4, ?_, ?_⟩
      · intro k hk
        rw [getD_put _ _ _ _ hda, if_neg (fun e => hk i hlt (by rw [e]; exact hdi))]
        exact h5 k hk
      · intro j hj hLj
        by_cases e : j = i
        · subst e
          unfold slotOf
          rw [hdi, Option.getD_some, getD_put _ _ _ _ hda, if_pos rfl]
          exact hG
        · obtain ⟨dj, hdj1, hdj2, hdj3⟩ := dsts_spec hd hj
          have hne : dj ≠ d := fun e2 => hdj j hj e (by rw [← e2]; exact hdj1)
          unfold slotOf
          rw [hdj1, Option.getD_some, getD_put _ _ _ _ hda, if_neg hne]
          have hLj' : L.getD j false = true := by
            rw [Array.getD_eq_getD_getElem?, Array.getElem?_setIfInBounds_ne (by omega)] at hLj
            rw [Array.getD_eq_getD_getElem?]; exact hLj
          have := h6 j hj hLj'
          unfold slotOf at this
          rw [hdj1, Option.getD_some] at this
          exact stable j _ w w' h2 hW' hb this
    unfold wpOp
    rw [ho]
    split at hst
    · rename_i hw
      simp only [hw, if_true]
      refine .inl (Oper.wp_mono ?_ hst)
      rintro a' w' ⟨v, rfl, hb, hW', hG⟩
      exact fin v w' hb hW' hG
    · rename_i hw
      simp only [hw]
      exact fin undef w (Below.refl _ _) h2 hst
  · rintro L a w ⟨h1, h2, h3, h4, h5, h6⟩ hr
    exact done a w h2 h3 h4 h5 fun i hi => h6 i hi (all_listedB hah h1 hr i hi)
  · refine ⟨by simp, hW0, rfl, rfl, fun _ _ => rfl, fun i hi h => ?_⟩
    rw [Array.getD_eq_getD_getElem?, Array.getElem?_replicate] at h
    simp [hi] at h
  · unfold left
    exact Nat.le_trans (List.countP_le_length) (by simp)
end Go.Proofs.Ytifjjoobbegpoaa
namespace Go.Proofs.Ytifjjoobbegpoaa
open Go.RowKit Go.Shelf
namespace Vt
attribute [local go_sem] Oper.semAt_some
theorem info_ptr : (Try.prog.info? 34).map (fun i => (i.zero, i.size, i.bytes)) = some (some (.agg #[.int .u64 0, .int .i64 0, .int .i64 0, .int .i64 0, .string ⟨#[]⟩]), 5, 48) := by kernel_rfl
abbrev JPt := JR 34 5
def pvl (p : Ptr) : List Value := [.int .u64 (p.lsn : Int), .int .i64 p.kind, .int .i64 p.at_, .int .i64 p.len, .string p.key]
theorem pvl_one (p : Ptr) : ∀ u ∈ pvl p, u.oneCell' = true := by
  intro u hu
  simp only [pvl, List.mem_cons, List.mem_nil_iff, or_false] at hu
  rcases hu with rfl | rfl | rfl | rfl | rfl <;> rfl
def evl (e : Edg) : List Value := [.int .i64 e.count, .int .i64 e.bytes, .int .i64 e.frames, .int .u32 (e.sum : Int)]
/-- what is read so far, in memory: the boxes from N on -/
structure PS (N base : Nat) (W : World) (s : St) : Prop where
  row : ∃ vp, Boxed W N 60 vp ∧ JPt W base vp (s.ps.map pvl)
  e : Blk W (N + 1) 39 (evl s.e)
  ended : Boxed W (N + 2) 4 (.bool s.ended)
  next : Boxed W (N + 3) 3 (.int .i64 s.next)
theorem box_o {W : World} {B B' j : Nat} {t : TypeId} {v : Value} (h : Boxed W B t v) (hne : B' ≠ B) {u : Value} : Boxed (W.setCell ⟨B', j, none⟩ u) B t v := Blk.other (cs := [v]) h (p := ⟨B', j, none⟩) hne u
theorem box_four {W : World} {B A : Nat} {t : TypeId} {v a b c d : Value} (h : Boxed W B t v) (h1 : A ≠ B) : Boxed ((((W.setCell ⟨A, 0, none⟩ a).setCell ⟨A, 1, none⟩ b).setCell ⟨A, 2, none⟩ c).setCell ⟨A, 3, none⟩ d) B t v := box_o (box_o (box_o (box_o h h1) h1) h1) h1
theorem ps_grown {N base : Nat} {W WW w2 : World} {vp : Value} {L : List (List Value)} {e4 : List Value} {b5 : Bool} {z6 : Int} (h1 : Boxed W N 60 vp) (h2 : JPt W base vp L) (h3 : Blk W (N + 1) 39 e4) (h4 : Boxed W (N + 2) 4 (.bool b5)) (h5 : Boxed W (N + 3) 3 (.int .i64 z6))
    (hb : Below W.heap.size W WW) (hg : WW.grownBy w2 vp.ownBlock) :
    Boxed w2 N 60 vp ∧ Blk w2 (N + 1) 39 e4 ∧ Boxed w2 (N + 2) 4 (.bool b5) ∧ Boxed w2 (N + 3) 3 (.int .i64 z6) ∧ (∀ n w0, n ≤ base → n ≤ W.heap.size → Below n w0 W → Below n w0 w2) ∧ (∀ (p : Addr) (u : Value), W.heap.size ≤ p.block → WW.cell? p = some u → w2.cell? p = some u) := by
  have hj := h2.keepAll hb
  have l1 := h1.lt
  have l5 := h5.lt
  have g1 : Boxed WW N 60 vp := boxed_below h1 l1 hb
  have g3 : Blk WW (N + 1) 39 e4 := h3.keep hb
  have g4 : Boxed WW (N + 2) 4 (.bool b5) := boxed_below h4 (by omega) hb
  have g5 : Boxed WW (N + 3) 3 (.int .i64 z6) := boxed_below h5 l5 hb
  refine ⟨g1.kept hg (hj.not_box g1 (by decide)), g3.grown hg (hj.not_blk g3 (by decide)), g4.kept hg (hj.not_box g4 (by decide)), g5.kept hg (hj.not_box g5 (by decide)), fun n w0 hn hn2 h => ?_, fun p u hp hu => hg.cell hu (fun e => ?_)⟩
  · exact (h.trans (hb.mono hn2)).grown hg (Nat.le_trans hn2 hb.size) (fun k hk => Nat.le_trans hn (hj.blk_ge k hk))
  · have := h2.blk_lt p.block e.symm
    omega
set_option maxRecDepth 100000 in
set_option maxHeartbeats 2000000 in
theorem parts1_ended (f : Fr) (at_ len : Int) (N base : Nat) (W : World) (s : St) (h : PS N base W s) (he : s.ended = true) :
    Calls Try.prog 55 #[.agg (lfv f at_ len), .pointer (some ⟨N + 2, 0, none⟩), .pointer (some ⟨N + 1, 0, none⟩), .pointer (some ⟨N + 3, 0, none⟩), .pointer (some ⟨N, 0, none⟩)] W fun e W' => e = .returned (.bool false) ∧ Below W.heap.size W W' := by
  obtain ⟨k, ⟨rl, rk, rkey, rval⟩, ⟨pl, pk, pa, pn, pkey⟩, ⟨ec, eb, ef, es⟩⟩ := f
  have hen := h.ended
  rw [he] at hen
  have q1 := hen.cell
  have q2 := hen.lt
  have n1 : ¬ N + 2 = W.heap.size := by omega
  have n2 : ¬ W.heap.size = N + 2 := by omega
  clear h he hen
  simp only [lfv]
  go_enter Try.func55, Try.ntmps55
  go_wp2_with fail
  go_ret
  exact ⟨rfl, below_two _ _ _⟩
set_option maxRecDepth 100000 in
set_option maxHeartbeats 2000000 in
theorem parts1_foot (f : Fr) (at_ len : Int) (N base : Nat) (W : World) (s : St) (h : PS N base W s) (he : s.ended = false) (hk : f.kind = 4) :
    Calls Try.prog 55 #[.agg (lfv f at_ len), .pointer (some ⟨N + 2, 0, none⟩), .pointer (some ⟨N + 1, 0, none⟩), .pointer (some ⟨N + 3, 0, none⟩), .pointer (some ⟨N, 0, none⟩)] W fun e W' => e = .returned (.bool true) ∧ PS N base W' ⟨s.ps, f.e, true, s.next⟩ ∧ (∀ n w0, n ≤ N → n ≤ base → Below n w0 W → Below n w0 W') := by
  obtain ⟨k, ⟨rl, rk, rkey, rval⟩, ⟨pl, pk, pa, pn, pkey⟩, ⟨ec, eb, ef, es⟩⟩ := f
  obtain ⟨s1, ⟨s2, s3, s4, s5⟩, s6, s7⟩ := s
  simp only at hk he
  subst hk he
  obtain ⟨⟨vp, h1, h2⟩, h3, h4, h5⟩ := h
  simp only [evl] at h3
  have q1 := h4.cell
  have q1f := h4.frozen
  have q2 := h4.lt
  have q3 := h5.lt
  have n0a : ¬ N = W.heap.size := by omega
  have n0b : ¬ W.heap.size = N := by omega
  have n0c : ¬ N = W.heap.size + 1 := by omega
  have n0d : ¬ W.heap.size + 1 = N := by omega
  have n0e : N < W.heap.size := by omega
  have n1a : ¬ N + 1 = W.heap.size := by omega
  have n1b : ¬ W.heap.size = N + 1 := by omega
  have n1c : ¬ N + 1 = W.heap.size + 1 := by omega
  have n1d : ¬ W.heap.size + 1 = N + 1 := by omega
  have n1e : N + 1 < W.heap.size := by omega
  have n2a : ¬ N + 2 = W.heap.size := by omega
  have n2b : ¬ W.heap.size = N + 2 := by omega
  have n2c : ¬ N + 2 = W.heap.size + 1 := by omega
  have n2d : ¬ W.heap.size + 1 = N + 2 := by omega
  have n2e : N + 2 < W.heap.size := by omega
  have n3a : ¬ N + 3 = W.heap.size := by omega
  have n3b : ¬ W.heap.size = N + 3 := by omega
  have n3c : ¬ N + 3 = W.heap.size + 1 := by omega
  have n3d : ¬ W.heap.size + 1 = N + 3 := by omega
  have n3e : N + 3 < W.heap.size := by omega
  have c0 := h3.cell 0 _ rfl
  have c1 := h3.cell 1 _ rfl
  have c2 := h3.cell 2 _ rfl
  have c3 := h3.cell 3 _ rfl
  have f0 := h3.frozen 0
  have f1 := h3.frozen 1
  have f2 := h3.frozen 2
  have f3 := h3.frozen 3
  have H1 := hd h1
  have H2 := hd h2
  have H3 := hd h3
  have H4 := hd h4
  have H5 := hd h5
  clear h1 h2 h3 h4 h5
  simp only [lfv]
  go_enter Try.func55, Try.ntmps55
  go_wp2_with fail
  go_ret
  refine ⟨rfl, ⟨⟨vp, ?_, ?_⟩, ?_, ?_, ?_⟩, fun n w0 hn _ h => ?_⟩
  · exact ((box_o (box_four H1.out (by omega)) (by omega)).alloc _).alloc _
  · have nn := H2.out.not_blk H3.out (by decide)
    have nb := H2.out.not_box H4.out (by decide)
    exact (((((((H2.out.setO (p := ⟨N + 1, 0, none⟩) (fun g hg e => nn (by rw [hg, e])) _).setO (p := ⟨N + 1, 1, none⟩) (fun g hg e => nn (by rw [hg, e])) _).setO (p := ⟨N + 1, 2, none⟩) (fun g hg e => nn (by rw [hg, e])) _).setO (p := ⟨N + 1, 3, none⟩) (fun g hg e => nn (by rw [hg, e])) _).setO (p := ⟨N + 2, 0, none⟩) (fun g hg e => nb (by rw [hg, e])) _).alloc _).alloc _)
  · exact ((((((H3.out.set (j := 0) _).set (j := 1) _).set (j := 2) _).set (j := 3) _).other (p := ⟨N + 2, 0, none⟩) (by show N + 2 ≠ N + 1; omega) _).alloc _).alloc _
  · exact (((box_four H4.out (by omega)).set _).alloc _).alloc _
  · exact ((box_o (box_four H5.out (by omega)) (by omega)).alloc _).alloc _
  · refine Below.alloc (Below.alloc ?_ ?_ _) ?_ _
    · exact ((((h.setCell (p := ⟨N + 1, 0, none⟩) (by show n ≤ N + 1; omega) _).setCell (p := ⟨N + 1, 1, none⟩) (by show n ≤ N + 1; omega) _).setCell (p := ⟨N + 1, 2, none⟩) (by show n ≤ N + 1; omega) _).setCell (p := ⟨N + 1, 3, none⟩) (by show n ≤ N + 1; omega) _).setCell (p := ⟨N + 2, 0, none⟩) (by show n ≤ N + 2; omega) _
    · simp only [World.setCell, Array.size_modify]; omega
    · simp only [World.size_alloc, World.setCell, Array.size_modify]; omega
set_option maxRecDepth 100000 in
set_option maxHeartbeats 2000000 in
theorem parts1_hint (f : Fr) (at_ len : Int) (N base : Nat) (W : World) (s : St) (h : PS N base W s) (he : s.ended = false) (hk : f.kind = 3) (hn : f.p.at_ = s.next) (hb : 0 ≤ s.next + f.p.len ∧ s.next + f.p.len ≤ 1000000000000) (hl : s.ps.length ≤ 1000000000) (hbase : base ≤ W.heap.size) :
    Calls Try.prog 55 #[.agg (lfv f at_ len), .pointer (some ⟨N + 2, 0, none⟩), .pointer (some ⟨N + 1, 0, none⟩), .pointer (some ⟨N + 3, 0, none⟩), .pointer (some ⟨N, 0, none⟩)] W fun e W' => e = .returned (.bool true) ∧ PS N base W' ⟨s.ps ++ [f.p], s.e, s.ended, s.next + f.p.len⟩ ∧ (∀ n w0, n ≤ N → n ≤ base → Below n w0 W → Below n w0 W') := by
  obtain ⟨k, ⟨rl, rk, rkey, rval⟩, ⟨pl, pk, pa, pn, pkey⟩, ⟨ec, eb, ef, es⟩⟩ := f
  obtain ⟨s1, ⟨s2, s3, s4, s5⟩, s6, s7⟩ := s
  simp only at hk he hn hb hl
  subst hk he hn
  obtain ⟨⟨vp, h1, h2⟩, h3, h4, h5⟩ := h
  have q1 := h4.cell
  have q2 := h4.lt
  have q3 := h5.lt
  have q4 := h5.cell
  have q4f := h5.frozen
  have q5 := h1.cell
  have q5f := h1.frozen
  have n0a : ¬ N = W.heap.size := by omega
  have n0b : ¬ W.heap.size = N := by omega
  have n0c : ¬ N = W.heap.size + 1 := by omega
  have n0d : ¬ W.heap.size + 1 = N := by omega
  have n0e : N < W.heap.size := by omega
  have n1a : ¬ N + 1 = W.heap.size := by omega
  have n1b : ¬ W.heap.size = N + 1 := by omega
  have n1c : ¬ N + 1 = W.heap.size + 1 := by omega
  have n1d : ¬ W.heap.size + 1 = N + 1 := by omega
  have n1e : N + 1 < W.heap.size := by omega
  have n2a : ¬ N + 2 = W.heap.size := by omega
  have n2b : ¬ W.heap.size = N + 2 := by omega
  have n2c : ¬ N + 2 = W.heap.size + 1 := by omega
  have n2d : ¬ W.heap.size + 1 = N + 2 := by omega
  have n2e : N + 2 < W.heap.size := by omega
  have n3a : ¬ N + 3 = W.heap.size := by omega
  have n3b : ¬ W.heap.size = N + 3 := by omega
  have n3c : ¬ N + 3 = W.heap.size + 1 := by omega
  have n3d : ¬ W.heap.size + 1 = N + 3 := by omega
  have n3e : N + 3 < W.heap.size := by omega
  have H1 := hd h1
  have H2 := hd h2
  have H3 := hd h3
  have H4 := hd h4
  have H5 := hd h5
  clear h1 h2 h3 h4 h5
  simp only [lfv]
  go_enter Try.func55, Try.ntmps55
  have hpl := H2.out.shape
  have HWW : Hid (∀ A B C : Obj, Below W.heap.size W (((W.alloc A).alloc B).alloc C)) := fun A B C => (below_two W A B).alloc (by simp; omega) _
  go_wp2_with (at_builtin; refine wpList_append_jr Try.underlying60 info_ptr rfl (by decide) _ rfl _ _ rfl base vp (s1.map pvl) (W.heap.size + 1 + 1) 1 (pvl ⟨pl, pk, pa, pn, pkey⟩) rfl rfl (((H2.out.alloc _).alloc _).alloc _) rfl (pvl_one ⟨pl, pk, pa, pn, pkey⟩) (fun j u hu => cell_lit _ _ (pvl ⟨pl, pk, pa, pn, pkey⟩) j u _ (by simp) hu) (s1.length + 1) (by rw [List.length_map]) (by omega) (by unfold maxLen; omega) (by simp; omega) ?_; intro g2 c2 w2 hj2 hg2 hw2; have hz := ps_grown H1.out H2.out H3.out H4.out H5.out (HWW.out _ _ _) hg2; have z1 := hz.1.cell; have z2 := hz.1.frozen; have z3 := hz.2.2.2.1.cell; have z4 := hz.2.2.2.1.frozen; have z5 := hz.2.2.2.2.2 ⟨W.heap.size + 1, 3, none⟩ (.int .i64 pn) (by simp) (by simp [go_sem]); have HZ := hd hz; have HJ2 := hd hj2; have HG2 := hd hw2; clear hj2 hg2 hw2 hz)
  go_ret
  obtain ⟨z1, z2, z3, z4, z5, _⟩ := HZ.out
  have hj := HJ2.out
  have n1 := hj.not_box z1 (by decide)
  have n4 := hj.not_box z4 (by decide)
  refine ⟨rfl, ⟨⟨.slice (some ⟨g2, 0, none⟩) (s1.length + 1) c2, box_o (z1.set _) (by omega), ?_⟩, (z2.other (p := ⟨N, 0, none⟩) (by show N ≠ N + 1; omega) _).other (p := ⟨N + 3, 0, none⟩) (by show N + 3 ≠ N + 1; omega) _, box_o (box_o z3 (by omega)) (by omega), (box_o z4 (by omega)).set _⟩, fun n w0 hn hn2 h => ?_⟩
  · have e1 : (s1 ++ [(⟨pl, pk, pa, pn, pkey⟩ : Ptr)]).map pvl = s1.map pvl ++ [pvl ⟨pl, pk, pa, pn, pkey⟩] := by simp
    rw [e1]
    exact (hj.setO (p := ⟨N, 0, none⟩) (fun g hg e => n1 (by rw [hg, e])) _).setO (p := ⟨N + 3, 0, none⟩) (fun g hg e => n4 (by rw [hg, e])) _
  · exact ((z5 n w0 hn2 (by omega) h).setCell (p := ⟨N, 0, none⟩) hn _).setCell (p := ⟨N + 3, 0, none⟩) (by show n ≤ N + 3; omega) _
set_option maxRecDepth 100000 in
set_option maxHeartbeats 2000000 in
theorem parts1_no (f : Fr) (at_ len : Int) (N base : Nat) (W : World) (s : St) (h : PS N base W s) (he : s.ended = false) (hk : f.kind ≠ 4) (hn : ¬ (f.kind = 3 ∧ f.p.at_ = s.next)) :
    Calls Try.prog 55 #[.agg (lfv f at_ len), .pointer (some ⟨N + 2, 0, none⟩), .pointer (some ⟨N + 1, 0, none⟩), .pointer (some ⟨N + 3, 0, none⟩), .pointer (some ⟨N, 0, none⟩)] W fun e W' => e = .returned (.bool false) ∧ Below W.heap.size W W' := by
  obtain ⟨k, ⟨rl, rk, rkey, rval⟩, ⟨pl, pk, pa, pn, pkey⟩, ⟨ec, eb, ef, es⟩⟩ := f
  obtain ⟨s1, ⟨s2, s3, s4, s5⟩, s6, s7⟩ := s
  simp only at hk he hn
  subst he
  obtain ⟨_, _, h4, h5⟩ := h
  have q1 := h4.cell
  have q2 := h4.lt
  have q3 := h5.lt
  have q4 := h5.cell
  simp only at q1 q4
  have n1 : ¬ N + 2 = W.heap.size := by omega
  have n2 : ¬ W.heap.size = N + 2 := by omega
  have n3 : ¬ N + 3 = W.heap.size := by omega
  have n4 : ¬ W.heap.size = N + 3 := by omega
  have n5 : N + 2 < W.heap.size := by omega
  have e4 : (k == 4) = false := by simp [hk]
  by_cases h3 : k = 3
  · subst h3
    have hna : ¬ pa = s7 := fun e => hn ⟨rfl, e⟩
    have e5 : (pa == s7) = false := by simp [hna]
    clear hk hn h4 h5 hna e4
    simp only [lfv]
    go_enter Try.func55, Try.ntmps55
    go_wp2_with fail
    go_ret
    exact ⟨rfl, below_two _ _ _⟩
  · have e3 : (k == 3) = false := by simp [h3]
    clear hk hn h4 h5 h3
    simp only [lfv]
    go_enter Try.func55, Try.ntmps55
    go_wp2_with fail
    go_ret
    exact ⟨rfl, below_two _ _ _⟩
theorem PS.below {N base : Nat} {W W' : World} {s : St} (h : PS N base W s) (hb : Below W.heap.size W W') : PS N base W' s := by
  obtain ⟨⟨vp, h1, h2⟩, h3, h4, h5⟩ := h
  exact ⟨⟨vp, boxed_below h1 h1.lt hb, h2.keepAll hb⟩, h3.keep hb, boxed_below h4 h4.lt hb, boxed_below h5 h5.lt hb⟩
/-- between two frames -/
def PtJ (N : Nat) (w : World) (l : List Nat) (pre : List Lc) (W : World) : Prop :=
  ∃ s, sts (some st0) pre = some s ∧ PS N (N + 4) W s ∧ Below w.heap.size w W ∧ N + 4 ≤ W.heap.size ∧ pre <+: locs 0 l ∧ (s.ps.length : Int) ≤ s.next
theorem PtJ.below {N : Nat} {w : World} {l : List Nat} {pre : List Lc} {W W' : World} (h : PtJ N w l pre W) (hb : Below W.heap.size W W') (hN : w.heap.size ≤ N) : PtJ N w l pre W' := by
  obtain ⟨s, h1, h2, h3, h4, h5⟩ := h
  exact ⟨s, h1, h2.below hb, h3.trans (hb.mono (by omega)), Nat.le_trans h4 hb.size, h5⟩
theorem parts1_take (N : Nat) (w : World) (hN : w.heap.size ≤ N) (l : List Nat) (hb : Byt l) (pre : List Lc) (x : Lc) (W : World) (h : PtJ N w l pre W) (hp : pre ++ [x] <+: locs 0 l) :
    Calls Try.prog 55 (#[.agg (lfv x.2.2 (x.1 : Int) (x.2.1 : Int))] ++ #[.pointer (some ⟨N + 2, 0, none⟩), .pointer (some ⟨N + 1, 0, none⟩), .pointer (some ⟨N + 3, 0, none⟩), .pointer (some ⟨N, 0, none⟩)]) W fun e W' => (e = .returned (.bool true) ∧ PtJ N w l (pre ++ [x]) W') ∨ (e = .returned (.bool false) ∧ sts (some st0) (pre ++ [x]) = none ∧ (∃ s, PS N (N + 4) W' s) ∧ Below w.heap.size w W' ∧ N + 4 ≤ W'.heap.size) := by
  obtain ⟨s, h1, h2, h3, h4, h5, h6⟩ := h
  have hx : x ∈ locs 0 l := hp.subset (by simp)
  obtain ⟨_, _, _, _, hrf, hwf⟩ := locs_mem hb 0 x hx
  have hst : sts (some st0) (pre ++ [x]) = stp s x.2.2 := by rw [sts_snoc, h1]; rfl
  rw [hst]
  cases he : s.ended with
  | true =>
    refine (parts1_ended x.2.2 _ _ N (N + 4) W s h2 he).mono ?_
    rintro e W' ⟨rfl, hb'⟩
    exact .inr ⟨rfl, by unfold stp; rw [if_pos he], ⟨s, h2.below hb'⟩, h3.trans (hb'.mono (by omega)), Nat.le_trans h4 hb'.size⟩
  | false =>
    by_cases hk : x.2.2.kind = 4
    · refine (parts1_foot x.2.2 _ _ N (N + 4) W s h2 he hk).mono ?_
      rintro e W' ⟨rfl, g1, g2⟩
      refine .inl ⟨rfl, _, by rw [hst]; unfold stp; rw [if_neg (by simp [he]), if_pos hk], g1, g2 _ w hN (by omega) h3, ?_, hp, h6⟩
      have := g1.next.lt
      omega
    · by_cases hq : x.2.2.kind = 3 ∧ x.2.2.p.at_ = s.next
      · have hrp : rfP x.2.2 = 0 := by
          have := hrf
          unfold rf at this
          rw [if_neg (by omega), if_pos hq.1] at this
          exact this
        obtain ⟨_, _, _, ⟨p1, p2⟩, ⟨p3, p4⟩, p5, _⟩ := rfP_ok hrp
        refine (parts1_hint x.2.2 _ _ N (N + 4) W s h2 he hq.1 hq.2 (by rw [← hq.2]; omega) (by omega) h4).mono ?_
        rintro e W' ⟨rfl, g1, g2⟩
        refine .inl ⟨rfl, _, by rw [hst]; unfold stp; rw [if_neg (by simp [he]), if_neg hk, if_pos hq], g1, g2 _ w hN (by omega) h3, ?_, hp, by simp only [List.length_append, List.length_singleton]; omega⟩
        have := g1.next.lt
        omega
      · refine (parts1_no x.2.2 _ _ N (N + 4) W s h2 he hk hq).mono ?_
        rintro e W' ⟨rfl, hb'⟩
        exact .inr ⟨rfl, by unfold stp; rw [if_neg (by simp [he]), if_neg hk, if_neg hq], ⟨s, h2.below hb'⟩, h3.trans (hb'.mono (by omega)), Nat.le_trans h4 hb'.size⟩
end Vt
end Go.Proofs.Ytifjjoobbegpoaa
