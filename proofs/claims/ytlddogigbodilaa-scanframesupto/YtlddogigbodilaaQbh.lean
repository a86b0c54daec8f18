/-
  THE WALK OF the law's 'same' (are two lists of bytes the same?).
  A REGION THAT DRAWS ITS ORDER, whose operations that turn the world stand one behind the other (a chain): each operation is looked at once, in the worlds in which it may come up. No condition beyond those that each theorem bears.
  THE LAW OF A CHAIN OF MOVERS (Rg) where an edge that binds in no order that is drawn here stands behind its operation.
  A REGION THAT DRAWS ITS ORDER, by an invariant, with operations that their guards pass over. No condition beyond those that the theorem bears.
  A REGION THAT DRAWS ITS ORDER, WITHIN A FENCE, by an invariant, with operations that their guards pass over. No condition beyond those that the theorem bears.
  ScanClean's walk: what is clean stays.
  THE WALKS OF the law's own 'first' and 'known': the document's first example is written and read.
-/
import Derived.Test.YtlddogigbodilaaQai
import Derived.Test.YtlddogigbodilaaQay
import Derived.Test.YtlddogigbodilaaQbd
import Derived.Test.YtlddogigbodilaaQbe
import Derived.Test.YtlddogigbodilaaQbg
import Derived.Test.YtlddogigbodilaaQaw
namespace Go.Proofs.Ytlddogigbodilaa
open Go.RowKit
namespace Vt
set_option maxRecDepth 100000 in
set_option maxHeartbeats 400000 in
theorem ssame_row (ba oa ca bb ob cb : Nat) (la lb : List Nat) (w : World) (hl : la.length = lb.length) (hA : Row w ba oa la) (hB : Row w bb ob lb) (hm : la.length ≤ maxLen) :
    Calls Try.prog 24 #[.slice (some ⟨ba, oa, none⟩) la.length ca, .slice (some ⟨bb, ob, none⟩) la.length cb] w fun e w' => e = .returned (.bool (decide (la = lb))) ∧ ∃ n, w' = w.drewN n := by
  unfold maxLen at hm
  have HA := hd hA
  have HB := hd hB
  have HL := hd hl
  clear hA hB hl
  go_enter Try.func24, Try.ntmps24
  go_wp2
  go_loopw [4, 5] (fun o i wr => ∃ k n : Nat, k ≤ la.length ∧ o = .bool false ∧ i = .int .i64 (k : Int) ∧ wr = w.drewN n ∧ ∀ j, j < k → la.getD j 0 = lb.getD j 0) (fun _ i _ => la.length - (intOf i).toNat)
  case atStart => exact ⟨0, 0, by omega, rfl, rfl, rfl, by intro j hj; omega⟩
  case round =>
    obtain ⟨k, n, hk, rfl, rfl, rfl, he⟩ := hrel
    have HE := hd he
    clear he
    by_cases hlt : k < la.length
    · have ha := HA.out k hlt
      have hb := HB.out k (by rw [← HL.out]; exact hlt)
      by_cases hq : la.getD k 0 = lb.getD k 0
      · have HE2 : Hid (∀ j, j < k + 1 → la.getD j 0 = lb.getD j 0) := by
          intro j hj
          rcases Nat.lt_or_ge j k with h | h
          · exact HE.out j h
          · rw [show j = k by omega]; exact hq
        rw [← hq] at hb
        generalize la.getD k 0 = p at ha hb
        clear hq
        go_wp2
        go_quiet (fail)
        go_wp2
        go_roundw
        case rel => exact ⟨k + 1, _, by omega, rfl, by go_num, rfl, HE2.out⟩
        case measure => simp [intOf]; omega
      · have HNE : Hid (decide (la = lb) = false) := by
          show decide (la = lb) = false
          rw [decide_eq_false_iff_not]; intro e; rw [e] at hq; exact hq rfl
        generalize la.getD k 0 = p at ha hq
        generalize lb.getD k 0 = q at hb hq
        have hpq : ((p : Int) != (q : Int)) = true := by simp; omega
        go_wp2
        go_quiet (fail)
        go_wp2
        go_ret
        exact ⟨by rw [HNE.out]; rfl, drewN2 _ _ _⟩
    · obtain rfl : k = la.length := by omega
      have hy : decide (la = lb) = true := by rw [decide_eq_true_iff]; exact ext_getD HL.out HE.out
      have HY := hd hy
      clear hy
      go_wp2
      go_ret
      exact ⟨by rw [HY.out]; rfl, n, rfl⟩
set_option maxRecDepth 100000 in
set_option maxHeartbeats 400000 in
theorem ssame_nil (a : Option Addr) (c : Nat) (b : Option Addr) (c2 : Nat) (w : World) :
    Calls Try.prog 24 #[.slice a 0 c, .slice b 0 c2] w fun e w' => e = .returned (.bool true) ∧ w' = w := by
  go_enter Try.func24, Try.ntmps24
  go_wp2
  go_loopw [4, 5] (fun o i wr => o = .bool false ∧ i = .int .i64 0 ∧ wr = w) (fun _ _ _ => 0)
  case atStart => exact ⟨rfl, rfl, rfl⟩
  case round =>
    obtain ⟨rfl, rfl, rfl⟩ := hrel
    go_wp2
    go_ret
    exact ⟨rfl, rfl⟩
set_option maxRecDepth 100000 in
set_option maxHeartbeats 400000 in
theorem ssame_unlike (a : Option Addr) (c : Nat) (b : Option Addr) (c2 n m : Nat) (w : World) (h : n ≠ m) :
    Calls Try.prog 24 #[.slice a n c, .slice b m c2] w fun e w' => e = .returned (.bool false) ∧ w' = w := by
  have hne : ((n : Int) != (m : Int)) = true := by simp; omega
  go_enter Try.func24, Try.ntmps24
  go_wp2
  go_ret
  exact ⟨rfl, rfl⟩
theorem ssame_is (va vb : Value) (la lb : List Nat) (w : World) (hA : IsB w va la) (hB : IsB w vb lb) :
    Calls Try.prog 24 #[va, vb] w fun e w' => e = .returned (.bool (decide (la = lb))) ∧ ∃ n, w' = w.drewN n := by
  by_cases hl : la.length = lb.length
  · by_cases h0 : la.length = 0
    · obtain rfl : la = [] := List.length_eq_zero_iff.1 h0
      obtain rfl : lb = [] := List.length_eq_zero_iff.1 (by omega)
      obtain ⟨a, ca, rfl⟩ := hA.shape
      obtain ⟨b, cb, rfl⟩ := hB.shape
      refine (ssame_nil a ca b cb w).mono ?_
      rintro e w' ⟨rfl, rfl⟩
      exact ⟨rfl, 0, rfl⟩
    · obtain ⟨_, hm, ⟨rfl, _⟩ | ⟨ba, oa, ca, rfl, _, _, _, hr⟩⟩ := hA
      · simp at h0
      · obtain ⟨_, _, ⟨rfl, _⟩ | ⟨bb, ob, cb, rfl, _, _, _, hs⟩⟩ := hB
        · simp at hl; simp [hl] at h0
        · rw [← hl]; exact ssame_row ba oa ca bb ob cb la lb w hl hr hs hm
  · obtain ⟨a, ca, rfl⟩ := hA.shape
    obtain ⟨b, cb, rfl⟩ := hB.shape
    refine (ssame_unlike a ca b cb _ _ w hl).mono ?_
    rintro e w' ⟨rfl, rfl⟩
    exact ⟨by rw [decide_eq_false]; intro e; exact hl (by rw [e]), 0, rfl⟩
end Vt
end Go.Proofs.Ytlddogigbodilaa
namespace Go.Proofs.Ytlddogigbodilaa
open Go Go.RowKit
/-- operation j must come ahead of operation i -/
def anc (ops : Array Oper) : Nat → Nat → Nat → Bool
  | 0, _, _ => false
  | f + 1, i, j => match ops[i]? with
    | none => false
    | some o => o.after.any fun e => Region.binds .any e && (e.on == j || anc ops f e.on j)
def ClosedL (ops : Array Oper) (L : Array Bool) : Prop := ∀ j p, ops[j]? = some p → L.getD j false = true → ∀ e ∈ p.after, Region.binds .any e = true → L.getD e.on false = true
theorem anc_listed {ops : Array Oper} {L : Array Bool} (hc : ClosedL ops L) : ∀ f i j, L.getD i false = true → anc ops f i j = true → L.getD j false = true := by
  intro f
  induction f with
  | zero => intro i j _ h; cases h
  | succ f ih =>
    intro i j hi h
    unfold anc at h
    split at h
    · cases h
    · rename_i o ho
      rw [Array.any_eq_true'] at h
      obtain ⟨e, he, h⟩ := h
      simp only [Bool.and_eq_true, Bool.or_eq_true, beq_iff_eq] at h
      have hl := hc i o ho hi e he h.1
      rcases h.2 with rfl | h2
      · exact hl
      · exact ih _ _ hl h2
theorem anc_ready {ops : Array Oper} {L : Array Bool} (hc : ClosedL ops L) {i : Nat} {o : Oper} (ho : ops[i]? = some o) (hon : ∀ e ∈ o.after, Region.binds .any e = true → L.getD e.on false = true) (f j : Nat) (h : anc ops f i j = true) : L.getD j false = true := by
  cases f with
  | zero => cases h
  | succ f =>
    unfold anc at h
    rw [ho] at h
    simp only [Array.any_eq_true'] at h
    obtain ⟨e, he, h⟩ := h
    simp only [Bool.and_eq_true, Bool.or_eq_true, beq_iff_eq] at h
    have hl := hon e he h.1
    rcases h.2 with rfl | h2
    · exact hl
    · exact anc_listed hc f _ _ hl h2
theorem set_getD' (L : Array Bool) (i j : Nat) (hi : i < L.size) : (L.setIfInBounds i true).getD j false = if j = i then true else L.getD j false := by
  rw [Array.getD_eq_getD_getElem?, Array.getD_eq_getD_getElem?, Array.getElem?_setIfInBounds]
  by_cases h : j = i
  · subst h; simp [hi]
  · rw [if_neg (by omega), if_neg h]
def dstsGood (ops : Array Oper) (n : Nat) : Bool :=
  (List.range ops.size).all fun i => match dstOf ops i with
    | none => true
    | some d => decide (d < n) && (List.range ops.size).all fun j => decide (i = j) || !(dstOf ops j == some d)
theorem good_spec {ops : Array Oper} {n : Nat} (h : dstsGood ops n = true) {i d : Nat} (hi : i < ops.size) (hd : dstOf ops i = some d) : d < n ∧ ∀ j, j < ops.size → j ≠ i → dstOf ops j ≠ some d := by
  unfold dstsGood at h
  have := List.all_eq_true.1 h i (by simpa using hi)
  rw [hd] at this
  simp only [Bool.and_eq_true, decide_eq_true_eq, List.all_eq_true, List.mem_range, Bool.or_eq_true, Bool.not_eq_eq_eq_not, Bool.not_true, beq_eq_false_iff_ne] at this
  refine ⟨this.1, fun j hj hne => ?_⟩
  rcases this.2 j hj with h' | h'
  · exact absurd h'.symm hne
  · exact h'
/-- the movers: no one twice, each behind all that stand ahead of it in the list -/
def chainOk (ops : Array Oper) (ms : List Nat) : Bool :=
  (List.range ms.length).all fun k => (List.range ms.length).all fun k' => decide (k = k') || (decide (ms.getD k 0 ≠ ms.getD k' 0) && (decide (k < k') || anc ops ops.size (ms.getD k 0) (ms.getD k' 0)))
theorem chain_spec {ops : Array Oper} {ms : List Nat} (h : chainOk ops ms = true) {k k' : Nat} (hk : k < ms.length) (hk' : k' < ms.length) (hne : k ≠ k') : ms.getD k 0 ≠ ms.getD k' 0 ∧ (k' < k → anc ops ops.size (ms.getD k 0) (ms.getD k' 0) = true) := by
  unfold chainOk at h
  have := List.all_eq_true.1 (List.all_eq_true.1 h k (by simpa using hk)) k' (by simpa using hk')
  simp only [Bool.or_eq_true, decide_eq_true_eq, Bool.and_eq_true] at this
  rcases this with h1 | ⟨h1, h2⟩
  · exact absurd h1 hne
  · refine ⟨h1, fun hlt => ?_⟩
    rcases h2 with h2 | h2
    · omega
    · exact h2
/-- s of the movers are listed, the first ones -/
def Stage (ms : List Nat) (L : Array Bool) (s : Nat) : Prop := s ≤ ms.length ∧ ∀ k, k < ms.length → L.getD (ms.getD k 0) false = decide (k < s)
theorem region_chain {P : Program} {id : Nat} {ops : Array Oper} {Q : Exit → Act → World → Prop} {a0 : Act} {w0 : World} (val : Nat → Value) (ms : List Nat) (S : Nat → World)
    (hm : P.follows .mixedOrders = true) (hg : (ops.all fun o => o.guard.isNone) = true) (hdf : dstsGood ops a0.tmps.size = true) (hah : aftersAhead ops = true) (hch : chainOk ops ms = true) (hW0 : S 0 = w0.drew)
    (step : ∀ i o, ops[i]? = some o → ∀ (s : Nat) (a : Act), s ≤ ms.length →
      (∀ k, k < ms.length → anc ops ops.size i (ms.getD k 0) = true → k < s) → (∀ k, k < ms.length → (ms.getD k 0 = i ∨ anc ops ops.size (ms.getD k 0) i = true) → s ≤ k) →
      (∀ k, (∀ j, j < ops.size → dstOf ops j ≠ some k) → a.tmps.getD k undef = a0.tmps.getD k undef) →
      (∀ e ∈ o.after, Region.binds .any e = true → ∀ d, dstOf ops e.on = some d → a.tmps.getD d undef = val e.on) →
      (∀ j d, j < ops.size → (j = i ∨ anc ops ops.size j i = true) → dstOf ops j = some d → a.tmps.getD d undef = a0.tmps.getD d undef) →
      o.wp P a (S s) (fun a' w' => a' = a.put o.dst (val i) ∧ w' = S (if ms.contains i then s + 1 else s)) Q)
    (done : ∀ a, a.defers = a0.defers → a.tmps.size = a0.tmps.size →
      (∀ k, (∀ j, j < ops.size → dstOf ops j ≠ some k) → a.tmps.getD k undef = a0.tmps.getD k undef) →
      (∀ i d, i < ops.size → dstOf ops i = some d → a.tmps.getD d undef = val i) → Q .normal a (S ms.length)) (hlt : ∀ m ∈ ms, m < ops.size) :
    (Code.region id ops true).wp P Q a0 w0 := by
  refine wp_region_any hm ?_
  refine wpAny_inv (fun L a w => L.size = ops.size ∧ ClosedL ops L ∧ (∃ s, Stage ms L s ∧ w = S s) ∧ a.defers = a0.defers ∧ a.tmps.size = a0.tmps.size ∧
      (∀ k, (∀ j, j < ops.size → dstOf ops j ≠ some k) → a.tmps.getD k undef = a0.tmps.getD k undef) ∧
      (∀ i d, i < ops.size → L.getD i false = true → dstOf ops i = some d → a.tmps.getD d undef = val i) ∧
      (∀ j d, j < ops.size → L.getD j false = false → dstOf ops j = some d → a.tmps.getD d undef = a0.tmps.getD d undef)) (fun L a w h => h.1) ?_ ?_ _ _ _ _ ?_ ?_
  · rintro L a w i ⟨h1, hcl, ⟨s, hS, rfl⟩, h3, h4, h5, h6, h7⟩ hi
    obtain ⟨o, ho, hlt', hL, haf⟩ := ready_spec hi
    have hLf : L.getD i false = false := by
      rw [Array.getD_eq_getD_getElem?, Array.getElem?_eq_getElem (by omega)] at hL ⊢
      simpa using hL
    have hon : ∀ e ∈ o.after, Region.binds .any e = true → e.on < ops.size := fun e he hb => by
      have := haf e he hb
      rcases Nat.lt_or_ge e.on ops.size with h' | h'
      · exact h'
      · rw [Array.getD_eq_getD_getElem?, Array.getElem?_eq_none (by omega)] at this; simp at this
    have hun : ∀ j, (j = i ∨ anc ops ops.size j i = true) → L.getD j false = false := by
      intro j hj
      rcases hj with rfl | hj
      · exact hLf
      · cases h : L.getD j false with
        | false => rfl
        | true => rw [anc_listed hcl _ _ _ h hj] at hLf; cases hLf
    have hlo : ∀ k, k < ms.length → anc ops ops.size i (ms.getD k 0) = true → k < s := by
      intro k hk ha
      have := anc_ready hcl ho haf _ _ ha
      rw [hS.2 k hk] at this
      simpa using this
    have hhi : ∀ k, k < ms.length → (ms.getD k 0 = i ∨ anc ops ops.size (ms.getD k 0) i = true) → s ≤ k := by
      intro k hk ha
      have := hun _ ha
      rw [hS.2 k hk] at this
      simpa using this
    have hst := step i o ho s a hS.1 hlo hhi h5 (fun e he hb d hd => h6 e.on d (hon e he hb) (haf e he hb) hd) (fun j d hj ha hd => h7 j d hj (hun j ha) hd)
    have hgo : o.guard = none := by
      rw [Array.all_eq_true] at hg
      have := hg i hlt'
      have ho' : ops[i] = o := by rw [Array.getElem?_eq_getElem hlt'] at ho; injection ho
      rw [ho'] at this
      simpa using this
    unfold wpOp
    rw [ho]
    simp only [wanted_none hgo, if_true]
    refine .inl (Oper.wp_mono ?_ hst)
    rintro a' w' ⟨rfl, rfl⟩
    refine ⟨by rw [Array.size_setIfInBounds]; exact h1, ?_, ⟨_, ?_, rfl⟩, ?_, ?_, ?_, ?_, ?_⟩
    · intro j p hp hj e he hb
      rw [set_getD' _ _ _ (by omega)] at hj ⊢
      by_cases hji : j = i
      · subst hji
        rw [ho] at hp
        injection hp with hp
        subst hp
        rw [haf e he hb]; simp
      · rw [if_neg hji] at hj
        rw [hcl j p hp hj e he hb]; simp
    · by_cases hmi : i ∈ ms
      · obtain ⟨k, hk, hki⟩ := List.getElem_of_mem hmi
        have hkd : ms.getD k 0 = i := by rw [List.getD_eq_getElem?_getD, List.getElem?_eq_getElem hk, Option.getD_some, hki]
        have hs1 := hhi k hk (.inl hkd)
        have hs2 : k ≤ s := by
          cases k with
          | zero => omega
          | succ k =>
            have := hlo k (by omega) (by rw [← hkd]; exact (chain_spec hch hk (by omega) (by omega)).2 (by omega))
            omega
        have hsk : s = k := by omega
        subst hsk
        rw [if_pos (by simpa using hmi)]
        refine ⟨by omega, fun k' hk' => ?_⟩
        rw [set_getD' _ _ _ (by omega)]
        by_cases e : k' = s
        · subst e; rw [if_pos hkd]; simp
        · rw [if_neg (fun q => (chain_spec hch hk' hk e).1 (q.trans hkd.symm)), hS.2 k' hk']
          rw [decide_eq_decide]; omega
      · rw [if_neg (by simpa using hmi)]
        refine ⟨hS.1, fun k' hk' => ?_⟩
        rw [set_getD' _ _ _ (by omega), if_neg (fun q => hmi ?_), hS.2 k' hk']
        rw [← q, List.getD_eq_getElem?_getD, List.getElem?_eq_getElem hk', Option.getD_some]
        exact List.getElem_mem _
    · cases o.dst <;> exact h3
    · cases hod : o.dst with
      | none => exact h4
      | some d => simp only [Act.put, Array.size_setIfInBounds]; exact h4
    · intro k hk
      cases hod : o.dst with
      | none => exact h5 k hk
      | some d =>
        have hdi : dstOf ops i = some d := by simp [dstOf, ho, hod]
        rw [getD_put _ _ _ _ (by have := (good_spec hdf hlt' hdi).1; omega), if_neg (fun e => hk i hlt' (by rw [e]; exact hdi))]
        exact h5 k hk
    · intro j d hj hLj hdj
      rw [set_getD' _ _ _ (by omega)] at hLj
      cases hod : o.dst with
      | none =>
        by_cases hji : j = i
        · subst hji
          have : dstOf ops j = none := by simp [dstOf, ho, hod]
          rw [this] at hdj
          cases hdj
        · rw [if_neg hji] at hLj
          exact h6 j d hj hLj hdj
      | some d' =>
        have hdi : dstOf ops i = some d' := by simp [dstOf, ho, hod]
        have hf := good_spec hdf hlt' hdi
        rw [getD_put _ _ _ _ (by omega)]
        by_cases hji : j = i
        · subst hji
          rw [hdi] at hdj
          injection hdj with hdj
          rw [if_pos hdj.symm]
        · rw [if_neg hji] at hLj
          rw [if_neg (fun e => hf.2 j hj hji (by rw [← e]; exact hdj))]
          exact h6 j d hj hLj hdj
    · intro j d hj hLj hdj
      rw [set_getD' _ _ _ (by omega)] at hLj
      have hji : j ≠ i := by
        rintro rfl
        rw [if_pos rfl] at hLj
        cases hLj
      rw [if_neg hji] at hLj
      cases hod : o.dst with
      | none => exact h7 j d hj hLj hdj
      | some d' =>
        have hdi : dstOf ops i = some d' := by simp [dstOf, ho, hod]
        have hf := good_spec hdf hlt' hdi
        rw [getD_put _ _ _ _ (by omega), if_neg (fun e => hf.2 j hj hji (by rw [← e]; exact hdj))]
        exact h7 j d hj hLj hdj
  · rintro L a w ⟨h1, hcl, ⟨s, hS, rfl⟩, h3, h4, h5, h6, h7⟩ hr
    have hall := all_listed hah h1 hr
    have hs : s = ms.length := by
      refine Nat.le_antisymm hS.1 (Nat.le_of_not_lt fun h => ?_)
      have e := hS.2 s h
      have hmem : ms.getD s 0 ∈ ms := by rw [List.getD_eq_getElem?_getD, List.getElem?_eq_getElem h, Option.getD_some]; exact List.getElem_mem _
      rw [hall _ (hlt _ hmem)] at e
      simp at e
    subst hs
    exact done a h3 h4 h5 fun i d hi hd => h6 i d hi (hall i hi) hd
  · refine ⟨by simp, ?_, ⟨0, ⟨Nat.zero_le _, fun k hk => ?_⟩, hW0.symm⟩, rfl, rfl, fun _ _ => rfl, fun i d hi h => ?_, fun _ _ _ _ _ => rfl⟩
    · intro j p hp hj
      rw [Array.getD_eq_getD_getElem?, Array.getElem?_replicate] at hj
      split at hj <;> simp at hj
    · rw [Array.getD_eq_getD_getElem?, Array.getElem?_replicate]
      split <;> simp
    · rw [Array.getD_eq_getD_getElem?, Array.getElem?_replicate] at h
      simp [hi] at h
  · unfold left
    exact Nat.le_trans (List.countP_le_length) (by simp)
/-- two frames of one length that read alike are one -/
theorem arr_one {x y : Array Value} (hs : x.size = y.size) (h : ∀ k, k < y.size → x.getD k undef = y.getD k undef) : x = y := by
  refine Array.ext hs fun i h1 h2 => ?_
  have := h i h2
  rwa [Array.getD_eq_getD_getElem?, Array.getD_eq_getD_getElem?, Array.getElem?_eq_getElem h1, Array.getElem?_eq_getElem h2] at this
theorem step_c {P : Program} {o : Oper} {a : Act} {w w' : World} {Q : Exit → Act → World → Prop} {v : Value} {X : World} (hX : w' = X) (h : ∀ K : Act → World → Prop, K (a.put o.dst v) w' → o.wp P a w K Q) : o.wp P a w (fun a' w'' => a' = a.put o.dst v ∧ w'' = X) Q := h _ ⟨rfl, hX⟩
end Go.Proofs.Ytlddogigbodilaa
namespace Go.Proofs.Ytlddogigbodilaa
open Go Go.RowKit
/-- each operation's forerunners that bind stand ahead of it -/
def aftersBound (ops : Array Oper) : Bool := (List.range ops.size).all fun i => ((ops[i]?).map fun o => o.after.all fun e => !Region.binds .any e || decide (e.on < i)).getD true
theorem all_listedB {ops : Array Oper} {L : Array Bool} (h : aftersBound ops = true) (hs : L.size = ops.size) (hr : Region.ready .any ops L = []) : ∀ i, i < ops.size → L.getD i false = true := by
  intro i
  induction i using Nat.strongRecOn with
  | _ i ih =>
    intro hi
    refine Classical.byContradiction fun hn => ?_
    have hL : L.getD i true = false := by
      rw [Array.getD_eq_getD_getElem?, Array.getElem?_eq_getElem (by omega)] at hn ⊢
      simpa using hn
    have ho : ops[i]? = some ops[i] := Array.getElem?_eq_getElem hi
    have hmem : i ∈ Region.ready .any ops L := by
      unfold Region.ready
      refine List.mem_filter.2 ⟨by simpa using hi, ?_⟩
      rw [hL, ho]
      simp only [Option.map_some, Option.getD_some, Bool.not_false, Bool.true_and, Array.all_eq_true']
      intro e he
      by_cases hb : Region.binds .any e = true
      · have hlt : e.on < i := by
          unfold aftersBound at h
          have := List.all_eq_true.1 h i (by simpa using hi)
          rw [ho] at this
          simp only [Option.map_some, Option.getD_some, Array.all_eq_true'] at this
          have := this e he
          rw [hb] at this
          simpa using this
        rw [ih e.on hlt (by omega)]
        simp
      · have hb' : Region.binds .any e = false := by simpa using hb
        rw [hb']
        simp
    rw [hr] at hmem
    simp at hmem
theorem region_chainB {P : Program} {id : Nat} {ops : Array Oper} {Q : Exit → Act → World → Prop} {a0 : Act} {w0 : World} (val : Nat → Value) (ms : List Nat) (S : Nat → World)
    (hm : P.follows .mixedOrders = true) (hg : (ops.all fun o => o.guard.isNone) = true) (hdf : dstsGood ops a0.tmps.size = true) (hah : aftersBound ops = true) (hch : chainOk ops ms = true) (hW0 : S 0 = w0.drew)
    (step : ∀ i o, ops[i]? = some o → ∀ (s : Nat) (a : Act), s ≤ ms.length →
      (∀ k, k < ms.length → anc ops ops.size i (ms.getD k 0) = true → k < s) → (∀ k, k < ms.length → (ms.getD k 0 = i ∨ anc ops ops.size (ms.getD k 0) i = true) → s ≤ k) →
      (∀ k, (∀ j, j < ops.size → dstOf ops j ≠ some k) → a.tmps.getD k undef = a0.tmps.getD k undef) →
      (∀ e ∈ o.after, Region.binds .any e = true → ∀ d, dstOf ops e.on = some d → a.tmps.getD d undef = val e.on) →
      (∀ j d, j < ops.size → (j = i ∨ anc ops ops.size j i = true) → dstOf ops j = some d → a.tmps.getD d undef = a0.tmps.getD d undef) →
      o.wp P a (S s) (fun a' w' => a' = a.put o.dst (val i) ∧ w' = S (if ms.contains i then s + 1 else s)) Q)
    (done : ∀ a, a.defers = a0.defers → a.tmps.size = a0.tmps.size →
      (∀ k, (∀ j, j < ops.size → dstOf ops j ≠ some k) → a.tmps.getD k undef = a0.tmps.getD k undef) →
      (∀ i d, i < ops.size → dstOf ops i = some d → a.tmps.getD d undef = val i) → Q .normal a (S ms.length)) (hlt : ∀ m ∈ ms, m < ops.size) :
    (Code.region id ops true).wp P Q a0 w0 := by
  refine wp_region_any hm ?_
  refine wpAny_inv (fun L a w => L.size = ops.size ∧ ClosedL ops L ∧ (∃ s, Stage ms L s ∧ w = S s) ∧ a.defers = a0.defers ∧ a.tmps.size = a0.tmps.size ∧
      (∀ k, (∀ j, j < ops.size → dstOf ops j ≠ some k) → a.tmps.getD k undef = a0.tmps.getD k undef) ∧
      (∀ i d, i < ops.size → L.getD i false = true → dstOf ops i = some d → a.tmps.getD d undef = val i) ∧
      (∀ j d, j < ops.size → L.getD j false = false → dstOf ops j = some d → a.tmps.getD d undef = a0.tmps.getD d undef)) (fun L a w h => h.1) ?_ ?_ _ _ _ _ ?_ ?_
  · rintro L a w i ⟨h1, hcl, ⟨s, hS, rfl⟩, h3, h4, h5, h6, h7⟩ hi
    obtain ⟨o, ho, hlt', hL, haf⟩ := ready_spec hi
    have hLf : L.getD i false = false := by
      rw [Array.getD_eq_getD_getElem?, Array.getElem?_eq_getElem (by omega)] at hL ⊢
      simpa using hL
    have hon : ∀ e ∈ o.after, Region.binds .any e = true → e.on < ops.size := fun e he hb => by
      have := haf e he hb
      rcases Nat.lt_or_ge e.on ops.size with h' | h'
      · exact h'
      · rw [Array.getD_eq_getD_getElem?, Array.getElem?_eq_none (by omega)] at this; simp at this
    have hun : ∀ j, (j = i ∨ anc ops ops.size j i = true) → L.getD j false = false := by
      intro j hj
      rcases hj with rfl | hj
      · exact hLf
      · cases h : L.getD j false with
        | false => rfl
        | true => rw [anc_listed hcl _ _ _ h hj] at hLf; cases hLf
    have hlo : ∀ k, k < ms.length → anc ops ops.size i (ms.getD k 0) = true → k < s := by
      intro k hk ha
      have := anc_ready hcl ho haf _ _ ha
      rw [hS.2 k hk] at this
      simpa using this
    have hhi : ∀ k, k < ms.length → (ms.getD k 0 = i ∨ anc ops ops.size (ms.getD k 0) i = true) → s ≤ k := by
      intro k hk ha
      have := hun _ ha
      rw [hS.2 k hk] at this
      simpa using this
    have hst := step i o ho s a hS.1 hlo hhi h5 (fun e he hb d hd => h6 e.on d (hon e he hb) (haf e he hb) hd) (fun j d hj ha hd => h7 j d hj (hun j ha) hd)
    have hgo : o.guard = none := by
      rw [Array.all_eq_true] at hg
      have := hg i hlt'
      have ho' : ops[i] = o := by rw [Array.getElem?_eq_getElem hlt'] at ho; injection ho
      rw [ho'] at this
      simpa using this
    unfold wpOp
    rw [ho]
    simp only [wanted_none hgo, if_true]
    refine .inl (Oper.wp_mono ?_ hst)
    rintro a' w' ⟨rfl, rfl⟩
    refine ⟨by rw [Array.size_setIfInBounds]; exact h1, ?_, ⟨_, ?_, rfl⟩, ?_, ?_, ?_, ?_, ?_⟩
    · intro j p hp hj e he hb
      rw [set_getD' _ _ _ (by omega)] at hj ⊢
      by_cases hji : j = i
      · subst hji
        rw [ho] at hp
        injection hp with hp
        subst hp
        rw [haf e he hb]; simp
      · rw [if_neg hji] at hj
        rw [hcl j p hp hj e he hb]; simp
    · by_cases hmi : i ∈ ms
      · obtain ⟨k, hk, hki⟩ := List.getElem_of_mem hmi
        have hkd : ms.getD k 0 = i := by rw [List.getD_eq_getElem?_getD, List.getElem?_eq_getElem hk, Option.getD_some, hki]
        have hs1 := hhi k hk (.inl hkd)
        have hs2 : k ≤ s := by
          cases k with
          | zero => omega
          | succ k =>
            have := hlo k (by omega) (by rw [← hkd]; exact (chain_spec hch hk (by omega) (by omega)).2 (by omega))
            omega
        have hsk : s = k := by omega
        subst hsk
        rw [if_pos (by simpa using hmi)]
        refine ⟨by omega, fun k' hk' => ?_⟩
        rw [set_getD' _ _ _ (by omega)]
        by_cases e : k' = s
        · subst e; rw [if_pos hkd]; simp
        · rw [if_neg (fun q => (chain_spec hch hk' hk e).1 (q.trans hkd.symm)), hS.2 k' hk']
          rw [decide_eq_decide]; omega
      · rw [if_neg (by simpa using hmi)]
        refine ⟨hS.1, fun k' hk' => ?_⟩
        rw [set_getD' _ _ _ (by omega), if_neg (fun q => hmi ?_), hS.2 k' hk']
        rw [← q, List.getD_eq_getElem?_getD, List.getElem?_eq_getElem hk', Option.getD_some]
        exact List.getElem_mem _
    · cases o.dst <;> exact h3
    · cases hod : o.dst with
      | none => exact h4
      | some d => simp only [Act.put, Array.size_setIfInBounds]; exact h4
    · intro k hk
      cases hod : o.dst with
      | none => exact h5 k hk
      | some d =>
        have hdi : dstOf ops i = some d := by simp [dstOf, ho, hod]
        rw [getD_put _ _ _ _ (by have := (good_spec hdf hlt' hdi).1; omega), if_neg (fun e => hk i hlt' (by rw [e]; exact hdi))]
        exact h5 k hk
    · intro j d hj hLj hdj
      rw [set_getD' _ _ _ (by omega)] at hLj
      cases hod : o.dst with
      | none =>
        by_cases hji : j = i
        · subst hji
          have : dstOf ops j = none := by simp [dstOf, ho, hod]
          rw [this] at hdj
          cases hdj
        · rw [if_neg hji] at hLj
          exact h6 j d hj hLj hdj
      | some d' =>
        have hdi : dstOf ops i = some d' := by simp [dstOf, ho, hod]
        have hf := good_spec hdf hlt' hdi
        rw [getD_put _ _ _ _ (by omega)]
        by_cases hji : j = i
        · subst hji
          rw [hdi] at hdj
          injection hdj with hdj
          rw [if_pos hdj.symm]
        · rw [if_neg hji] at hLj
          rw [if_neg (fun e => hf.2 j hj hji (by rw [← e]; exact hdj))]
          exact h6 j d hj hLj hdj
    · intro j d hj hLj hdj
      rw [set_getD' _ _ _ (by omega)] at hLj
      have hji : j ≠ i := by
        rintro rfl
        rw [if_pos rfl] at hLj
        cases hLj
      rw [if_neg hji] at hLj
      cases hod : o.dst with
      | none => exact h7 j d hj hLj hdj
      | some d' =>
        have hdi : dstOf ops i = some d' := by simp [dstOf, ho, hod]
        have hf := good_spec hdf hlt' hdi
        rw [getD_put _ _ _ _ (by omega), if_neg (fun e => hf.2 j hj hji (by rw [← e]; exact hdj))]
        exact h7 j d hj hLj hdj
  · rintro L a w ⟨h1, hcl, ⟨s, hS, rfl⟩, h3, h4, h5, h6, h7⟩ hr
    have hall := all_listedB hah h1 hr
    have hs : s = ms.length := by
      refine Nat.le_antisymm hS.1 (Nat.le_of_not_lt fun h => ?_)
      have e := hS.2 s h
      have hmem : ms.getD s 0 ∈ ms := by rw [List.getD_eq_getElem?_getD, List.getElem?_eq_getElem h, Option.getD_some]; exact List.getElem_mem _
      rw [hall _ (hlt _ hmem)] at e
      simp at e
    subst hs
    exact done a h3 h4 h5 fun i d hi hd => h6 i d hi (hall i hi) hd
  · refine ⟨by simp, ?_, ⟨0, ⟨Nat.zero_le _, fun k hk => ?_⟩, hW0.symm⟩, rfl, rfl, fun _ _ => rfl, fun i d hi h => ?_, fun _ _ _ _ _ => rfl⟩
    · intro j p hp hj
      rw [Array.getD_eq_getD_getElem?, Array.getElem?_replicate] at hj
      split at hj <;> simp at hj
    · rw [Array.getD_eq_getD_getElem?, Array.getElem?_replicate]
      split <;> simp
    · rw [Array.getD_eq_getD_getElem?, Array.getElem?_replicate] at h
      simp [hi] at h
  · unfold left
    exact Nat.le_trans (List.countP_le_length) (by simp)
end Go.Proofs.Ytlddogigbodilaa
namespace Go.Proofs.Ytlddogigbodilaa
open Go Go.RowKit
theorem skip_good {P : Program} {o : Oper} {a : Act} {w : World} {Q : Exit → Act → World → Prop} {ops : Array Oper} (good : Value → World → Prop) {X : Prop} (hw : Region.wanted o (yielded ops a.tmps) = true)
    (h : ∀ K : Act → World → Prop, (∀ v w', good v w' → K (a.put o.dst v) w') → o.wp P a w K Q) :
    if Region.wanted o (yielded ops a.tmps) then o.wp P a w (fun a' w' => ∃ v, a' = a.put o.dst v ∧ good v w') Q else X := by
  rw [if_pos hw]
  exact h _ (fun v w' hg => ⟨v, rfl, hg⟩)
theorem skip_no {o : Oper} {f : Nat → Option Bool} {A X : Prop} {j : Nat} {b : Bool} (h : o.guard = some (j, !b)) (hf : f j = some b) (hx : X) : if Region.wanted o f then A else X := by
  rw [if_neg]
  · exact hx
  · unfold Region.wanted; rw [h]; simp [hf]
theorem skip_un {o : Oper} {f : Nat → Option Bool} {A X : Prop} {j : Nat} {b : Bool} (h : o.guard = some (j, b)) (hf : f j = none) (hx : X) : if Region.wanted o f then A else X := by
  rw [if_neg]
  · exact hx
  · unfold Region.wanted; rw [h]; simp [hf]
theorem yielded_un {ops : Array Oper} {t : Array Value} {j d : Nat} (hj : dstOf ops j = some d) (hv : t.getD d undef = undef) : yielded ops t j = none := by
  unfold yielded
  unfold dstOf at hj
  rw [hj]
  simp only [Option.bind_some]
  rw [Array.getD_eq_getD_getElem?] at hv
  cases h : t[d]? with
  | none => rfl
  | some v =>
    rw [h] at hv
    simp only [Option.getD_some] at hv
    subst hv
    rfl
/-- region_inv, where an operation may be passed over by its guard: it yields undef then. 'G i v w': what operation i has yielded, v, is good in the world w; it stays so while the world grows ('W', 'stable'); each operation, its forerunners' yields being good, yields something good ('step'). -/
theorem region_skip {P : Program} {id : Nat} {ops : Array Oper} {Q : Exit → Act → World → Prop} {a0 : Act} {w0 : World} (G : Nat → Value → World → Prop) (W : World → Prop)
    (hm : P.follows .mixedOrders = true) (hd : dstsApart ops a0.tmps.size = true) (hah : aftersBound ops = true) (hW0 : W w0.drew)
    (stable : ∀ i v w w', W w → W w' → Below w.heap.size w w' → G i v w → G i v w')
    (step : ∀ i o, ops[i]? = some o → ∀ a w, W w → a.defers = a0.defers → a.tmps.size = a0.tmps.size →
      (∀ k, (∀ j, j < ops.size → dstOf ops j ≠ some k) → a.tmps.getD k undef = a0.tmps.getD k undef) →
      (∀ e ∈ o.after, Region.binds .any e = true → G e.on (slotOf ops a e.on) w) →
      (if Region.wanted o (yielded ops a.tmps) then o.wp P a w (fun a' w' => ∃ v, a' = a.put o.dst v ∧ Below w.heap.size w w' ∧ W w' ∧ G i v w') Q else G i undef w))
    (done : ∀ a w, W w → a.defers = a0.defers → a.tmps.size = a0.tmps.size →
      (∀ k, (∀ j, j < ops.size → dstOf ops j ≠ some k) → a.tmps.getD k undef = a0.tmps.getD k undef) →
      (∀ i, i < ops.size → G i (slotOf ops a i) w) → Q .normal a w) :
    (Code.region id ops true).wp P Q a0 w0 := by
  refine wp_region_any hm ?_
  refine wpAny_inv (fun L a w => L.size = ops.size ∧ W w ∧ a.defers = a0.defers ∧ a.tmps.size = a0.tmps.size ∧
      (∀ k, (∀ j, j < ops.size → dstOf ops j ≠ some k) → a.tmps.getD k undef = a0.tmps.getD k undef) ∧
      (∀ i, i < ops.size → L.getD i false = true → G i (slotOf ops a i) w)) (fun L a w h => h.1) ?_ ?_ _ _ _ _ ?_ ?_
  · rintro L a w i ⟨h1, h2, h3, h4, h5, h6⟩ hi
    obtain ⟨o, ho, hlt, hL, haf⟩ := ready_spec hi
    obtain ⟨d, hdi, hdn, hdj⟩ := dsts_spec hd hlt
    have hod : o.dst = some d := by simpa [dstOf, ho] using hdi
    have hst := step i o ho a w h2 h3 h4 h5 (fun e he hb => h6 e.on (by
      have := haf e he hb
      rcases Nat.lt_or_ge e.on ops.size with h' | h'
      · exact h'
      · rw [Array.getD_eq_getD_getElem?, Array.getElem?_eq_none (by omega)] at this; simp at this) (haf e he hb))
    have fin : ∀ v w', Below w.heap.size w w' → W w' → G i v w' → (L.setIfInBounds i true).size = ops.size ∧ W w' ∧ (a.put o.dst v).defers = a0.defers ∧ (a.put o.dst v).tmps.size = a0.tmps.size ∧
        (∀ k, (∀ j, j < ops.size → dstOf ops j ≠ some k) → (a.put o.dst v).tmps.getD k undef = a0.tmps.getD k undef) ∧
        (∀ j, j < ops.size → (L.setIfInBounds i true).getD j false = true → G j (slotOf ops (a.put o.dst v) j) w') := by
      intro v w' hb hW' hG
      have hda : d < a.tmps.size := by omega
      rw [hod]
      refine ⟨by rw [Array.size_setIfInBounds]; exact h1, hW', by simp only [Act.put]; exact h3, by simp only [Act.put, Array.size_setIfInBounds]; exact h4, ?_, ?_⟩
      · intro k hk
        rw [getD_put _ _ _ _ hda, if_neg (fun e => hk i hlt (by rw [e]; exact hdi))]
        exact h5 k hk
      · intro j hj hLj
        by_cases e : j = i
        · subst e
          unfold slotOf
          rw [hdi, Option.getD_some, getD_put _ _ _ _ hda, if_pos rfl]
          exact hG
        · obtain ⟨dj, hdj1, hdj2, hdj3⟩ := dsts_spec hd hj
          have hne : dj ≠ d := fun e2 => hdj j hj e (by rw [← e2]; exact hdj1)
          unfold slotOf
          rw [hdj1, Option.getD_some, getD_put _ _ _ _ hda, if_neg hne]
          have hLj' : L.getD j false = true := by
            rw [Array.getD_eq_getD_getElem?, Array.getElem?_setIfInBounds_ne (by omega)] at hLj
            rw [Array.getD_eq_getD_getElem?]; exact hLj
          have := h6 j hj hLj'
          unfold slotOf at this
          rw [hdj1, Option.getD_some] at this
          exact stable j _ w w' h2 hW' hb this
    unfold wpOp
    rw [ho]
    split at hst
    · rename_i hw
      simp only [hw, if_true]
      refine .inl (Oper.wp_mono ?_ hst)
      rintro a' w' ⟨v, rfl, hb, hW', hG⟩
      exact fin v w' hb hW' hG
    · rename_i hw
      simp only [hw]
      exact fin undef w (Below.refl _ _) h2 hst
  · rintro L a w ⟨h1, h2, h3, h4, h5, h6⟩ hr
    exact done a w h2 h3 h4 h5 fun i hi => h6 i hi (all_listedB hah h1 hr i hi)
  · refine ⟨by simp, hW0, rfl, rfl, fun _ _ => rfl, fun i hi h => ?_⟩
    rw [Array.getD_eq_getD_getElem?, Array.getElem?_replicate] at h
    simp [hi] at h
  · unfold left
    exact Nat.le_trans (List.countP_le_length) (by simp)
end Go.Proofs.Ytlddogigbodilaa
namespace Go.Proofs.Ytlddogigbodilaa
open Go Go.RowKit
theorem skip_goodIn {F : Fence} {n : Nat} {P : Program} {o : Oper} {a : Act} {w : World} {Q : Exit → Act → World → Prop} {ops : Array Oper} (good : Value → World → Prop) {X : Prop} (hw : Region.wanted o (yielded ops a.tmps) = true)
    (h : ∀ K : Act → World → Prop, (∀ v w', good v w' → K (a.put o.dst v) w') → o.wpIn F n P a w K Q) :
    if Region.wanted o (yielded ops a.tmps) then o.wpIn F n P a w (fun a' w' => ∃ v, a' = a.put o.dst v ∧ good v w') Q else X := by
  rw [if_pos hw]
  exact h _ (fun v w' hg => ⟨v, rfl, hg⟩)
theorem region_skipIn {F : Fence} {n : Nat} {P : Program} {id : Nat} {ops : Array Oper} {Q : Exit → Act → World → Prop} {a0 : Act} {w0 : World} (G : Nat → Value → World → Prop) (W : World → Prop) (hF : ∀ f, F.fn f)
    (hm : P.follows .mixedOrders = true) (hd : dstsApart ops a0.tmps.size = true) (hah : aftersBound ops = true) (hW0 : W w0.drew)
    (stable : ∀ i v w w', W w → W w' → Below w.heap.size w w' → G i v w → G i v w')
    (step : ∀ i o, ops[i]? = some o → ∀ a w, W w → a.defers = a0.defers → a.tmps.size = a0.tmps.size →
      (∀ k, (∀ j, j < ops.size → dstOf ops j ≠ some k) → a.tmps.getD k undef = a0.tmps.getD k undef) →
      (∀ e ∈ o.after, Region.binds .any e = true → G e.on (slotOf ops a e.on) w) →
      (if Region.wanted o (yielded ops a.tmps) then o.wpIn F n P a w (fun a' w' => ∃ v, a' = a.put o.dst v ∧ Below w.heap.size w w' ∧ W w' ∧ G i v w') Q else G i undef w))
    (done : ∀ a w, W w → a.defers = a0.defers → a.tmps.size = a0.tmps.size →
      (∀ k, (∀ j, j < ops.size → dstOf ops j ≠ some k) → a.tmps.getD k undef = a0.tmps.getD k undef) →
      (∀ i, i < ops.size → G i (slotOf ops a i) w) → Q .normal a w) :
    (Code.region id ops true).wpIn F n P Q a0 w0 := by
  refine wpIn_region_any hm ?_
  refine wpAnyIn_inv (fun L a w => L.size = ops.size ∧ W w ∧ a.defers = a0.defers ∧ a.tmps.size = a0.tmps.size ∧
      (∀ k, (∀ j, j < ops.size → dstOf ops j ≠ some k) → a.tmps.getD k undef = a0.tmps.getD k undef) ∧
      (∀ i, i < ops.size → L.getD i false = true → G i (slotOf ops a i) w)) (fun L a w h => h.1) ?_ ?_ _ _ _ _ ?_ ?_
  · rintro L a w i ⟨h1, h2, h3, h4, h5, h6⟩ hi
    obtain ⟨o, ho, hlt, hL, haf⟩ := ready_spec hi
    obtain ⟨d, hdi, hdn, hdj⟩ := dsts_spec hd hlt
    have hod : o.dst = some d := by simpa [dstOf, ho] using hdi
    have hst := step i o ho a w h2 h3 h4 h5 (fun e he hb => h6 e.on (by
      have := haf e he hb
      rcases Nat.lt_or_ge e.on ops.size with h' | h'
      · exact h'
      · rw [Array.getD_eq_getD_getElem?, Array.getElem?_eq_none (by omega)] at this; simp at this) (haf e he hb))
    have fin : ∀ v w', Below w.heap.size w w' → W w' → G i v w' → (L.setIfInBounds i true).size = ops.size ∧ W w' ∧ (a.put o.dst v).defers = a0.defers ∧ (a.put o.dst v).tmps.size = a0.tmps.size ∧
        (∀ k, (∀ j, j < ops.size → dstOf ops j ≠ some k) → (a.put o.dst v).tmps.getD k undef = a0.tmps.getD k undef) ∧
        (∀ j, j < ops.size → (L.setIfInBounds i true).getD j false = true → G j (slotOf ops (a.put o.dst v) j) w') := by
      intro v w' hb hW' hG
      have hda : d < a.tmps.size := by omega
      rw [hod]
      refine ⟨by rw [Array.size_setIfInBounds]; exact h1, hW', by simp only [Act.put]; exact h3, by simp only [Act.put, Array.size_setIfInBounds]; exact h4, ?_, ?_⟩
      · intro k hk
        rw [getD_put _ _ _ _ hda, if_neg (fun e => hk i hlt (by rw [e]; exact hdi))]
        exact h5 k hk
      · intro j hj hLj
        by_cases e : j = i
        · subst e
          unfold slotOf
          rw [hdi, Option.getD_some, getD_put _ _ _ _ hda, if_pos rfl]
          exact hG
        · obtain ⟨dj, hdj1, hdj2, hdj3⟩ := dsts_spec hd hj
          have hne : dj ≠ d := fun e2 => hdj j hj e (by rw [← e2]; exact hdj1)
          unfold slotOf
          rw [hdj1, Option.getD_some, getD_put _ _ _ _ hda, if_neg hne]
          have hLj' : L.getD j false = true := by
            rw [Array.getD_eq_getD_getElem?, Array.getElem?_setIfInBounds_ne (by omega)] at hLj
            rw [Array.getD_eq_getD_getElem?]; exact hLj
          have := h6 j hj hLj'
          unfold slotOf at this
          rw [hdj1, Option.getD_some] at this
          exact stable j _ w w' h2 hW' hb this
    unfold wpOpIn
    rw [ho]
    split at hst
    · rename_i hw
      simp only [hw, if_true]
      refine Oper.wpIn_mono ?_ hst
      rintro a' w' ⟨v, rfl, hb, hW', hG⟩
      exact fin v w' hb hW' hG
    · rename_i hw
      simp only [hw]
      rw [if_neg Bool.false_ne_true]
      exact ⟨fun f _ => hF f, fin undef w (Below.refl _ _) h2 hst⟩
  · rintro L a w ⟨h1, h2, h3, h4, h5, h6⟩ hr
    exact done a w h2 h3 h4 h5 fun i hi => h6 i hi (all_listedB hah h1 hr i hi)
  · refine ⟨by simp, hW0, rfl, rfl, fun _ _ => rfl, fun i hi h => ?_⟩
    rw [Array.getD_eq_getD_getElem?, Array.getElem?_replicate] at h
    simp [hi] at h
  · unfold left
    exact Nat.le_trans (List.countP_le_length) (by simp)
end Go.Proofs.Ytlddogigbodilaa
namespace Go.Proofs.Ytlddogigbodilaa
open Go.ChangeShapes Go.WideShapes Go.ChangeAt Go.RowKit Go.Shelf
namespace Vt
attribute [local go_sem] Oper.semAt_some
theorem plf_frames (fs : List Fr) : ∀ p, (plf p fs).map (fun x => x.2.2) = fs := by
  induction fs with
  | nil => intro p; rfl
  | cons f q ih => intro p; simp only [plf, List.map_cons]; rw [ih]
theorem fex_clean (fs : List Fr) : ∀ p, ∀ x ∈ fex p fs, x.1 = false := by
  induction fs with
  | nil => intro p x hx; cases hx
  | cons f q ih =>
    intro p x hx
    simp only [fex, List.mem_cons] at hx
    rcases hx with rfl | hx
    · rfl
    · exact ih _ _ hx
/-- what Clean leaves, plainly -/
theorem clean_plain {l : List Nat} (hb : Byt l) : Byt (cln l (locs 0 l)) ∧ (locs 0 (cln l (locs 0 l))).map (fun x => x.2.2) = (locs 0 l).map (fun x => x.2.2) ∧ (∀ x ∈ exts (cln l (locs 0 l)), x.1 = false) ∧ cln (cln l (locs 0 l)) (locs 0 (cln l (locs 0 l))) = cln l (locs 0 l) := by
  obtain ⟨fs, h1, h2, h3⟩ := cln_all hb
  rw [h1]
  have hby := ens_byt h2
  have hlo : locs 0 (ens fs) = plf 0 fs := by
    have := locs_ens h2 (r := []) byt_nil 0
    rwa [List.append_nil, locs_nil, List.append_nil] at this
  refine ⟨hby, by rw [hlo, plf_frames, h3], by rw [exts_ens h2]; exact fex_clean fs 0, ?_⟩
  obtain ⟨gs, k1, k2, k3⟩ := cln_all hby
  rw [k1, k3, hlo, plf_frames]
abbrev JFr := JR 41 14
theorem info_fr : (Try.prog.info? 41).map (fun i => (i.zero, i.size, i.bytes)) = some (some (.agg #[.int .i64 0, .int .u64 0, .int .i64 0, .string ⟨#[]⟩, .string ⟨#[]⟩, .int .u64 0, .int .i64 0, .int .i64 0, .int .i64 0, .string ⟨#[]⟩, .int .i64 0, .int .i64 0, .int .i64 0, .int .u32 0]), 14, 136) := by kernel_rfl
theorem frv_one (f : Fr) : ∀ u ∈ frv f, u.oneCell' = true := by
  intro u hu
  simp only [frv, List.mem_cons, List.mem_nil_iff, or_false] at hu
  rcases hu with rfl | rfl | rfl | rfl | rfl | rfl | rfl | rfl | rfl | rfl | rfl | rfl | rfl | rfl <;> rfl
theorem blkQ_kept {W W' : World} {row : Option Nat} {O : Nat} {t : TypeId} {cs : List Value} (h : Blk W O t cs) (hg : W.grownBy W' row) (hr : ∀ r, row = some r → ∃ o : Obj, W.heap[r]? = some o ∧ o.isCells = false) : Blk W' O t cs := by
  refine h.grown hg (fun e => ?_)
  obtain ⟨o, ho, hc⟩ := hr O e.symm
  have h2 : W.heap[O]? = _ := h
  rw [h2] at ho
  injection ho with ho
  rw [← ho] at hc
  cases hc
theorem jr_turned {E : TypeId} {sz B base : Nat} {X : Nat → Prop} {V V' : World} {v : Value} {ls : List (List Value)} (h : JR E sz V base v ls) (ht : Turned X B V V') (hX : ∀ g, v.ownBlock = some g → ¬ X g) : JR E sz V' base v ls := by
  obtain ⟨h1, h0, ⟨rfl, e⟩ | ⟨g', cap', cur, rfl, hbs, hh, hr⟩⟩ := h
  · exact ⟨h1, h0, .inl ⟨rfl, e⟩⟩
  · exact ⟨h1, h0, .inr ⟨g', cap', cur, rfl, hbs, ht.block g' _ hh (hX g' rfl) (.inl rfl), hr⟩⟩
theorem frv_inj {f g : Fr} (h : frv f = frv g) : f = g := by
  obtain ⟨k, ⟨rl, rk, rkey, rval⟩, ⟨pl, pk, pa, pn, pkey⟩, ⟨ec, eb, ef, es⟩⟩ := f
  obtain ⟨k0, ⟨rl0, rk0, rkey0, rval0⟩, ⟨pl0, pk0, pa0, pn0, pkey0⟩, ⟨ec0, eb0, ef0, es0⟩⟩ := g
  simp only [frv, List.cons.injEq, Value.int.injEq, Value.string.injEq, true_and, and_true, Int.natCast_inj] at h
  obtain ⟨h1, h2, h3, h4, h5, h6, h7, h8, h9, h10, h11, h12, h13, h14⟩ := h
  subst h1 h2 h3 h4 h5 h6 h7 h8 h9 h10 h11 h12 h13 h14
  rfl
theorem ko_drewN (U : World) (nn : Nat) : KeepsOthers U (U.drewN nn) := ⟨Nat.le_refl _, fun _ _ h _ => h⟩
/-- between two rounds of the second range -/
def ClJ (P : Nat) (V1 : World) (L : List (List Value)) {B : Nat} (pre : List (PL B)) (X : Nat → Prop) (U : World) : Prop :=
  Boxed U P 3 (.int .i64 (pre.length : Int)) ∧ pre.map (fun x => frv x.1.2.2) <+: L ∧ Below P V1 U ∧ P + 1 ≤ U.heap.size ∧ (∀ k, X k → P + 1 ≤ k)
theorem clJ_abides {P : Nat} {V1 : World} {L : List (List Value)} (hs : V1.heap.size = P + 1) {B : Nat} : AbidesX (P + 1) (ClJ P V1 L (B := B)) := by
  rintro s X X' V V' ⟨h0, h1, h2, h3, h4⟩ ht hX
  refine ⟨boxed_turned h0 ht (fun x => by have := h4 _ x; omega), h1, below_turned h2 (by omega) ht (by omega) (fun k hk => by have := h4 k hk; omega), Nat.le_trans h3 ht.size, fun k hk => ?_⟩
  rcases hX k hk with h | h
  · exact h4 k h
  · omega
theorem pre_snoc_yes {α : Type} {A L : List α} {x : α} (h : A <+: L) (hx : L[A.length]? = some x) : A ++ [x] <+: L := by
  obtain ⟨r, rfl⟩ := h
  rw [List.getElem?_append_right (Nat.le_refl _), Nat.sub_self] at hx
  cases r with
  | nil => simp at hx
  | cons y r =>
    simp at hx
    subst hx
    exact ⟨r, by simp⟩
theorem pre_snoc_no {α : Type} {A L : List α} {x : α} (hx : L[A.length]? ≠ some x) : ¬ A ++ [x] <+: L := by
  rintro ⟨r, rfl⟩
  apply hx
  simp
end Vt
end Go.Proofs.Ytlddogigbodilaa
namespace Go.Proofs.Ytlddogigbodilaa
open Go.RowKit
namespace Vt
def F0 : Fr := ofR ⟨1, 1, ⟨#[107]⟩, ⟨#[118]⟩⟩
theorem rf_F0 : rf F0 = 0 := by
  unfold rf
  rw [if_pos (.inl rfl)]
  unfold rfR
  rw [if_neg (fun q => q rfl), if_neg (by show ¬ (1 : Nat) = 0; omega), if_neg (fun q => q ⟨by show 1 ≤ 1; omega, by show 1 ≤ 64; omega⟩), if_neg (by show ¬ (if (1 : Int) = 2 then 0 else 2048) < 1; rw [if_neg (by omega)]; omega), if_neg (fun q => q rfl)]
theorem wf_F0 : F0.Wf := ⟨by show 1 < 18446744073709551616; omega, by show 0 < 18446744073709551616; omega, by show 0 < 4294967296; omega⟩
theorem bd_F0 : bd F0 = [1, 1, 1, 107, 118] := by
  have v1 : vrt 1 = [1] := vrt_small (by omega)
  unfold bd bp
  rw [if_pos (show F0.kind = 1 from rfl)]
  show ([[1], vs [1, 1], [107], [118]] : List (List Nat)).flatten = _
  simp [vs, v1]
theorem wr_F0 : wr (bd F0) = [1, 1, 1, 107, 118] := by rw [bd_F0]; decide
theorem en_F0 : ∃ s, en F0 = 167 :: ([0, 0, 5] ++ ([1, 1, 1, 107, 118] ++ s)) ∧ s.length = 5 := ⟨_, by rw [en_eq, wr_F0]; rfl, dg_len _ _⟩
theorem bodyOk_F0 : BodyOk F0 := fun w => body_1 1 ⟨#[107]⟩ ⟨#[118]⟩ w (by omega) rf_F0
theorem decF_zero {f : Fr} (hw : f.Wf) (h : rf f = 0) (r : List Nat) : decF (en f ++ r) 0 = (f, (en f).length, 0) := by
  unfold decF
  rw [if_neg (by have := en_pos f; rw [List.length_append]; omega), show (0 : Int).toNat = 0 from rfl, List.drop_zero]
  exact dcd_en hw h r
end Vt
end Go.Proofs.Ytlddogigbodilaa
