/-
  THE WALK OF the law's 'same' (are two lists of bytes the same?).
  A frame that is cut short is none.
-/
import Derived.Test.YtmcipkogkibkaaaMag
import Derived.Test.YtmcipkogkibkaaaMbl
namespace Go.Proofs.Ytmcipkogkibkaaa
open Go.RowKit
namespace Vt
set_option maxRecDepth 100000 in
set_option maxHeartbeats 400000 in
theorem fsame_row (ba oa ca bb ob cb : Nat) (la lb : List Nat) (w : World) (hl : la.length = lb.length) (hA : Row w ba oa la) (hB : Row w bb ob lb) (hm : la.length ≤ maxLen) :
    Calls Try.prog 8 #[.slice (some ⟨ba, oa, none⟩) la.length ca, .slice (some ⟨bb, ob, none⟩) la.length cb] w fun e w' => e = .returned (.bool (decide (la = lb))) ∧ ∃ n, w' = w.drewN n := by
  unfold maxLen at hm
  have HA := hd hA
  have HB := hd hB
  have HL := hd hl
  clear hA hB hl
  go_enter Try.func8, Try.ntmps8
  go_wp2
  go_loopw [4, 5] (fun o i wr => ∃ k n : Nat, k ≤ la.length ∧ o = .bool false ∧ i = .int .i64 (k : Int) ∧ wr = w.drewN n ∧ ∀ j, j < k → la.getD j 0 = lb.getD j 0) (fun _ i _ => la.length - (intOf i).toNat)
  case atStart => exact ⟨0, 0, by omega, rfl, rfl, rfl, by intro j hj; omega⟩
  case round =>
    obtain ⟨k, n, hk, rfl, rfl, rfl, he⟩ := hrel
    have HE := hd he
    clear he
    by_cases hlt : k < la.length
    · have ha := HA.out k hlt
      have hb := HB.out k (by rw [← HL.out]; exact hlt)
      by_cases hq : la.getD k 0 = lb.getD k 0
      · have HE2 : Hid (∀ j, j < k + 1 → la.getD j 0 = lb.getD j 0) := by
          intro j hj
          rcases Nat.lt_or_ge j k with h | h
          · exact HE.out j h
          · rw [show j = k by omega]; exact hq
        rw [← hq] at hb
        generalize la.getD k 0 = p at ha hb
        clear hq
        go_wp2
        go_quiet (fail)
        go_wp2
        go_roundw
        case rel => exact ⟨k + 1, _, by omega, rfl, by go_num, rfl, HE2.out⟩
        case measure => simp [intOf]; omega
      · have HNE : Hid (decide (la = lb) = false) := by
          show decide (la = lb) = false
          rw [decide_eq_false_iff_not]; intro e; rw [e] at hq; exact hq rfl
        generalize la.getD k 0 = p at ha hq
        generalize lb.getD k 0 = q at hb hq
        have hpq : ((p : Int) != (q : Int)) = true := by simp; omega
        go_wp2
        go_quiet (fail)
        go_wp2
        go_ret
        exact ⟨by rw [HNE.out]; rfl, drewN2 _ _ _⟩
    · obtain rfl : k = la.length := by omega
      have hy : decide (la = lb) = true := by rw [decide_eq_true_iff]; exact ext_getD HL.out HE.out
      have HY := hd hy
      clear hy
      go_wp2
      go_ret
      exact ⟨by rw [HY.out]; rfl, n, rfl⟩
set_option maxRecDepth 100000 in
set_option maxHeartbeats 400000 in
theorem fsame_nil (a : Option Addr) (c : Nat) (b : Option Addr) (c2 : Nat) (w : World) :
    Calls Try.prog 8 #[.slice a 0 c, .slice b 0 c2] w fun e w' => e = .returned (.bool true) ∧ w' = w := by
  go_enter Try.func8, Try.ntmps8
  go_wp2
  go_loopw [4, 5] (fun o i wr => o = .bool false ∧ i = .int .i64 0 ∧ wr = w) (fun _ _ _ => 0)
  case atStart => exact ⟨rfl, rfl, rfl⟩
  case round =>
    obtain ⟨rfl, rfl, rfl⟩ := hrel
    go_wp2
    go_ret
    exact ⟨rfl, rfl⟩
set_option maxRecDepth 100000 in
set_option maxHeartbeats 400000 in
theorem fsame_unlike (a : Option Addr) (c : Nat) (b : Option Addr) (c2 n m : Nat) (w : World) (h : n ≠ m) :
    Calls Try.prog 8 #[.slice a n c, .slice b m c2] w fun e w' => e = .returned (.bool false) ∧ w' = w := by
  have hne : ((n : Int) != (m : Int)) = true := by simp; omega
  go_enter Try.func8, Try.ntmps8
  go_wp2
  go_ret
  exact ⟨rfl, rfl⟩
theorem fsame_is (va vb : Value) (la lb : List Nat) (w : World) (hA : IsB w va la) (hB : IsB w vb lb) :
    Calls Try.prog 8 #[va, vb] w fun e w' => e = .returned (.bool (decide (la = lb))) ∧ ∃ n, w' = w.drewN n := by
  by_cases hl : la.length = lb.length
  · by_cases h0 : la.length = 0
    · obtain rfl : la = [] := List.length_eq_zero_iff.1 h0
      obtain rfl : lb = [] := List.length_eq_zero_iff.1 (by omega)
      obtain ⟨a, ca, rfl⟩ := hA.shape
      obtain ⟨b, cb, rfl⟩ := hB.shape
      refine (fsame_nil a ca b cb w).mono ?_
      rintro e w' ⟨rfl, rfl⟩
      exact ⟨rfl, 0, rfl⟩
    · obtain ⟨_, hm, ⟨rfl, _⟩ | ⟨ba, oa, ca, rfl, _, _, _, hr⟩⟩ := hA
      · simp at h0
      · obtain ⟨_, _, ⟨rfl, _⟩ | ⟨bb, ob, cb, rfl, _, _, _, hs⟩⟩ := hB
        · simp at hl; simp [hl] at h0
        · rw [← hl]; exact fsame_row ba oa ca bb ob cb la lb w hl hr hs hm
  · obtain ⟨a, ca, rfl⟩ := hA.shape
    obtain ⟨b, cb, rfl⟩ := hB.shape
    refine (fsame_unlike a ca b cb _ _ w hl).mono ?_
    rintro e w' ⟨rfl, rfl⟩
    exact ⟨by rw [decide_eq_false]; intro e; exact hl (by rw [e]), 0, rfl⟩
end Vt
end Go.Proofs.Ytmcipkogkibkaaa
namespace Go.Proofs.Ytmcipkogkibkaaa
open Go.ChangeShapes Go.WideShapes Go.ChangeAt Go.RowKit
namespace Vt
/-- a frame that is cut short -/
theorem dcd_cut {f : Fr} (hw : f.Wf) (h : rf f = 0) {j : Nat} (h1 : 1 ≤ j) (h2 : j < (en f).length) : decF ((en f).take j) 0 = (zf, 0, 43) := by
  have hEL := en_len f
  obtain ⟨hb1, hb2⟩ := bd_len hw h
  have hl := (wr_len (bd f)).2
  have hlen : ((en f).take j).length = j := by rw [List.length_take]; omega
  have hg : ((en f).take j).getD 0 0 = 167 := by
    rw [List.getD_eq_getElem?_getD, List.getElem?_take, if_pos (by omega), ← List.getD_eq_getElem?_getD]
    exact en_head f
  have hde : (en f).drop 1 = dg 3 (wr (bd f)).length ++ (wr (bd f) ++ dg 5 (Crc.go 0 (dg 3 (wr (bd f)).length ++ wr (bd f)))) := by rw [en_eq]; rfl
  have hdig : dig ((en f).take j) = (dg 3 (wr (bd f)).length).take (j - 1) := by
    unfold dig
    rw [List.drop_take, hde]
    have d3 := dg_len 3 (wr (bd f)).length
    rw [List.take_take, Nat.min_comm, ← List.take_take]
    rw [List.take_left' d3]
  have hlt : ∀ x ∈ dig ((en f).take j), x < 128 := by
    rw [hdig]
    intro x hx
    exact dg_lt _ _ x (List.mem_of_mem_take hx)
  unfold decF
  rw [if_neg (by rw [hlen]; omega), show (0 : Int).toNat = 0 from rfl, List.drop_zero]
  have hrl : rl ((en f).take j) = (0, 43) := by
    refine rl_43 hg hlt ?_
    rw [hlen]
    by_cases h4 : j < 4
    · exact .inl h4
    · refine .inr ?_
      rw [hdig, List.take_of_length_le (by rw [dg_len]; omega), nm_dg, p3]
      rw [hEL] at h2
      omega
  unfold dcd
  rw [hrl]
  rfl
end Vt
end Go.Proofs.Ytmcipkogkibkaaa
