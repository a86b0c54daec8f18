/-
  THE REFERENCE OF LAYER 4: salvorref4.Of, in, kindOf, number.
-/
import Derived.Test.YticcmeicpkgfnaaF2
import Derived.Test.YticcmeicpkgfnaaU2
import Derived.Test.YticcmeicpkgfnaaV5
import Derived.Test.YticcmeicpkgfnaaM2
namespace Go.Proofs.Yticcmeicpkgfnaa
open Go.RowKit
namespace Vt
set_option maxRecDepth 100000 in
set_option maxHeartbeats 400000 in
theorem r4_of (r : Rec) (w : World) : Calls Try.prog 50 #[.agg (rv r)] w fun e w' => e = .returned (.agg (fv (ofR r))) ∧ w' = (w.alloc (.cells (rv r) 25)).alloc (.cells (fv (ofR r)) 34) := by
  unfold rv fv ofR zp ze
  obtain ⟨lsn, kind, key, val⟩ := r
  simp only
  go_enter Try.func50, Try.ntmps50
  go_wp2
  refine bodyPost_ret (results_cell_row rfl _ _ (w.heap.size + 1) 34 _ (0, 0) _ rfl (heap_two _ _ _) Try.underlying34 rfl (by kernel_rfl)) rfl ?_
  exact ⟨rfl, rfl⟩
set_option maxHeartbeats 400000 in
theorem r4_in (n lo hi : Int) (w : World) : Calls Try.prog 82 #[.int .i64 n, .int .i64 lo, .int .i64 hi] w fun e w' => e = .returned (.bool (decide (lo ≤ n ∧ n ≤ hi))) ∧ w' = w := by
  by_cases h1 : lo ≤ n
  · by_cases h2 : n ≤ hi
    · rw [decide_eq_true (⟨h1, h2⟩ : lo ≤ n ∧ n ≤ hi)]
      have e : decide (n ≤ hi) = true := by simp; omega
      go_enter Try.func82, Try.ntmps82
      go_wp2
      go_ret
      exact ⟨rfl, rfl⟩
    · rw [decide_eq_false (show ¬ (lo ≤ n ∧ n ≤ hi) from fun q => h2 q.2)]
      have e : decide (n ≤ hi) = false := by simp; omega
      go_enter Try.func82, Try.ntmps82
      go_wp2
      go_ret
      exact ⟨rfl, rfl⟩
  · rw [decide_eq_false (show ¬ (lo ≤ n ∧ n ≤ hi) from fun q => h1 q.1)]
    go_enter Try.func82, Try.ntmps82
    go_wp2
    go_ret
    exact ⟨rfl, rfl⟩
set_option maxHeartbeats 400000 in
theorem r4_kindOf (k : Int) (w : World) : Calls Try.prog 81 #[.int .i64 k] w fun e w' => e = .returned (.bool (decide (k = 1 ∨ k = 2))) ∧ w' = w := by
  by_cases h1 : k = 1
  · subst h1
    go_enter Try.func81, Try.ntmps81
    go_wp2
    go_ret
    exact ⟨rfl, rfl⟩
  · by_cases h2 : k = 2
    · subst h2
      go_enter Try.func81, Try.ntmps81
      go_wp2
      go_ret
      exact ⟨rfl, rfl⟩
    · rw [decide_eq_false (show ¬ (k = 1 ∨ k = 2) by omega)]
      have e1 : (k == 1) = false := by simp; omega
      have e2 : (k == 2) = false := by simp; omega
      go_enter Try.func81, Try.ntmps81
      go_wp2
      go_ret
      exact ⟨rfl, rfl⟩
set_option maxRecDepth 100000 in
set_option maxHeartbeats 1000000 in
theorem r4_number (n : Nat) (w : World) (hn : n < 18446744073709551616) : Calls Try.prog 56 #[.int .u64 (n : Int)] w fun e w' => ∃ u, e = .returned u ∧ JB w' w.heap.size u (vrt n) ∧ Below w.heap.size w w' := by
  have HT := hd (vrt_ten hn)
  go_enter Try.func56, Try.ntmps56
  go_wp2_with fail
  go_loopw [0, 3] (fun y v wi => ∃ (m : Nat) (pre : List Nat), m < 18446744073709551616 ∧ y = .int .u64 (m : Int) ∧ vrt n = pre ++ vrt m ∧ JB wi w.heap.size v pre ∧ Below w.heap.size w wi) (fun y _ _ => (intOf y).toNat)
  case atStart => exact ⟨n, [], hn, rfl, rfl, jb_nil _ _, Below.refl _ _⟩
  case round =>
    obtain ⟨m, pre, hm2, rfl, hv, hJ, hB⟩ := hrel
    have HJ := hd hJ
    have HB := hd hB
    have HV := hd hv
    have hsz := hB.size
    have hfit : pre.length + 1 ≤ 10 := by
      have h1 := HT.out
      have h2 := vrt_len m
      rw [hv, List.length_append] at h1
      omega
    clear hJ hB hv
    by_cases h128 : 128 ≤ m
    · have q : decide ((127 : Int) < (m : Int)) = true := by simp; omega
      go_wp2_with (at_builtin; refine wpList_append_jb _ rfl _ _ rfl w.heap.size _ _ _ [m % 128 + 128] rfl rfl (HJ.out.alloc _) (lit_isK .u8 256 _ _ 5 [m % 128 + 128] 1 rfl (by simp) (by intro y hy; simp at hy; omega) (by simp [maxLen])) (pre.length + 1) rfl _ rfl (by omega) (by rw [World.size_alloc]; omega) ?_; intro a2 cap2 w2 hJ2 hg2 hc2)
      have HJ2 := hd hJ2
      have HB2 := hd ((HJ.out.alloc _).grown (HB.out.alloc hsz _) (Nat.le_refl _) (by rw [World.size_alloc]; omega) hg2)
      clear hJ2 hg2
      go_roundw
      case rel =>
        refine ⟨m / 128, pre ++ [m % 128 + 128], by omega, by go_num, ?_, HJ2.out, HB2.out⟩
        rw [HV.out, vrt_big h128, List.append_assoc]; rfl
      case measure => simp [intOf]; omega
    · have q : decide ((127 : Int) < (m : Int)) = false := by simp; omega
      go_wp2_with (at_builtin; refine wpList_append_jb _ rfl _ _ rfl w.heap.size _ _ _ [m] rfl rfl (HJ.out.alloc _) (lit_isK .u8 256 _ _ 5 [m] 1 rfl (by simp) (by intro y hy; simp at hy; omega) (by simp [maxLen])) (pre.length + 1) rfl _ rfl (by omega) (by rw [World.size_alloc]; omega) ?_; intro a2 cap2 w2 hJ2 hg2 hc2)
      have HJ2 := hd hJ2
      have HB2 := hd ((HJ.out.alloc _).grown (HB.out.alloc hsz _) (Nat.le_refl _) (by rw [World.size_alloc]; omega) hg2)
      clear hJ2 hg2
      have HF : Hid (vrt n = pre ++ [m]) := by
        show vrt n = pre ++ [m]
        rw [HV.out, vrt_small (by omega)]
      rw [HF.out]
      go_ret
      exact ⟨_, rfl, HJ2.out, HB2.out⟩
end Vt
end Go.Proofs.Yticcmeicpkgfnaa
