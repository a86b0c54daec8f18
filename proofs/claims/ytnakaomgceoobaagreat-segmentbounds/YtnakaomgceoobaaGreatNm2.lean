/-
  THE WALKS OF names.written, Make, Temp.
-/
import Derived.Test.YtnakaomgceoobaaGreatNm1
namespace Go.Proofs.YtnakaomgceoobaaGreat
open Go.RowKit
namespace Nam
open Vt
theorem parse_tmp (s : ByteArray) (w : World) (hs : s.size ≤ maxLen) (h : tmpL <:+ bl s) :
    Calls Tryz.prog 94 #[.string s] w fun e w' => e = .returned (.tuple #[.int .i64 4, .int .u32 0]) ∧ w' = w := by
  have hs0 : s.size ≤ 9223372036854775807 := by unfold maxLen at hs; omega
  go_enter Tryz.func94, Tryz.ntmps94
  go_wp2_with fail
  refine Calls.mono (strings_HasSuffix _ _ _ hs0) ?_
  rintro e w' ⟨rfl, rfl⟩
  rw [show Lib.hasSuffix s.data.toList [46, 116, 109, 112] = true from (has_suf s ⟨#[46, 116, 109, 112]⟩).trans (decide_eq_true (p := bl ⟨#[46, 116, 109, 112]⟩ <:+ bl s) h)]
  go_wp2_with fail
  go_ret2
  exact ⟨rfl, rfl⟩
theorem ix3 (a b c : Value) (w : World) : (Instr.index 170 (.agg #[a, b, c]) (.int .i64 0)).run Tryz.prog w = .ok a w ∧ (Instr.index 170 (.agg #[a, b, c]) (.int .i64 1)).run Tryz.prog w = .ok b w ∧ (Instr.index 170 (.agg #[a, b, c]) (.int .i64 2)).run Tryz.prog w = .ok c w := by
  refine ⟨?_, ?_, ?_⟩ <;> simp [Instr.index, asIntOf, run_underlying Tryz.underlying170, go_sem]
set_option maxRecDepth 100000 in
set_option maxHeartbeats 400000 in
theorem parse_no (s : ByteArray) (w : World) (hs : s.size ≤ maxLen) (h : ¬ tmpL <:+ bl s) :
    Calls Tryz.prog 94 #[.string s] w fun e w' => e = .returned (.tuple #[.int .i64 (((prs (bl s)).1 : Nat) : Int), .int .u32 (((prs (bl s)).2 : Nat) : Int)]) ∧ w' = w := by
  have hs0 : s.size ≤ 9223372036854775807 := by unfold maxLen at hs; omega
  go_enter Tryz.func94, Tryz.ntmps94
  go_wp2_with fail
  refine Calls.mono (strings_HasSuffix _ _ _ hs0) ?_
  rintro e w' ⟨rfl, rfl⟩
  rw [show Lib.hasSuffix s.data.toList [46, 116, 109, 112] = false from (has_suf s ⟨#[46, 116, 109, 112]⟩).trans (decide_eq_false (p := bl ⟨#[46, 116, 109, 112]⟩ <:+ bl s) h)]
  go_wp2_with fail
  go_loop [10] (fun i => ∃ z : Int, i = .int .i64 z ∧ (z = 0 ∨ (z = 1 ∧ numIn 1 (bl s) = 0) ∨ (z = 2 ∧ numIn 1 (bl s) = 0 ∧ numIn 2 (bl s) = 0) ∨ (z = 3 ∧ numIn 1 (bl s) = 0 ∧ numIn 2 (bl s) = 0 ∧ numIn 3 (bl s) = 0))) (fun i => 3 - (intOf i).toNat)
  case atStart => exact ⟨0, rfl, .inl rfl⟩
  case round =>
    have hl1 := numIn_lt 1 (bl s)
    have hl2 := numIn_lt 2 (bl s)
    have hl3 := numIn_lt 3 (bl s)
    have hx0 := fun w => (ix3 (.int .i64 1) (.int .i64 2) (.int .i64 3) w).1
    have hx1 := fun w => (ix3 (.int .i64 1) (.int .i64 2) (.int .i64 3) w).2.1
    have hx2 := fun w => (ix3 (.int .i64 1) (.int .i64 2) (.int .i64 3) w).2.2
    obtain ⟨z, rfl, rfl | ⟨rfl, q1⟩ | ⟨rfl, q1, q2⟩ | ⟨rfl, q1, q2, q3⟩⟩ := hrel
    · go_wp2_with fail
      refine Calls.mono (numberIn_is s 1 (.inl rfl) _ hs) ?_
      rintro e w' ⟨rfl, rfl⟩
      rcases Nat.eq_zero_or_pos (numIn 1 (bl s)) with q1 | q1
      · have HQ1 := hd q1
        rw [q1]
        go_wp2_with fail
        go_round
        case rel => exact ⟨1, rfl, .inr (.inl ⟨rfl, HQ1.out⟩)⟩
        case measure => simp [intOf]
      · have HR : Hid (prs (bl s) = (1, numIn 1 (bl s))) := by
          show prs (bl s) = _
          unfold prs; rw [if_neg h, if_pos q1]
        generalize numIn 1 (bl s) = n at *
        go_wp2_with fail
        go_ret2
        exact ⟨by rw [HR.out]; rfl, rfl⟩
    · have HQ1 := hd q1
      clear q1
      go_wp2_with fail
      refine Calls.mono (numberIn_is s 2 (.inr (.inl rfl)) _ hs) ?_
      rintro e w' ⟨rfl, rfl⟩
      rcases Nat.eq_zero_or_pos (numIn 2 (bl s)) with q1 | q1
      · have HQ2 := hd q1
        rw [q1]
        go_wp2_with fail
        go_round
        case rel => exact ⟨2, rfl, .inr (.inr (.inl ⟨rfl, HQ1.out, HQ2.out⟩))⟩
        case measure => simp [intOf]
      · have HR : Hid (prs (bl s) = (2, numIn 2 (bl s))) := by
          show prs (bl s) = _
          unfold prs; rw [if_neg h, if_neg (by rw [HQ1.out]; omega), if_pos q1]
        generalize numIn 2 (bl s) = n at *
        go_wp2_with fail
        go_ret2
        exact ⟨by rw [HR.out]; rfl, rfl⟩
    · have HQ1 := hd q1
      have HQ2 := hd q2
      clear q1 q2
      go_wp2_with fail
      refine Calls.mono (numberIn_is s 3 (.inr (.inr rfl)) _ hs) ?_
      rintro e w' ⟨rfl, rfl⟩
      rcases Nat.eq_zero_or_pos (numIn 3 (bl s)) with q1 | q1
      · have HQ3 := hd q1
        rw [q1]
        go_wp2_with fail
        go_round
        case rel => exact ⟨3, rfl, .inr (.inr (.inr ⟨rfl, HQ1.out, HQ2.out, HQ3.out⟩))⟩
        case measure => simp [intOf]
      · have HR : Hid (prs (bl s) = (3, numIn 3 (bl s))) := by
          show prs (bl s) = _
          unfold prs; rw [if_neg h, if_neg (by rw [HQ1.out]; omega), if_neg (by rw [HQ2.out]; omega), if_pos q1]
        generalize numIn 3 (bl s) = n at *
        go_wp2_with fail
        go_ret2
        exact ⟨by rw [HR.out]; rfl, rfl⟩
    · have HR : Hid (prs (bl s) = (0, 0)) := by
        show prs (bl s) = _
        unfold prs; rw [if_neg h, if_neg (by omega), if_neg (by omega), if_neg (by omega)]
      clear q1 q2 q3 hl1 hl2 hl3
      go_wp2_with fail
      go_ret2
      exact ⟨by rw [HR.out]; rfl, rfl⟩
theorem parse_is (s : ByteArray) (w : World) (hs : s.size ≤ maxLen) :
    Calls Tryz.prog 94 #[.string s] w fun e w' => e = .returned (.tuple #[.int .i64 (((prs (bl s)).1 : Nat) : Int), .int .u32 (((prs (bl s)).2 : Nat) : Int)]) ∧ w' = w := by
  by_cases h : tmpL <:+ bl s
  · have e : prs (bl s) = (4, 0) := by unfold prs; rw [if_pos h]
    rw [e]; exact parse_tmp s w hs h
  · exact parse_no s w hs h
end Nam
end Go.Proofs.YtnakaomgceoobaaGreat
