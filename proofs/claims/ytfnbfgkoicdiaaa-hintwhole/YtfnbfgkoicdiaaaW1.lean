/-
  THE WALKS OF THE SMALL FUNCTIONS of package crc: each call answers what the plain function of the text Math says, and leaves the world as it was.
-/
import Derived.Test.YtfnbfgkoicdiaaaRows
import Derived.Test.YtfnbfgkoicdiaaaMath
import Derived.WalkKit
import Derived.WalkSpells
import Derived.WalkLawsBesides
import Derived.Laws.BitsAllLaws
namespace Go.Proofs.Ytfnbfgkoicdiaaa
open Go.RowKit

theorem ret_int {k : IntKind} {a b : Int} (h : a = b) : Ending.returned (.int k a) = .returned (.int k b) := by rw [h]
theorem bxor {a b : Nat} (ha : a < 4294967296) (hb : b < 4294967296) : bits .xor .u32 (a : Int) (b : Int) = ((a ^^^ b : Nat) : Int) := u32_xor_nat a b ha hb
theorem band1 {n : Nat} (h : n < 4294967296) : bits .and .u32 (n : Int) 1 = ((n % 2 : Nat) : Int) := by
  have := u32_and_nat n 1 h (by omega)
  rw [show ((1 : Nat) : Int) = 1 from rfl] at this
  rw [this, Nat.and_one_is_mod]
theorem mv_odd {n : Nat} (h : n < 4294967296) (h1 : (bits .and .u32 (n : Int) 1 == 1) = true) : bits .xor .u32 ((n : Int) / 2) 2197175160 = ((Crc.mv n : Nat) : Int) := by
  rw [band1 h] at h1
  have e : n % 2 = 1 := by simp at h1; omega
  unfold Crc.mv
  rw [if_pos e, ← bxor (by omega) (by omega)]; rfl
theorem mv_even {n : Nat} (h : n < 4294967296) (h1 : (bits .and .u32 (n : Int) 1 == 1) = false) : ((n : Int) / 2) = ((Crc.mv n : Nat) : Int) := by
  rw [band1 h] at h1
  have e : ¬ n % 2 = 1 := by simp at h1; omega
  unfold Crc.mv
  rw [if_neg e]; rfl
set_option maxHeartbeats 400000 in
theorem moveBit_any (n : Nat) (w : World) (h : n < 4294967296) :
    Calls Try.prog 67 #[.int .u32 (n : Int)] w fun e w' => e = .returned (.int .u32 ((Crc.mv n : Nat) : Int)) ∧ w' = w := by
  go_enter Try.func67, Try.ntmps67
  go_wp2
  all_goals go_ret
  · exact ⟨ret_int (mv_odd h (by assumption)), rfl⟩
  · exact ⟨ret_int (mv_even h (by assumption)), rfl⟩
set_option maxHeartbeats 400000 in
theorem moveByte_any (n : Nat) (w : World) (h : n < 4294967296) :
    Calls Try.prog 57 #[.int .u32 (n : Int)] w fun e w' => e = .returned (.int .u32 ((Crc.mvN 8 n : Nat) : Int)) ∧ w' = w := by
  go_enter Try.func57, Try.ntmps57
  go_wp2
  go_loop [0, 3] (fun t i => ∃ k : Nat, k ≤ 8 ∧ i = .int .i64 k ∧ t = .int .u32 ((Crc.mvN k n : Nat) : Int)) (fun _ i => 8 - (intOf i).toNat)
  case atStart => exact ⟨0, Nat.zero_le _, rfl, rfl⟩
  case round =>
    obtain ⟨k, hk, rfl, rfl⟩ := hrel
    by_cases hlt : k < 8
    · go_wp2_with (go_at_call 67; refine (moveBit_any _ _ (Crc.mvN_lt k h)).mono ?_; rintro e w' ⟨rfl, rfl⟩)
      go_round
      case rel => exact ⟨k + 1, by omega, by go_num, by rw [Crc.mvN_succ']⟩
      case measure => simp [intOf]; omega
    · obtain rfl : k = 8 := by omega
      go_wp2
      go_ret
      exact ⟨rfl, rfl⟩
end Go.Proofs.Ytfnbfgkoicdiaaa
