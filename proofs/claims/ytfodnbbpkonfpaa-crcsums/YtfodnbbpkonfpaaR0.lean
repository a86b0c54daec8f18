/-
  THE WALKS OF THE DOCUMENT'S OWN Turned and step (package salvorref1): they come to plain functions.
-/
import Derived.Test.YtfodnbbpkonfpaaL0
import Derived.Test.YtfodnbbpkonfpaaMath3
namespace Go.Proofs.Ytfodnbbpkonfpaa
open Go.RowKit
set_option maxRecDepth 100000 in
set_option maxHeartbeats 400000 in
theorem turned_any (x : Nat) (w : World) (hx : x < 4294967296) :
    Calls Try.prog 30 #[.int .u32 (x : Int)] w fun e w' => e = .returned (.int .u32 ((Crc.tu x : Nat) : Int)) ∧ w' = w := by
  go_enter Try.func30, Try.ntmps30
  go_wp2
  go_loop [0, 3, 4] (fun u y i => ∃ k z t : Nat, k ≤ 32 ∧ z < 4294967296 ∧ z = x / 2 ^ k ∧ t < 2 ^ k ∧ t = Crc.ty k x ∧ i = .int .i64 k ∧ u = .int .u32 (z : Int) ∧ y = .int .u32 (t : Int)) (fun _ _ i => 32 - (intOf i).toNat)
  case atStart => exact ⟨0, x, 0, by omega, hx, by simp, by simp, rfl, rfl, rfl, rfl⟩
  case round =>
    obtain ⟨k, z, t, hk, hz, ez, ht, et, rfl, rfl, rfl⟩ := hrel
    by_cases hlt : k < 32
    · have hp : 2 ^ k ≤ 2147483648 := Nat.pow_le_pow_right (n := 2) (by decide) (by omega : k ≤ 31)
      have HN : Hid (Crc.ty (k + 1) x = 2 * t + z % 2) := by
        show Crc.ty (k + 1) x = 2 * t + z % 2
        rw [Crc.ty, et, ez]
      have HZ : Hid (z / 2 = x / 2 ^ (k + 1)) := by
        show z / 2 = x / 2 ^ (k + 1)
        rw [ez, Nat.pow_succ, Nat.div_div_eq_div_mul]
      have ht2 : t < 2147483648 := by omega
      have HP : Hid (2 * t + z % 2 < 2 ^ (k + 1)) := by
        show 2 * t + z % 2 < 2 ^ (k + 1)
        rw [Nat.pow_succ]; omega
      clear ez et hp ht
      go_wp2
      go_round
      case rel => exact ⟨k + 1, z / 2, 2 * t + z % 2, by omega, by omega, HZ.out, HP.out, HN.out.symm, by go_num, by go_num, by go_num⟩
      case measure => simp [intOf]; omega
    · obtain rfl : k = 32 := by omega
      have HT : Hid (t = Crc.tu x) := et
      clear ez et ht
      go_wp2
      go_ret
      exact ⟨ret_int (by rw [HT.out]), rfl⟩
set_option maxRecDepth 100000 in
set_option maxHeartbeats 400000 in
theorem step_any (r b : Nat) (w : World) (hr : r < 4294967296) (hb : b < 2) :
    Calls Try.prog 32 #[.int .u32 (r : Int), .int .u32 (b : Int)] w fun e w' => e = .returned (.int .u32 ((Crc.rs r b : Nat) : Int)) ∧ w' = w := by
  by_cases h : r < 2147483648
  · have HE : Hid (2 * r + b = Crc.rs r b) := by
      show 2 * r + b = Crc.rs r b
      unfold Crc.rs; rw [if_pos h]; omega
    have hd : decide ((2147483648 : Int) ≤ (r : Int)) = false := by simp; omega
    go_enter Try.func32, Try.ntmps32
    go_wp2
    go_ret
    exact ⟨ret_int (by rw [← HE.out]; omega), rfl⟩
  · have hl : (2 * r + b) % 4294967296 < 4294967296 := by omega
    have HE : Hid (bits .xor .u32 (2 * (r : Int) % 4294967296 + (b : Int)) 517762881 = ((Crc.rs r b : Nat) : Int)) := by
      show bits .xor .u32 (2 * (r : Int) % 4294967296 + (b : Int)) 517762881 = ((Crc.rs r b : Nat) : Int)
      unfold Crc.rs; rw [if_neg h, ← bxor hl (by omega)]
      congr 1; omega
    have hd : decide ((2147483648 : Int) ≤ (r : Int)) = true := by simp; omega
    go_enter Try.func32, Try.ntmps32
    go_wp2
    go_ret
    exact ⟨ret_int (by rw [← HE.out]), rfl⟩
end Go.Proofs.Ytfodnbbpkonfpaa
