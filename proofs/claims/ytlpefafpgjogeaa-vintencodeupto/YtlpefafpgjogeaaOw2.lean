/-
  THE WALK OF the law's still.
-/
import Derived.Test.YtlpefafpgjogeaaOw1
namespace Go.Proofs.Ytlpefafpgjogeaa
open Go.RowKit
namespace Ow
open Vt
set_option maxRecDepth 100000 in
set_option maxHeartbeats 1000000 in
theorem still_is (w : World) (X : Nat) (T : TypeId) (n : Nat → Nat) (m : Nat) (h : Sti w X T n m) (hm : m ≤ 40) (hn : ∀ i, i < m → n i ≤ 140737488300000) :
    Calls Try.prog 18 #[.pointer (some ⟨X, 0, none⟩)] w fun e w' => e = .returned (.bool true) ∧ w' = w := by
  obtain ⟨gl, cl, ol, g2, c2, o2, a1, a2, a3, a4, a5, a6, a7⟩ := h
  have HA7 := hd a7
  unfold maxLen at a2 a4
  clear a7
  go_enter Try.func18, Try.ntmps18
  go_wp2_with fail
  go_loop [3] (fun x => ∃ i : Nat, i ≤ m ∧ x = .int .i64 (i : Int)) (fun x => m - (intOf x).toNat)
  case atStart => exact ⟨0, by omega, rfl⟩
  case round =>
    obtain ⟨i, hi, rfl⟩ := hrel
    by_cases hlt : i < m
    · have hii : ((i : Nat) : Int) < (m : Int) := by omega
      obtain ⟨a, b, c, d, b1, b2, b3, b4, b5, b6, b7, b8⟩ := HA7.out i hlt
      have HB7 := hd b7
      have HB8 := hd b8
      have hni := hn i hlt
      have HLT : Hid (i + 1 ≤ m) := hlt
      unfold maxLen at b4 b6
      clear b7 b8 hi
      go_wp2_with fail
      go_loop [4] (fun x => ∃ k : Nat, k ≤ n i + 64 ∧ x = .int .i64 (k : Int)) (fun x => n i + 64 - (intOf x).toNat)
      case atStart => exact ⟨0, by omega, rfl⟩
      case round =>
        obtain ⟨k, hk, rfl⟩ := hrel
        by_cases hkl : k < n i + 64
        · have hki : ((k : Nat) : Int) < (n i : Int) + 64 := by omega
          have hc8 := HB8.out k hkl
          have HKL : Hid (k + 1 ≤ n i + 64) := hkl
          clear hk
          by_cases hkn : k < n i
          · have hkj : ((k : Nat) : Int) < (n i : Int) := by omega
            obtain ⟨g, hg, hc7⟩ := HB7.out k hkn
            subst hg
            unfold mk8 at hc7 hc8
            go_wp2_with fail
            exact ⟨⟨k + 1, HKL.out, by go_num⟩, by have := HKL.out; simp [intOf]; omega⟩
          · have hkj : ¬ ((k : Nat) : Int) < (n i : Int) := by omega
            unfold mk8 at hc8
            go_wp2_with fail
            exact ⟨⟨k + 1, HKL.out, by go_num⟩, by have := HKL.out; simp [intOf]; omega⟩
        · have hki : ¬ ((k : Nat) : Int) < (n i : Int) + 64 := by omega
          clear hkl hk
          go_wp2_with fail
          go_round
          case rel => exact ⟨i + 1, HLT.out, by go_num⟩
          case measure => have := HLT.out; simp [intOf]; omega
    · have hii : ¬ ((i : Nat) : Int) < (m : Int) := by omega
      clear hlt hi
      go_wp2_with fail
      go_ret
      exact ⟨rfl, rfl⟩
end Ow
end Go.Proofs.Ytlpefafpgjogeaa
