/-
  THE WALK OF the law's own 'works': it answers true.
-/
import Derived.Test.YtlpefafpgjogeaaV5
import Derived.Test.YtlpefafpgjogeaaV6
namespace Go.Proofs.Ytlpefafpgjogeaa
open Go.RowKit
namespace Vt
theorem enc_works : enc [0, 127, 128, 300] = [0, 127, 128, 1, 172, 2] := by
  simp [enc_cons, enc_nil, vrt_small, vrt_big]
theorem dec_works : dec [172, 2, 255] = (300, 2, 0) := by decide
theorem dg_works : dg 3 300 = [0, 2, 44] := by decide
set_option maxRecDepth 100000 in
set_option maxHeartbeats 400000 in
theorem works_any (w : World) :
    Calls Try.prog 11 #[] w fun e w' => e = .returned (.bool true) ∧ Below w.heap.size w w' := by
  go_enter Try.func11, Try.ntmps11
  go_wp2_with fail
  have h1 := encode_is _ [0, 127, 128, 300] _ (lit_isK .u64 18446744073709551616 w #[.int .u64 0, .int .u64 127, .int .u64 128, .int .u64 300] 29 [0, 127, 128, 300] 4 rfl rfl (by decide) (by decide)) (by decide)
  rw [enc_works] at h1
  refine Calls.mono h1 ?_
  rintro e w1 ⟨rfl, hj1, hb1⟩
  have hsz : (w.alloc (.cells #[.int .u64 0, .int .u64 127, .int .u64 128, .int .u64 300] 29)).heap.size = w.heap.size + 1 := by simp
  rw [hsz] at hj1 hb1 ⊢
  have HB1 : Hid (Below w.heap.size w w1) := ((Below.refl _ _).alloc (Nat.le_refl _) _).trans (hb1.mono (by omega))
  have HJ1 := hd hj1
  clear h1 hj1 hb1 hsz
  go_wp2_with fail
  have h2 := decode_is _ [172, 2, 255] _ (lit_isK .u8 256 w1 #[.int .u8 172, .int .u8 2, .int .u8 255] 5 [172, 2, 255] 3 rfl rfl (by decide) (by decide))
  rw [dec_works] at h2
  refine Calls.mono h2 ?_
  rintro e w2 ⟨rfl, hw2⟩
  have HJ2 : Hid (IsB w2 (.slice (some ⟨w.heap.size + 1, 0, none⟩) 6 6) [0, 127, 128, 1, 172, 2]) := by
    rw [hw2]; exact HJ1.out.isB.below ((Below.refl _ _).alloc (Nat.le_refl _) _)
  have HB2 : Hid (Below w.heap.size w w2) := by
    rw [hw2]; exact HB1.out.alloc HB1.out.size _
  clear h2 hw2 HJ1 HB1
  unfold ans
  go_wp2_with fail
  refine Calls.mono (digits_ok 300 3 w2 (by omega) (by omega) (by omega) (by decide)) ?_
  rw [dg_works]
  rintro e w3 ⟨rfl, hj3, hb3⟩
  have HJ3 := hd (HJ2.out.below hb3)
  have HD3 := hd hj3.isB
  have HB3 : Hid (Below w.heap.size w w3) := HB2.out.trans (hb3.mono HB2.out.size)
  clear hj3 hb3 HJ2 HB2
  go_wp2_with fail
  refine Calls.mono (same_is _ _ [0, 127, 128, 1, 172, 2] [0, 127, 128, 1, 172, 2] _ (HJ3.out.below ((Below.refl _ _).alloc (Nat.le_refl _) _)) (lit_isK .u8 256 w3 #[.int .u8 0, .int .u8 127, .int .u8 128, .int .u8 1, .int .u8 172, .int .u8 2] 5 [0, 127, 128, 1, 172, 2] 6 rfl rfl (by decide) (by decide))) ?_
  rintro e w4 ⟨rfl, n, hw4⟩
  have HB4 : Hid (Below w.heap.size w w4) := by
    rw [hw4]; exact below_drewN (HB3.out.alloc HB3.out.size _) n
  have HD4 : Hid (IsB w4 (.slice (some ⟨w2.heap.size, 0, none⟩) 3 3) [0, 2, 44]) := by
    rw [hw4]; exact (HD3.out.below ((Below.refl _ _).alloc (Nat.le_refl _) _)).drewN n
  clear hw4 HJ3 HD3 HB3
  rw [show decide (([0, 127, 128, 1, 172, 2] : List Nat) = [0, 127, 128, 1, 172, 2]) = true by decide]
  go_wp2_with fail
  refine Calls.mono (same_is _ _ [0, 2, 44] [0, 2, 44] _ (HD4.out.below ((Below.refl _ _).alloc (Nat.le_refl _) _)) (lit_isK .u8 256 w4 #[.int .u8 0, .int .u8 2, .int .u8 44] 5 [0, 2, 44] 3 rfl rfl (by decide) (by decide))) ?_
  rintro e w5 ⟨rfl, n5, hw5⟩
  have HB5 : Hid (Below w.heap.size w w5) := by
    rw [hw5]; exact below_drewN (HB4.out.alloc HB4.out.size _) n5
  clear hw5 HD4
  rw [show decide (([0, 2, 44] : List Nat) = [0, 2, 44]) = true by decide]
  go_wp2_with fail
  go_ret
  exact ⟨rfl, HB5.out⟩
end Vt
end Go.Proofs.Ytlpefafpgjogeaa
