/-
  THE WALK OF the law's own helper 'known': it answers true.
-/
import Derived.Test.YtfodnbbpkonfpabW11
import Derived.Lib.SlBytesConst
namespace Go.Proofs.Ytfodnbbpkonfpab
open Go.RowKit
def k9 : List Nat := [49, 50, 51, 52, 53, 54, 55, 56, 57]
theorem go_k9 : Crc.go 0 k9 = 3808858755 := by decide +kernel
theorem byt_k9 : Crc.Byt k9 := by intro x hx; simp [k9] at hx; omega
theorem k9_row (w : World) (t : TypeId) (fr : Nat × Nat) : Row (w.alloc (.cells (cs k9) t fr)) w.heap.size 0 k9 := by
  intro k hk
  rw [Nat.zero_add, World.cell?_alloc_mark]
  rw [List.getD_eq_getElem?_getD, List.getElem?_eq_getElem hk]
  simp [cs, hk]
theorem bitwise_k9 (v : Value) (w : World) (h : IsB w v k9) :
    Calls Try.prog 11 #[.int .u32 0, v] w fun e w' => e = .returned (.int .u32 3808858755) ∧ w' = w := by
  have := bitwise_is 0 v k9 w (by omega) h
  rw [go_k9] at this; exact this
theorem byTable_k9 (B : Nat) (v : Value) (w : World) (hT : Tab w B) (h : IsB w v k9) :
    Calls Try.prog 12 #[.pointer (some ⟨B, 0, none⟩), .int .u32 0, v] w fun e w' => e = .returned (.int .u32 3808858755) ∧ w' = w := by
  have := byTable_is B 0 v k9 w (by omega) hT h
  rw [go_k9] at this; exact this
theorem byEight_k9 (B : Nat) (v : Value) (w : World) (hT : Tab w B) (h : IsB w v k9) :
    Calls Try.prog 13 #[.pointer (some ⟨B, 0, none⟩), .int .u32 0, v] w fun e w' => e = .returned (.int .u32 3808858755) ∧ ∃ n, w' = w.drewN n := by
  have := byEight_is B 0 v k9 w (by omega) hT h
  rw [go_k9] at this; exact this
set_option maxRecDepth 100000 in
set_option maxHeartbeats 400000 in
theorem known_any (w : World) :
    Calls Try.prog 5 #[] w fun e w' => e = .returned (.bool true) ∧ Below w.heap.size w w' := by
  have kc := fun (w : World) (C : Array Value) (n c : Nat) => Lib.run_convert_bytes_const (P := Try.prog) w 30 5 C n c Try.underlying30 Try.underlying5
  go_enter Try.func5, Try.ntmps5
  go_wp2_with fail
  obtain ⟨w1, hw1⟩ : ∃ w1 : World, w1 = w.alloc (.cells (cs k9) 5 (9, 10)) := ⟨_, rfl⟩
  rw [show w.alloc (.cells #[.int .u8 49, .int .u8 50, .int .u8 51, .int .u8 52, .int .u8 53, .int .u8 54, .int .u8 55, .int .u8 56, .int .u8 57] 5 (9, 10)) = w1 from hw1.symm]
  have hr : Row w1 w.heap.size 0 k9 := by rw [hw1]; exact k9_row w _ _
  have hsz : w1.heap.size = w.heap.size + 1 := by rw [hw1]; simp
  have hb1 : Below w.heap.size w w1 := by rw [hw1]; exact (Below.refl _ _).alloc (Nat.le_refl _) _
  have HB1 : Hid (Below w.heap.size w w1) := hb1
  have HI : Hid (IsB w1 (.slice (some ⟨w.heap.size, 0, none⟩) 9 9) k9) := ⟨byt_k9, by decide, .inr ⟨_, 0, 9, rfl, by decide, by decide, by omega, hr⟩⟩
  clear hb1 hr hw1 kc
  refine (new_any w1).mono ?_
  rintro e w2 ⟨rfl, hT, hB2⟩
  have HT : Hid (Tab w2 w1.heap.size) := hT
  have HB2 : Hid (Below w1.heap.size w1 w2) := hB2
  have HI2 : Hid (IsB w2 (.slice (some ⟨w.heap.size, 0, none⟩) 9 9) k9) := HI.out.below HB2.out
  clear hT hB2 hsz HI
  go_wp2_with (first | (go_at_call 11; refine Calls.mono (bitwise_k9 _ _ HI2.out) ?_; rintro e w' ⟨rfl, rfl⟩) | (go_at_call 12; refine Calls.mono (byTable_k9 _ _ _ HT.out HI2.out) ?_; rintro e w' ⟨rfl, rfl⟩) | (go_at_call 13; refine Calls.mono (byEight_k9 _ _ _ HT.out HI2.out) ?_; rintro e w' ⟨rfl, n, rfl⟩))
  have HS : Hid (∀ m, Calls Try.prog 9 #[.slice (some ⟨w'.heap.size, 0, none⟩) 3 3] ((w'.drewN m).alloc (.cells #[.slice (some ⟨w.heap.size, 0, none⟩) 4 9, .slice none 0 0, .slice (some ⟨w.heap.size, 4, none⟩) 5 5] 30)) fun e u => e = .returned (.int .u32 3808858755) ∧ Below w'.heap.size w' u) := by
    intro m
    have h := sum_three (w'.drewN m) w'.heap.size rfl _ _ _ _ _ _ ((HI2.out.take 4 (by decide)).drewN m) (isB_nil _) ((HI2.out.drop 4 (by decide) 4 5 5 (by decide) rfl rfl).drewN m)
    rw [show List.take 4 k9 ++ ([] ++ List.drop 4 k9) = k9 from rfl, go_k9] at h
    exact h.mono fun e u hu => ⟨hu.1, (below_drewN (Below.refl _ _) m).trans hu.2⟩
  clear HI2 HT
  go_region_with (go_at_call 9; refine Calls.mono (HS.out (n + 1)) ?_; rintro e w3 ⟨rfl, hB3⟩)
  have HB3 : Hid (Below w'.heap.size w' w3) := hB3
  clear hB3 HS
  go_wp2
  go_ret
  exact ⟨rfl, (HB1.out.trans (HB2.out.mono HB1.out.size)).trans (HB3.out.mono (Nat.le_trans HB1.out.size HB2.out.size))⟩
end Go.Proofs.Ytfodnbbpkonfpab
