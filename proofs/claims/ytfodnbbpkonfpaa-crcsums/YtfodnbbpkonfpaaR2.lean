/-
  THE WALK OF THE DOCUMENT'S OWN Forge: the same four bytes.
-/
import Derived.Test.YtfodnbbpkonfpaaR1
namespace Go.Proofs.Ytfodnbbpkonfpaa
open Go.RowKit
theorem rb_odd {m : Nat} (h : m < 4294967296) (h1 : m % 2 = 1) : bits .xor .u32 (m : Int) 517762881 / 2 + 2147483648 = ((Crc.rb m : Nat) : Int) := by
  unfold Crc.rb
  have e := bxor h (by omega : 517762881 < 4294967296)
  rw [if_pos h1, show (517762881 : Int) = ((517762881 : Nat) : Int) from rfl, e]; omega
theorem rb_even {m : Nat} (h1 : ¬ m % 2 = 1) : (m : Int) / 2 = ((Crc.rb m : Nat) : Int) := by
  unfold Crc.rb; rw [if_neg h1]; omega
set_option maxRecDepth 100000 in
set_option maxHeartbeats 400000 in
theorem refForge_any (s t : Nat) (w : World) (hs : s < 4294967296) (ht : t < 4294967296) :
    Calls Try.prog 17 #[.int .u32 (s : Int), .int .u32 (t : Int)] w fun e w' => e = .returned (.slice (some ⟨w.heap.size, 0, none⟩) 4 4) ∧ IsB w' (.slice (some ⟨w.heap.size, 0, none⟩) 4 4) (Crc.by4 (Crc.fg s t)) ∧ Below w.heap.size w w' := by
  have e1 := bnot ht
  have hmk : ∀ w : World, (Instr.makeSlice 22 (.int .i64 4) (.int .i64 4)).run Try.prog w = .ok (.slice (some ⟨w.heap.size, 0, none⟩) 4 4) (w.alloc (.cells #[.int .u8 0, .int .u8 0, .int .u8 0, .int .u8 0] 5)) := fun _ => by kernel_rfl
  have H1 := hd (turned_any (Crc.nt t) w (Crc.nt_lt t))
  go_enter Try.func17, Try.ntmps17
  go_wp2_with fail
  refine Calls.mono H1.out ?_
  rintro e w' ⟨rfl, rfl⟩
  go_wp2_with fail
  go_loop [5, 6] (fun x i => ∃ k m : Nat, k ≤ 32 ∧ m < 4294967296 ∧ m = Crc.rbN k (Crc.tu (Crc.nt t)) ∧ i = .int .i64 k ∧ x = .int .u32 (m : Int)) (fun _ i => 32 - (intOf i).toNat)
  case atStart => exact ⟨0, _, by omega, Crc.tu_lt _, rfl, rfl, rfl⟩
  case round =>
    obtain ⟨k, m, hk, hm, em, rfl, rfl⟩ := hrel
    by_cases hlt : k < 32
    · have HN : Hid (Crc.rb m = Crc.rbN (k + 1) (Crc.tu (Crc.nt t))) := by
        show Crc.rb m = Crc.rbN (k + 1) (Crc.tu (Crc.nt t))
        rw [em, Crc.rbN]
      have lx := Crc.xor_lt hm (by omega : 517762881 < 4294967296)
      have ex := bxor hm (by omega : 517762881 < 4294967296)
      clear em
      by_cases h1 : m % 2 = 1
      · have hte : ((m : Int) % 2 == 1) = true := by simp; omega
        have HV := hd (rb_odd hm h1)
        clear h1
        rw [show (((517762881 : Nat)) : Int) = 517762881 from rfl] at ex
        rw [ex] at HV
        generalize m ^^^ 517762881 = mx at *
        go_wp2
        go_round
        case rel => exact ⟨k + 1, Crc.rb m, by omega, Crc.rb_lt hm, HN.out, by go_num, by rw [← HV.out]⟩
        case measure => simp [intOf]; omega
      · have hte : ((m : Int) % 2 == 1) = false := by simp; omega
        have HV := hd (rb_even h1)
        clear h1 ex
        go_wp2
        go_round
        case rel => exact ⟨k + 1, Crc.rb m, by omega, Crc.rb_lt hm, HN.out, by go_num, by rw [← HV.out]⟩
        case measure => simp [intOf]; omega
    · obtain rfl : k = 32 := by omega
      have H2 := hd (turned_any m w' hm)
      have lt2 := Crc.tu_lt m
      have ef : Crc.tu m ^^^ Crc.nt s = Crc.fg s t := by rw [em]; exact Crc.fg_ref s t
      have e2 := bnot hs
      have e3 := bxor lt2 (Crc.nt_lt s)
      rw [ef] at e3
      have lf := Crc.fg_lt s t
      have HC : Hid (#[Value.int .u8 (((Crc.fg s t : Nat) : Int) % 256), .int .u8 (((Crc.fg s t : Nat) : Int) / 256 % 256), .int .u8 (((Crc.fg s t : Nat) : Int) / 256 / 256 % 256), .int .u8 (((Crc.fg s t : Nat) : Int) / 256 / 256 / 256 % 256)] = cs (Crc.by4 (Crc.fg s t))) := by
        show _ = cs (Crc.by4 (Crc.fg s t))
        generalize Crc.fg s t = f
        have e3 : ((f / 65536 % 256 : Nat) : Int) = (f : Int) / 256 / 256 % 256 := by omega
        have e4 : ((f / 16777216 % 256 : Nat) : Int) = (f : Int) / 256 / 256 / 256 % 256 := by omega
        simp only [cs, Crc.by4, List.map, e3, e4]; rfl
      clear ef em
      generalize Crc.nt s = ns at *
      go_wp2_with fail
      refine Calls.mono H2.out ?_
      rintro e w2 ⟨rfl, rfl⟩
      go_wp2_with fail
      refine wp_loop_rounds 5 ?_
      rw [rounds_succ]
      go_wp2
      rw [rounds_succ]
      go_wp2
      rw [rounds_succ]
      go_wp2
      rw [rounds_succ]
      go_wp2
      rw [rounds_succ]
      go_wp2
      go_ret
      rw [HC.out]
      exact ⟨rfl, ⟨Crc.by4_byt _, by simp [Crc.by4, maxLen], .inr ⟨_, 0, 4, rfl, by simp [Crc.by4], by simp [maxLen], by simp, cs_row w2 _ _⟩⟩, (Below.refl _ _).alloc (Nat.le_refl _) _⟩
end Go.Proofs.Ytfodnbbpkonfpaa
