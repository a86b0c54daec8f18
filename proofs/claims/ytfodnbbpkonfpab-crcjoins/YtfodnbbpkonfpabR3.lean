/-
  THE WALKS OF THE DOCUMENT'S OWN times, power, Join: they come to what the plain functions say.
-/
import Derived.Test.YtfodnbbpkonfpabR0
import Derived.Test.YtfodnbbpkonfpabMath4
namespace Go.Proofs.Ytfodnbbpkonfpab
open Go.RowKit
theorem shr_bit (b j : Nat) : (((b : Nat) : Int) / 2 ^ j).tmod 2 = ((b / 2 ^ j % 2 : Nat) : Int) := by
  have e : ((b : Nat) : Int) / 2 ^ j = ((b / 2 ^ j : Nat) : Int) := by simp
  rw [e, Int.tmod_eq_emod_of_nonneg (Int.natCast_nonneg _)]; rfl
set_option maxRecDepth 100000 in
set_option maxHeartbeats 400000 in
theorem times_any (a b : Nat) (w : World) (ha : a < 4294967296) (_hb : b < 4294967296) :
    Calls Try.prog 19 #[.int .u32 (a : Int), .int .u32 (b : Int)] w fun e w' => e = .returned (.int .u32 ((Crc.tm a b : Nat) : Int)) ∧ w' = w := by
  go_enter Try.func19, Try.ntmps19
  go_wp2
  go_loop [5, 6] (fun x i => ∃ j r : Nat, j ≤ 32 ∧ r < 4294967296 ∧ Crc.tu r = Crc.sm (fun i => (Crc.tu b).testBit (j - 1 - i)) j (Crc.tu a) ∧ i = .int .i64 j ∧ x = .int .u32 (r : Int)) (fun _ i => 32 - (intOf i).toNat)
  case atStart => exact ⟨0, 0, by omega, by omega, by rw [Crc.sm]; decide, rfl, rfl⟩
  case round =>
    obtain ⟨j, r, hj, hr, hR, rfl, rfl⟩ := hrel
    by_cases hlt : j < 32
    · have HN := hd (Crc.tm_step hr hlt hR)
      have HC := hd (step_any r 0 w hr (by omega))
      have lr := Crc.rs_lt r 0
      have eb := shr_bit b (31 - j)
      have ej : (31 - (j : Int)).toNat = 31 - j := by omega
      clear hR
      rw [show (((0 : Nat)) : Int) = 0 from rfl] at HC
      by_cases ht : b.testBit (31 - j)
      · rw [if_pos ht] at HN
        have hte : ((b / 2 ^ (31 - j) % 2 : Nat) : Int) = 1 := by rw [Crc.bit_div, if_pos ht]; rfl
        rw [hte] at eb
        have ex := bxor lr ha
        clear hte ht
        generalize Crc.rs r 0 = q at *
        have lx := Crc.xor_lt lr ha
        generalize q ^^^ a = z at *
        go_wp2_with (go_at_call 27; refine Calls.mono HC.out ?_; rintro e w' ⟨rfl, rfl⟩)
        go_round
        case rel => exact ⟨j + 1, z, by omega, lx, HN.out, by go_num, rfl⟩
        case measure => simp [intOf]; omega
      · rw [if_neg ht, Nat.xor_zero] at HN
        have hte : ((b / 2 ^ (31 - j) % 2 : Nat) : Int) = 0 := by rw [Crc.bit_div, if_neg ht]; rfl
        rw [hte] at eb
        clear hte ht
        generalize Crc.rs r 0 = q at *
        go_wp2_with (go_at_call 27; refine Calls.mono HC.out ?_; rintro e w' ⟨rfl, rfl⟩)
        go_round
        case rel => exact ⟨j + 1, q, by omega, lr, HN.out, by go_num, rfl⟩
        case measure => simp [intOf]; omega
    · obtain rfl : j = 32 := by omega
      have HE := hd (Crc.tm_end (b := b) (a := a) hr hR)
      clear hR
      go_wp2
      go_ret
      exact ⟨ret_int (congrArg _ HE.out), rfl⟩
set_option maxRecDepth 100000 in
set_option maxHeartbeats 400000 in
theorem power_any (n : Nat) (w : World) (hn : n ≤ maxLen) :
    Calls Try.prog 20 #[.int .i64 (n : Int)] w fun e w' => (∃ p : Nat, p < 4294967296 ∧ Crc.tu p = Crc.mvN (8 * n) Crc.one ∧ e = .returned (.int .u32 (p : Int))) ∧ w' = w := by
  unfold maxLen at hn
  go_enter Try.func20, Try.ntmps20
  go_wp2
  go_loop [0, 3, 4] (fun x y z => ∃ m a b p q : Nat, m ≤ n ∧ a + b * m = n ∧ p < 4294967296 ∧ q < 4294967296 ∧ Crc.tu p = Crc.mvN (8 * a) Crc.one ∧ Crc.tu q = Crc.mvN (8 * b) Crc.one ∧ x = .int .i64 (m : Int) ∧ y = .int .u32 (p : Int) ∧ z = .int .u32 (q : Int)) (fun x _ _ => (intOf x).toNat)
  case atStart => exact ⟨n, 0, 1, 1, 256, by omega, by omega, by omega, by omega, Crc.tu_one, Crc.tu_256, rfl, rfl, rfl⟩
  case round =>
    obtain ⟨m, a, b, p, q, hm, hab, lp, lq, tp, tq, rfl, rfl, rfl⟩ := hrel
    by_cases h0 : m = 0
    · subst h0
      have HE : Hid (Crc.tu p = Crc.mvN (8 * n) Crc.one) := by
        show Crc.tu p = Crc.mvN (8 * n) Crc.one
        rw [tp, show 8 * a = 8 * n by omega]
      clear hab tp tq
      go_wp2
      go_ret
      exact ⟨⟨p, lp, HE.out, rfl⟩, rfl⟩
    · have hpos : (0 : Int) < (m : Int) := by omega
      have H1 := hd (times_any p q w lp lq)
      have H2 := hd (times_any q q w lq lq)
      have HP := hd (Crc.tm_powers tp tq)
      have HQ := hd (Crc.tm_powers tq tq)
      have l1 := Crc.tm_lt p q
      have l2 := Crc.tm_lt q q
      rw [show 8 * a + 8 * b = 8 * (a + b) by omega] at HP
      rw [show 8 * b + 8 * b = 8 * (2 * b) by omega] at HQ
      rcases Nat.mod_two_eq_zero_or_one m with h2 | h2
      · have hte : ((m : Int) % 2 == 1) = false := by simp; omega
        have HN : Hid (a + 2 * b * (m / 2) = n) := by
          show a + 2 * b * (m / 2) = n
          rw [← hab, Nat.mul_comm 2 b, Nat.mul_assoc, show 2 * (m / 2) = m by omega]
        have HTP := hd tp
        clear hab h0 h2 tp tq
        generalize Crc.tm q q = qq at *
        go_wp2_with fail
        refine Calls.mono H2.out ?_
        rintro e w' ⟨rfl, rfl⟩
        go_wp2
        go_round
        case rel => exact ⟨m / 2, a, 2 * b, p, qq, by omega, HN.out, lp, l2, HTP.out, HQ.out, by go_num, rfl, rfl⟩
        case measure => simp [intOf]; omega
      · have hte : ((m : Int) % 2 == 1) = true := by simp; omega
        have HN : Hid (a + b + 2 * b * (m / 2) = n) := by
          show a + b + 2 * b * (m / 2) = n
          rw [← hab, Nat.mul_comm 2 b, Nat.mul_assoc, Nat.add_assoc, Nat.add_comm b, ← Nat.mul_succ, show (2 * (m / 2)).succ = m by omega]
        clear hab h0 h2 tp tq
        generalize Crc.tm q q = qq at *
        generalize Crc.tm p q = pq at *
        go_wp2_with fail
        refine Calls.mono H1.out ?_
        rintro e w' ⟨rfl, rfl⟩
        go_wp2_with fail
        refine Calls.mono H2.out ?_
        rintro e w2 ⟨rfl, rfl⟩
        go_wp2
        go_round
        case rel => exact ⟨m / 2, a + b, 2 * b, pq, qq, by omega, HN.out, l1, l2, HP.out, HQ.out, by go_num, rfl, rfl⟩
        case measure => simp [intOf]; omega
set_option maxRecDepth 100000 in
set_option maxHeartbeats 400000 in
theorem refJoin_any (a b n : Nat) (w : World) (ha : a < 4294967296) (hb : b < 4294967296) (hn : n ≤ maxLen) :
    Calls Try.prog 7 #[.int .u32 (a : Int), .int .u32 (b : Int), .int .i64 (n : Int)] w fun e w' => e = .returned (.tuple #[.int .u32 ((Crc.mvN (8 * n) a ^^^ b : Nat) : Int), .int .i64 0]) ∧ w' = w := by
  have h0 : ¬ (n : Int) < 0 := by omega
  have H1 := hd (turned_any a w ha)
  have H2 := hd (power_any n w hn)
  have HX := hd (bxor (Crc.mvN_lt (8 * n) ha) hb)
  go_enter Try.func7, Try.ntmps7
  go_wp2_with fail
  refine Calls.mono H1.out ?_
  rintro e w1 ⟨rfl, rfl⟩
  go_wp2_with fail
  refine Calls.mono H2.out ?_
  rintro e w2 ⟨⟨p, lp, tp, rfl⟩, rfl⟩
  have H3 := hd (times_any (Crc.tu a) p w2 (Crc.tu_lt a) lp)
  have H4 := hd (turned_any (Crc.tm (Crc.tu a) p) w2 (Crc.tm_lt _ _))
  rw [Crc.tm_join ha tp] at H4
  clear tp
  go_wp2_with fail
  refine Calls.mono H3.out ?_
  rintro e w3 ⟨rfl, rfl⟩
  go_wp2_with fail
  refine Calls.mono H4.out ?_
  rintro e w4 ⟨rfl, rfl⟩
  go_wp2
  go_ret2
  exact ⟨by rw [HX.out]; rfl, rfl⟩
set_option maxRecDepth 100000 in
set_option maxHeartbeats 400000 in
theorem refJoin_neg (a b n : Int) (w : World) (hn : n < 0) :
    Calls Try.prog 7 #[.int .u32 a, .int .u32 b, .int .i64 n] w fun e w' => e = .returned (.tuple #[.int .u32 0, .int .i64 10]) ∧ w' = w := by
  go_enter Try.func7, Try.ntmps7
  go_wp2
  go_ret2
  exact ⟨rfl, rfl⟩
end Go.Proofs.Ytfodnbbpkonfpab
