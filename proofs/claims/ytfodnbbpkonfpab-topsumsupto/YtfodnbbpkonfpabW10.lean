/-
  THE WALKS OF multiply, byZeros, Join.
-/
import Derived.Test.YtfodnbbpkonfpabW9
import Derived.Test.YtfodnbbpkonfpabMath2
import Derived.Deep.LoopGhost
namespace Go.Proofs.Ytfodnbbpkonfpab
open Go.RowKit
theorem shl_succ (p j : Nat) : p * 2 ^ j % 4294967296 * 2 % 4294967296 = p * 2 ^ (j + 1) % 4294967296 := by
  rw [Nat.mod_mul_mod, Nat.pow_succ, Nat.mul_assoc]
set_option maxRecDepth 100000 in
set_option maxHeartbeats 400000 in
theorem multiply_any (p q : Nat) (w : World) (hp : p < 4294967296) (hq : q < 4294967296) :
    Calls Try.prog 16 #[.int .u32 (p : Int), .int .u32 (q : Int)] w fun e w' => e = .returned (.int .u32 ((Crc.mp 32 p q : Nat) : Int)) ∧ w' = w := by
  go_enter Try.func16, Try.ntmps16
  go_wp2
  go_loopg [0, 1, 5] 32 (fun g x y z wx => w = wx ∧ ∃ j r : Nat, j ≤ 32 ∧ g = 32 - j ∧ r = p * 2 ^ j % 4294967296 ∧ x = .int .u32 (r : Int) ∧ y = .int .u32 ((Crc.mvN j q : Nat) : Int) ∧ z = .int .u32 ((Crc.mp j p q : Nat) : Int))
  case atStart => exact ⟨rfl, 0, p, by omega, rfl, by rw [Nat.pow_zero, Nat.mul_one, Nat.mod_eq_of_lt hp], rfl, rfl, rfl⟩
  case round =>
    obtain ⟨rfl, j, r, hj, rfl, hr, rfl, rfl, rfl⟩ := hrel
    have lr : r < 4294967296 := by omega
    have lq := Crc.mvN_lt j hq
    have lm := Crc.mp_lt j p hq
    have ltop := Crc.top_bit lr
    by_cases h0 : r = 0
    · have HE : Hid (Crc.mp j p q = Crc.mp 32 p q) := by
        show Crc.mp j p q = Crc.mp 32 p q
        rw [← Crc.mp_rest (q := q) (j := j) (p := p) (by rw [← hr, h0]) (32 - j) (by omega), show j + (32 - j) = 32 by omega]
      subst h0
      clear hr ltop
      go_wp2
      go_ret
      exact ⟨ret_int (congrArg _ HE.out), rfl⟩
    · have hlt : j < 32 := by
        refine Nat.lt_of_not_le fun h => h0 ?_
        obtain rfl : j = 32 := by omega
        rw [hr, show (2 : Nat) ^ 32 = 4294967296 by rfl, Nat.mul_mod_left]
      have hb : r.testBit 31 = p.testBit (31 - j) := by
        have := Crc.shl_bit (p := p) (j := j) (i := 31 - j) (by omega)
        rw [← hr, show 31 - j + j = 31 by omega] at this; exact this
      have HN : Hid (r * 2 % 4294967296 = p * 2 ^ (j + 1) % 4294967296) := by
        show r * 2 % 4294967296 = p * 2 ^ (j + 1) % 4294967296
        rw [hr, shl_succ]
      have hne : ((r : Int) != 0) = true := by simp; omega
      by_cases ht : r / 2147483648 = 1
      · have HM : Hid (Crc.mp (j + 1) p q = Crc.mp j p q ^^^ Crc.mvN j q) := by
          show Crc.mp (j + 1) p q = Crc.mp j p q ^^^ Crc.mvN j q
          rw [Crc.mp, ← hb, if_pos (ltop ▸ ht)]
        have hte : ((r : Int) / 2147483648 == 1) = true := by simp; omega
        clear hr ltop hb h0 ht
        go_wp2_with (go_at_call 26; refine (moveBit_any _ _ lq).mono ?_; rintro e w' ⟨rfl, rfl⟩)
        go_roundg (32 - (j + 1))
        case measure => omega
        case rel => exact ⟨rfl, j + 1, r * 2 % 4294967296, by omega, rfl, HN.out, rfl, by rw [Crc.mvN_succ'], by rw [HM.out, ← bxor lm lq]⟩
      · have HM : Hid (Crc.mp (j + 1) p q = Crc.mp j p q) := by
          show Crc.mp (j + 1) p q = Crc.mp j p q
          rw [Crc.mp, ← hb, if_neg (ltop ▸ ht), Nat.xor_zero]
        have hte : ((r : Int) / 2147483648 == 1) = false := by simp; omega
        clear hr ltop hb h0 ht
        go_wp2_with (go_at_call 26; refine (moveBit_any _ _ lq).mono ?_; rintro e w' ⟨rfl, rfl⟩)
        go_roundg (32 - (j + 1))
        case measure => omega
        case rel => exact ⟨rfl, j + 1, r * 2 % 4294967296, by omega, rfl, HN.out, rfl, by rw [Crc.mvN_succ'], by rw [HM.out]⟩
theorem mul_powers (a b : Nat) : Crc.mp 32 (Crc.mvN a Crc.one) (Crc.mvN b Crc.one) = Crc.mvN (a + b) Crc.one := by
  rw [Crc.mul_pow (Crc.mvN_lt a Crc.one_lt), ← Crc.mvN_add]
theorem multiply_powers (a b : Nat) (w : World) :
    Calls Try.prog 16 #[.int .u32 ((Crc.mvN a Crc.one : Nat) : Int), .int .u32 ((Crc.mvN b Crc.one : Nat) : Int)] w fun e w' => e = .returned (.int .u32 ((Crc.mvN (a + b) Crc.one : Nat) : Int)) ∧ w' = w := by
  rw [← mul_powers]; exact multiply_any _ _ w (Crc.mvN_lt a Crc.one_lt) (Crc.mvN_lt b Crc.one_lt)
theorem and1_i64 (m : Nat) (h : m < 9223372036854775808) : bits .and .i64 (m : Int) 1 = ((m % 2 : Nat) : Int) := by
  have h1 : (BitVec.ofInt 64 1).toNat = 2 ^ 1 - 1 := by decide
  have key : (BitVec.ofInt 64 (m : Int) &&& BitVec.ofInt 64 1).toNat = ((m : Int) % ((2 ^ 64 : Nat) : Int)).toNat % 2 ^ 1 := by
    rw [BitVec.toNat_and, BitVec.toNat_ofInt, h1, Nat.and_two_pow_sub_one_eq_mod]
  show IntKind.i64.wrap ((BitVec.ofInt 64 (m : Int) &&& BitVec.ofInt 64 1).toNat : Nat) = ((m % 2 : Nat) : Int)
  rw [key, IntKind.wrap_i64]
  omega
set_option maxRecDepth 100000 in
set_option maxHeartbeats 400000 in
theorem byZeros_any (n : Nat) (w : World) (hn : n ≤ maxLen) :
    Calls Try.prog 17 #[.int .i64 (n : Int)] w fun e w' => e = .returned (.int .u32 ((Crc.mvN (8 * n) Crc.one : Nat) : Int)) ∧ w' = w := by
  unfold maxLen at hn
  go_enter Try.func17, Try.ntmps17
  go_wp2
  go_loop [0, 3, 4] (fun x y z => ∃ m a b : Nat, m ≤ n ∧ a + b * m = n ∧ x = .int .i64 (m : Int) ∧ y = .int .u32 ((Crc.mvN (8 * a) Crc.one : Nat) : Int) ∧ z = .int .u32 ((Crc.mvN (8 * b) Crc.one : Nat) : Int)) (fun x _ _ => (intOf x).toNat)
  case atStart => exact ⟨n, 0, 1, by omega, by omega, rfl, rfl, rfl⟩
  case round =>
    obtain ⟨m, a, b, hm, hab, rfl, rfl, rfl⟩ := hrel
    by_cases h0 : m = 0
    · subst h0
      have HE : Hid (8 * a = 8 * n) := by show 8 * a = 8 * n; omega
      clear hab
      go_wp2
      go_ret
      exact ⟨ret_int (by rw [HE.out]), rfl⟩
    · have hpos : (0 : Int) < (m : Int) := by omega
      have HA := and1_i64 m (by omega)
      rcases Nat.mod_two_eq_zero_or_one m with h2 | h2
      · have hte : (bits .and .i64 (m : Int) 1 == 1) = false := by rw [HA, h2]; rfl
        have HN : Hid (a + 2 * b * (m / 2) = n) := by
          show a + 2 * b * (m / 2) = n
          rw [← hab, Nat.mul_comm 2 b, Nat.mul_assoc, show 2 * (m / 2) = m by omega]
        clear HA hab h0 h2
        go_wp2_with (go_at_call 16; refine (multiply_powers _ _ _).mono ?_; rintro e w' ⟨rfl, rfl⟩)
        go_round
        case rel => exact ⟨m / 2, a, 2 * b, by omega, HN.out, rfl, rfl, by rw [show 8 * b + 8 * b = 8 * (2 * b) by omega]⟩
        case measure => simp [intOf]; omega
      · have hte : (bits .and .i64 (m : Int) 1 == 1) = true := by rw [HA, h2]; rfl
        have HN : Hid (a + b + 2 * b * (m / 2) = n) := by
          show a + b + 2 * b * (m / 2) = n
          rw [← hab, Nat.mul_comm 2 b, Nat.mul_assoc, Nat.add_assoc, Nat.add_comm b, ← Nat.mul_succ, show (2 * (m / 2)).succ = m by omega]
        clear HA hab h0 h2
        go_wp2_with (go_at_call 16; refine (multiply_powers _ _ _).mono ?_; rintro e w' ⟨rfl, rfl⟩)
        go_round
        case rel => exact ⟨m / 2, a + b, 2 * b, by omega, HN.out, rfl, by rw [show 8 * a + 8 * b = 8 * (a + b) by omega], by rw [show 8 * b + 8 * b = 8 * (2 * b) by omega]⟩
        case measure => simp [intOf]; omega
set_option maxRecDepth 100000 in
set_option maxHeartbeats 400000 in
theorem join_any (a b n : Nat) (w : World) (ha : a < 4294967296) (hb : b < 4294967296) (hn : n ≤ maxLen) :
    Calls Try.prog 6 #[.int .u32 (a : Int), .int .u32 (b : Int), .int .i64 (n : Int)] w fun e w' => e = .returned (.tuple #[.int .u32 ((Crc.mvN (8 * n) a ^^^ b : Nat) : Int), .int .i64 0]) ∧ w' = w := by
  have lp := Crc.mvN_lt (8 * n) Crc.one_lt
  have HB := byZeros_any n w hn
  have HM := multiply_any a _ w ha lp
  rw [Crc.mul_pow ha] at HM
  have HX : Hid (bits .xor .u32 ((Crc.mvN (8 * n) a : Nat) : Int) (b : Int) = _) := bxor (Crc.mvN_lt (8 * n) ha) hb
  have H1 : Hid _ := HB
  have H2 : Hid _ := HM
  clear HB HM
  have h0 : ¬ (n : Int) < 0 := by omega
  go_enter Try.func6, Try.ntmps6
  go_wp2_with (first | (go_at_call 17; refine Calls.mono H1.out ?_; rintro e w' ⟨rfl, rfl⟩) | (go_at_call 16; refine Calls.mono H2.out ?_; rintro e w' ⟨rfl, rfl⟩))
  go_ret2
  exact ⟨by rw [HX.out]; rfl, rfl⟩
set_option maxRecDepth 100000 in
set_option maxHeartbeats 400000 in
theorem join_neg (a b n : Int) (w : World) (hn : n < 0) :
    Calls Try.prog 6 #[.int .u32 a, .int .u32 b, .int .i64 n] w fun e w' => e = .returned (.tuple #[.int .u32 0, .int .i64 10]) ∧ w' = w := by
  go_enter Try.func6, Try.ntmps6
  go_wp2
  go_ret2
  exact ⟨rfl, rfl⟩
end Go.Proofs.Ytfodnbbpkonfpab
