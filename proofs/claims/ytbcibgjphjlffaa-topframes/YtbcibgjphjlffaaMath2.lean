/-
  THE PRODUCT OF TWO POLYNOMIALS as Join works it, in plain mathematics: by the power x^k it is k moves.
-/
import Derived.Test.YtbcibgjphjlffaaMath
namespace Go.Proofs.Ytbcibgjphjlffaa
namespace Crc
def mp : Nat → Nat → Nat → Nat
  | 0, _, _ => 0
  | j + 1, p, q => mp j p q ^^^ if p.testBit (31 - j) then mvN j q else 0
def one : Nat := 2147483648
theorem one_lt : one < 4294967296 := by decide
theorem mvN_comm (j k n : Nat) : mvN j (mvN k n) = mvN k (mvN j n) := by rw [← mvN_add, ← mvN_add, Nat.add_comm]
theorem mp_mv (j p k q : Nat) : mp j p (mvN k q) = mvN k (mp j p q) := by
  induction j with
  | zero => rw [mp, mp, mvN_zero]
  | succ j ih =>
    rw [mp, mp, ih, mvN_xor, mvN_comm j k]
    congr 1
    split
    · rfl
    · rw [mvN_zero]
theorem mp_lt (j p : Nat) {q : Nat} (h : q < 4294967296) : mp j p q < 4294967296 := by
  induction j with
  | zero => rw [mp]; omega
  | succ j ih =>
    rw [mp]
    refine xor_lt ih ?_
    split
    · exact mvN_lt j h
    · omega
theorem mvN_one {j : Nat} (h : j ≤ 31) : mvN j one = 2 ^ (31 - j) := by
  have e : one = 2 ^ (31 - j) * 2 ^ j := by rw [← Nat.pow_add, show 31 - j + j = 31 by omega]; rfl
  rw [e, mvN_shl]
theorem mp_one {j : Nat} (p i : Nat) (h : j ≤ 32) : (mp j p one).testBit i = (decide (32 - j ≤ i ∧ i < 32) && p.testBit i) := by
  induction j with
  | zero =>
    rw [mp, Nat.zero_testBit]
    have : ¬ (32 - 0 ≤ i ∧ i < 32) := by omega
    simp [this]
  | succ j ih =>
    rw [mp, Nat.testBit_xor, ih (by omega), mvN_one (by omega)]
    by_cases e : i = 31 - j
    · subst e
      have h1 : ¬ (32 - j ≤ 31 - j ∧ 31 - j < 32) := by omega
      have h2 : 32 - (j + 1) ≤ 31 - j ∧ 31 - j < 32 := by omega
      rw [decide_eq_false h1, decide_eq_true h2]
      cases hp : p.testBit (31 - j) <;> simp
    · have h3 : (32 - j ≤ i ∧ i < 32) ↔ (32 - (j + 1) ≤ i ∧ i < 32) := by omega
      have h4 : (if p.testBit (31 - j) = true then 2 ^ (31 - j) else 0).testBit i = false := by
        split
        · rw [Nat.testBit_two_pow]; simp; omega
        · exact Nat.zero_testBit i
      rw [h4, Bool.xor_false, decide_eq_decide.2 h3]
theorem mul_pow {p : Nat} (hp : p < 4294967296) (k : Nat) : mp 32 p (mvN k one) = mvN k p := by
  rw [mp_mv]
  congr 1
  apply Nat.eq_of_testBit_eq
  intro i
  rw [mp_one p i (by omega)]
  by_cases h : i < 32
  · simp [h]
  · rw [tb_false hp (by omega)]; simp
theorem top_bit {x : Nat} (h : x < 4294967296) : (x / 2147483648 = 1) = (x.testBit 31 = true) := by
  rw [Nat.testBit_eq_decide_div_mod_eq]
  have e : (2 : Nat) ^ 31 = 2147483648 := rfl
  rw [e]; simp; omega
theorem shl_bit {p j i : Nat} (h : i + j < 32) : (p * 2 ^ j % 4294967296).testBit (i + j) = p.testBit i := by
  rw [show (4294967296 : Nat) = 2 ^ 32 by rfl, Nat.testBit_mod_two_pow, Nat.testBit_mul_two_pow]
  simp [h]
theorem mp_rest {p q j : Nat} (h : p * 2 ^ j % 4294967296 = 0) (d : Nat) (hd : j + d ≤ 32) : mp (j + d) p q = mp j p q := by
  induction d with
  | zero => rfl
  | succ d ih =>
    rw [← Nat.add_assoc, mp, ih (by omega)]
    have e := shl_bit (p := p) (j := j) (i := 31 - (j + d)) (by omega)
    rw [h, Nat.zero_testBit] at e
    rw [← e]; simp
theorem go_mul {a n : Nat} (ha : a < 4294967296) {l : List Nat} (hl : Byt l) (hn : n = l.length) : mp 32 a (mvN (8 * n) one) ^^^ go 0 l = go a l := by
  rw [mul_pow ha, hn, ← go_join ha hl]
end Crc
end Go.Proofs.Ytbcibgjphjlffaa
