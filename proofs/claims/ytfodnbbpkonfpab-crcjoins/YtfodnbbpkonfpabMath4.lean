/-
  THE DOCUMENT'S PRODUCT OF POLYNOMIALS in plain mathematics: with the coefficients the other way round it is the product that Join works.
-/
import Derived.Test.YtfodnbbpkonfpabMath3
namespace Go.Proofs.Ytfodnbbpkonfpab
namespace Crc
def sm (f : Nat → Bool) : Nat → Nat → Nat
  | 0, _ => 0
  | j + 1, q => sm f j q ^^^ if f j then mvN j q else 0
theorem sm_front (f : Nat → Bool) (j q : Nat) : sm f (j + 1) q = (if f 0 then q else 0) ^^^ mv (sm (fun i => f (i + 1)) j q) := by
  induction j with
  | zero => simp [sm, mv_zero, mvN]
  | succ j ih =>
    rw [sm, ih, sm, mv_xor, Nat.xor_assoc]
    congr 2
    split
    · rw [mvN_succ']
    · rw [mv_zero]
theorem sm_congr {f g : Nat → Bool} (j q : Nat) (h : ∀ i, i < j → f i = g i) : sm f j q = sm g j q := by
  induction j with
  | zero => rfl
  | succ j ih => rw [sm, sm, ih (fun i hi => h i (by omega)), h j (by omega)]
theorem mp_sm (j p q : Nat) : mp j p q = sm (fun i => p.testBit (31 - i)) j q := by
  induction j with
  | zero => rfl
  | succ j ih => rw [mp, sm, ih]
theorem ho_succ (B j A : Nat) : sm (fun i => B.testBit (j + 1 - 1 - i)) (j + 1) A = mv (sm (fun i => B.testBit (j - 1 - i)) j A) ^^^ if B.testBit j then A else 0 := by
  rw [sm_front, Nat.xor_comm]
  congr 1
  congr 1
  exact sm_congr j A (fun i hi => by rw [show j + 1 - 1 - (i + 1) = j - 1 - i by omega])
theorem sm_lt (f : Nat → Bool) (j : Nat) {q : Nat} (h : q < 4294967296) : sm f j q < 4294967296 := by
  induction j with
  | zero => rw [sm]; omega
  | succ j ih =>
    rw [sm]
    refine xor_lt ih ?_
    split
    · exact mvN_lt j h
    · omega
theorem mp_lin (j p x y : Nat) : mp j p (x ^^^ y) = mp j p x ^^^ mp j p y := by
  induction j with
  | zero => simp [mp]
  | succ j ih =>
    rw [mp, mp, mp, ih]
    split
    · rw [mvN_xor, Nat.xor_assoc, Nat.xor_assoc, xlc (mp j p y)]
    · simp
theorem mp_zero (j p : Nat) : mp j p 0 = 0 := by
  induction j with
  | zero => rfl
  | succ j ih => rw [mp, ih, mvN_zero]; simp
theorem mp_swap {p : Nat} (hp : p < 4294967296) (j a : Nat) : mp 32 p (mp j a one) = mp j a p := by
  induction j with
  | zero => rw [mp, mp, mp_zero]
  | succ j ih =>
    have e1 : mp (j + 1) a one = mp j a one ^^^ if a.testBit (31 - j) then mvN j one else 0 := rfl
    have e2 : mp (j + 1) a p = mp j a p ^^^ if a.testBit (31 - j) then mvN j p else 0 := rfl
    rw [e1, e2, mp_lin, ih]
    congr 1
    split
    · exact mul_pow hp j
    · rw [mp_zero]
theorem mp_comm {p a : Nat} (hp : p < 4294967296) (ha : a < 4294967296) : mp 32 p a = mp 32 a p := by
  have e : mp 32 a one = a := by
    have := mul_pow ha 0
    rw [mvN, mvN] at this; exact this
  have h := mp_swap hp 32 a
  rw [e] at h; exact h
theorem tu_xor (x y : Nat) : tu (x ^^^ y) = tu x ^^^ tu y := by
  apply Nat.eq_of_testBit_eq
  intro i
  rw [Nat.testBit_xor, tu_bit, tu_bit, tu_bit, Nat.testBit_xor]
  cases decide (i < 32) <;> simp
/-- the document's product -/
def tm (a b : Nat) : Nat := tu (mp 32 (tu b) (tu a))
theorem tm_lt (a b : Nat) : tm a b < 4294967296 := tu_lt _
theorem tu_tm (a b : Nat) : tu (tm a b) = mp 32 (tu b) (tu a) := tu_tu (mp_lt 32 _ (tu_lt a))
theorem tm_end {a b r : Nat} (hr : r < 4294967296) (h : tu r = sm (fun i => (tu b).testBit (32 - 1 - i)) 32 (tu a)) : r = tm a b := by
  unfold tm
  rw [mp_sm, ← h, tu_tu hr]
theorem tm_step {a b r j : Nat} (hr : r < 4294967296) (hj : j < 32) (h : tu r = sm (fun i => (tu b).testBit (j - 1 - i)) j (tu a)) :
    tu (rs r 0 ^^^ if b.testBit (31 - j) then a else 0) = sm (fun i => (tu b).testBit (j + 1 - 1 - i)) (j + 1) (tu a) := by
  rw [tu_xor, tu_rs hr (by omega), Nat.zero_mul, Nat.xor_zero, h, ho_succ, tu_bit b j, decide_eq_true hj, Bool.true_and]
  congr 1
  split
  · rfl
  · decide
theorem tm_powers {x y a b : Nat} (hx : tu x = mvN a one) (hy : tu y = mvN b one) : tu (tm x y) = mvN (a + b) one := by
  rw [tu_tm, hx, hy, mul_pow (mvN_lt b one_lt), ← mvN_add, Nat.add_comm]
theorem tm_join {a p k : Nat} (ha : a < 4294967296) (hp : tu p = mvN k one) : tu (tm (tu a) p) = mvN k a := by
  rw [tu_tm, hp, tu_tu ha, mp_comm (mvN_lt k one_lt) ha, mul_pow ha]
theorem tu_one : tu 1 = mvN 0 one := by decide
theorem tu_256 : tu 256 = mvN 8 one := by decide
end Crc
end Go.Proofs.Ytfodnbbpkonfpab
