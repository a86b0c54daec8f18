/-
  THE PLAIN MATHEMATICS OF THE SUM, proved of natural numbers and without any condition beyond those that each row bears: a state moved by one bit is linear (exclusive or), so a sum is one number moved so often; tables by one byte and by eight, joining, four bytes that make a sum, runs of turned bits.
  THE WALKS OF THE SMALL FUNCTIONS of package crc: each call answers what the plain function of the text Math says, and leaves the world as it was.
-/
import Derived.Test.YtabfgoojhangnaaRows
import Derived.WalkKit
import Derived.WalkSpells
import Derived.WalkLawsBesides
import Derived.Laws.BitsAllLaws
namespace Go.Proofs.Ytabfgoojhangnaa
namespace Crc

def mv (n : Nat) : Nat := if n % 2 = 1 then n / 2 ^^^ 2197175160 else n / 2
def mvN : Nat → Nat → Nat
  | 0, n => n
  | k + 1, n => mvN k (mv n)
def nt (n : Nat) : Nat := 4294967295 - n
def fe (s : Nat) (l : List Nat) : Nat := l.foldl (fun s b => mvN 8 (s ^^^ b)) s
theorem fe_nil (s : Nat) : fe s [] = s := by unfold fe; rw [List.foldl_nil]
theorem fe_cons (s b : Nat) (l : List Nat) : fe s (b :: l) = fe (mvN 8 (s ^^^ b)) l := by unfold fe; rw [List.foldl_cons]
def go (s : Nat) (l : List Nat) : Nat := nt (fe (nt s) l)
def num : List Nat → Nat
  | [] => 0
  | b :: l => b ^^^ num l * 256
def Byt (l : List Nat) : Prop := ∀ x ∈ l, x < 256

theorem xlc (a b c : Nat) : a ^^^ (b ^^^ c) = b ^^^ (a ^^^ c) := by
  rw [← Nat.xor_assoc, Nat.xor_comm a b, Nat.xor_assoc]
theorem xcc (a b : Nat) : a ^^^ (a ^^^ b) = b := by rw [← Nat.xor_assoc, Nat.xor_self, Nat.zero_xor]
theorem xor_lt {a b : Nat} (ha : a < 4294967296) (hb : b < 4294967296) : a ^^^ b < 4294967296 := Nat.xor_lt_two_pow (n := 32) ha hb
theorem xor_lt8 {a b : Nat} (ha : a < 256) (hb : b < 256) : a ^^^ b < 256 := Nat.xor_lt_two_pow (n := 8) ha hb
theorem xor_eq_zero {a b : Nat} (h : a ^^^ b = 0) : a = b := by
  have := xcc a b; rw [h, Nat.xor_zero] at this; exact this
theorem xor_mod_two (a b : Nat) : (a ^^^ b) % 2 = (a % 2) ^^^ (b % 2) := Nat.xor_mod_two_pow (n := 1)

theorem mv_xor (a b : Nat) : mv (a ^^^ b) = mv a ^^^ mv b := by
  unfold mv
  rw [xor_mod_two, Nat.xor_div_two]
  rcases Nat.mod_two_eq_zero_or_one a with ha | ha <;> rcases Nat.mod_two_eq_zero_or_one b with hb | hb <;> rw [ha, hb] <;> simp
  · rw [Nat.xor_assoc]
  · rw [Nat.xor_assoc, Nat.xor_assoc, Nat.xor_comm (b / 2)]
  · rw [Nat.xor_assoc, xlc 2197175160, Nat.xor_self, Nat.xor_zero]
theorem mvN_xor (k a b : Nat) : mvN k (a ^^^ b) = mvN k a ^^^ mvN k b := by
  induction k generalizing a b with
  | zero => rfl
  | succ k ih => simp only [mvN]; rw [mv_xor, ih]
theorem mvN_add (j k n : Nat) : mvN (j + k) n = mvN k (mvN j n) := by
  induction j generalizing n with
  | zero => simp [mvN]
  | succ j ih => rw [show j + 1 + k = (j + k) + 1 by omega]; simp only [mvN]; rw [ih]
theorem mvN_succ' (k n : Nat) : mvN (k + 1) n = mv (mvN k n) := by rw [mvN_add k 1]; rfl
theorem mv_zero : mv 0 = 0 := by decide
theorem mvN_zero (k : Nat) : mvN k 0 = 0 := by
  induction k with
  | zero => rfl
  | succ k ih => simp only [mvN]; rw [mv_zero, ih]
theorem mv_two (x : Nat) : mv (x * 2) = x := by
  unfold mv; rw [if_neg (by omega)]; omega
theorem mvN_shl (k x : Nat) : mvN k (x * 2 ^ k) = x := by
  induction k generalizing x with
  | zero => simp [mvN]
  | succ k ih => simp only [mvN]; rw [Nat.pow_succ, ← Nat.mul_assoc, mv_two, ih]
theorem mvN_shl_add (j k x : Nat) : mvN (j + k) (x * 2 ^ j) = mvN k x := by rw [mvN_add, mvN_shl]
theorem mv_lt {n : Nat} (h : n < 4294967296) : mv n < 4294967296 := by
  unfold mv; split
  · exact xor_lt (by omega) (by omega)
  · omega
theorem mvN_lt (k : Nat) {n : Nat} (h : n < 4294967296) : mvN k n < 4294967296 := by
  induction k generalizing n with
  | zero => exact h
  | succ k ih => exact ih (mv_lt h)

def bk (m : Nat) : Nat := if m / 2147483648 = 1 then ((m ^^^ 2197175160) * 2 % 4294967296) ||| 1 else m * 2 % 4294967296
def bkN : Nat → Nat → Nat
  | 0, n => n
  | k + 1, n => bkN k (bk n)
theorem or_one (x : Nat) : (x * 2) ||| 1 = x * 2 + 1 := by
  have := Nat.two_pow_add_eq_or_of_lt (i := 1) (b := 1) (by omega) x
  rw [Nat.mul_comm x 2]; simpa using this.symm
theorem top_xor {m : Nat} (_h : m < 4294967296) (h1 : m / 2147483648 = 1) : m ^^^ 2197175160 < 2147483648 := by
  have e : (m ^^^ 2197175160) / 2 ^ 31 = m / 2 ^ 31 ^^^ 2197175160 / 2 ^ 31 := Nat.xor_div_two_pow
  have e2 : (2 : Nat) ^ 31 = 2147483648 := rfl
  rw [e2, h1] at e
  have e3 : (1 : Nat) ^^^ 2197175160 / 2147483648 = 0 := by decide
  rw [e3] at e
  omega
theorem mv_bk {m : Nat} (h : m < 4294967296) : mv (bk m) = m := by
  unfold bk
  by_cases h1 : m / 2147483648 = 1
  · rw [if_pos h1]
    have t := top_xor h h1
    rw [Nat.mod_eq_of_lt (by omega), or_one]
    unfold mv; rw [if_pos (by omega), show ((m ^^^ 2197175160) * 2 + 1) / 2 = m ^^^ 2197175160 by omega, Nat.xor_assoc, Nat.xor_self, Nat.xor_zero]
  · rw [if_neg h1, Nat.mod_eq_of_lt (by omega), mv_two]
theorem bk_lt {m : Nat} (h : m < 4294967296) : bk m < 4294967296 := by
  unfold bk
  by_cases h1 : m / 2147483648 = 1
  · rw [if_pos h1]
    have t := top_xor h h1
    rw [Nat.mod_eq_of_lt (by omega), or_one]; omega
  · rw [if_neg h1]; omega
theorem bkN_lt (k : Nat) {m : Nat} (h : m < 4294967296) : bkN k m < 4294967296 := by
  induction k generalizing m with
  | zero => exact h
  | succ k ih => exact ih (bk_lt h)
theorem bkN_succ' (k n : Nat) : bkN (k + 1) n = bk (bkN k n) := by
  induction k generalizing n with
  | zero => rfl
  | succ k ih => rw [bkN, ih]; rfl
theorem mvN_bkN (k : Nat) {m : Nat} (h : m < 4294967296) : mvN k (bkN k m) = m := by
  induction k with
  | zero => rfl
  | succ k ih => rw [bkN_succ']; simp only [mvN]; rw [mv_bk (bkN_lt k h), ih]
theorem mv_eq_zero {n : Nat} (h : n < 4294967296) (e : mv n = 0) : n = 0 := by
  unfold mv at e
  split at e
  · have := xor_eq_zero e; omega
  · omega
theorem mvN_eq_zero (k : Nat) {n : Nat} (h : n < 4294967296) (e : mvN k n = 0) : n = 0 := by
  induction k generalizing n with
  | zero => exact e
  | succ k ih => exact mv_eq_zero h (ih (mv_lt h) e)

theorem tb_false {n i : Nat} (h : n < 4294967296) (hi : 32 ≤ i) : n.testBit i = false := by
  apply Nat.testBit_lt_two_pow
  have h1 : (2 : Nat) ^ 32 ≤ 2 ^ i := Nat.pow_le_pow_right (by decide) hi
  have e : (2 : Nat) ^ 32 = 4294967296 := rfl
  omega
theorem nt_lt (n : Nat) : nt n < 4294967296 := by unfold nt; omega
theorem nt_nt {n : Nat} (h : n < 4294967296) : nt (nt n) = n := by unfold nt; omega
theorem nt_xor {n : Nat} (h : n < 4294967296) : nt n = n ^^^ 4294967295 := by
  apply Nat.eq_of_testBit_eq
  intro i
  have e : nt n = 2 ^ 32 - (n + 1) := by unfold nt; omega
  rw [e, Nat.testBit_two_pow_sub_succ (by omega), Nat.testBit_xor, show (4294967295 : Nat) = 2 ^ 32 - 1 by rfl, Nat.testBit_two_pow_sub_one]
  by_cases hi : i < 32
  · simp [hi]
  · have := tb_false h (by omega : 32 ≤ i)
    simp [hi, this]
theorem nt_xor_nt {a b : Nat} (ha : a < 4294967296) (hb : b < 4294967296) : nt a ^^^ nt b = a ^^^ b := by
  rw [nt_xor ha, nt_xor hb, Nat.xor_assoc, xlc 4294967295, Nat.xor_self, Nat.xor_zero]

theorem fe_num (s : Nat) (l : List Nat) : fe s l = mvN (8 * l.length) (s ^^^ num l) := by
  induction l generalizing s with
  | nil => rw [fe_nil, List.length_nil, num, Nat.mul_zero, mvN, Nat.xor_zero]
  | cons b l ih =>
    rw [fe_cons, num, List.length_cons, ih, show 8 * (l.length + 1) = 8 + 8 * l.length by omega, mvN_add, ← Nat.xor_assoc, mvN_xor 8 (s ^^^ b) (num l * 256), show mvN 8 (num l * 256) = num l from mvN_shl 8 (num l)]
theorem fe_append (s : Nat) (a b : List Nat) : fe s (a ++ b) = fe (fe s a) b := by
  unfold fe; rw [List.foldl_append]
theorem fe_lt {s : Nat} {l : List Nat} (hs : s < 4294967296) (hl : Byt l) : fe s l < 4294967296 := by
  induction l generalizing s with
  | nil => rw [fe_nil]; exact hs
  | cons b l ih =>
    rw [fe_cons]
    exact ih (mvN_lt 8 (xor_lt hs (by have := hl b (by simp); omega))) (fun x hx => hl x (by simp [hx]))
theorem go_lt (s : Nat) (l : List Nat) : go s l < 4294967296 := nt_lt _
theorem go_nil {s : Nat} (h : s < 4294967296) : go s [] = s := by unfold go; rw [fe_nil]; exact nt_nt h
theorem go_append {s : Nat} {a : List Nat} (b : List Nat) (ha : Byt a) : go s (a ++ b) = go (go s a) b := by
  unfold go
  rw [fe_append, nt_nt (fe_lt (nt_lt s) ha)]

/-! the step by one table, by eight -/
def tb (k b : Nat) : Nat := mvN (8 * (k + 1)) b
theorem split_at (k s : Nat) : s = s % 2 ^ k ^^^ s / 2 ^ k * 2 ^ k := by
  apply Nat.eq_of_testBit_eq
  intro i
  rw [Nat.testBit_xor, Nat.testBit_mod_two_pow, Nat.testBit_mul_two_pow, Nat.testBit_div_two_pow]
  by_cases h : i < k
  · have h' : ¬ k ≤ i := by omega
    simp [h, h']
  · have h' : k ≤ i := by omega
    simp [h, h', Nat.sub_add_cancel h']
theorem split256 (s : Nat) : s = s % 256 ^^^ s / 256 * 256 := split_at 8 s
theorem step_tb (s b : Nat) : mvN 8 (s ^^^ b) = tb 0 (s % 256 ^^^ b) ^^^ s / 256 := by
  have e : s ^^^ b = (s % 256 ^^^ b) ^^^ s / 256 * 2 ^ 8 := by
    have h := split256 s
    rw [show (2 : Nat) ^ 8 = 256 by rfl, Nat.xor_assoc, Nat.xor_comm b, ← Nat.xor_assoc, ← h]
  rw [e, mvN_xor, mvN_shl]; rfl
theorem step_tb0 (s : Nat) : mvN 8 s = tb 0 (s % 256) ^^^ s / 256 := by
  have := step_tb s 0; simpa using this
theorem tb_succ (k b : Nat) : tb (k + 1) b = tb 0 (tb k b % 256) ^^^ tb k b / 256 := by
  rw [← step_tb0]; unfold tb; rw [show 8 * (k + 1 + 1) = 8 * (k + 1) + 8 by omega, mvN_add]
theorem tb_lt (k : Nat) {b : Nat} (h : b < 256) : tb k b < 4294967296 := mvN_lt _ (by omega)
theorem tb_xor (k a b : Nat) : tb k (a ^^^ b) = tb k a ^^^ tb k b := mvN_xor _ _ _
theorem tb01 : tb 0 1 ≠ 0 := by decide

theorem split4 {x : Nat} (h : x < 4294967296) : x = x % 256 ^^^ (x / 256 % 256 * 2 ^ 8 ^^^ (x / 65536 % 256 * 2 ^ 16 ^^^ x / 16777216 % 256 * 2 ^ 24)) := by
  apply Nat.eq_of_testBit_eq
  intro i
  rw [show (256 : Nat) = 2 ^ 8 by rfl, show (65536 : Nat) = 2 ^ 16 by rfl, show (16777216 : Nat) = 2 ^ 24 by rfl]
  simp only [Nat.testBit_xor, Nat.testBit_mod_two_pow, Nat.testBit_mul_two_pow, Nat.testBit_div_two_pow]
  by_cases h1 : i < 8
  · have a1 : ¬ 8 ≤ i := by omega
    have a2 : ¬ 16 ≤ i := by omega
    have a3 : ¬ 24 ≤ i := by omega
    simp [h1, a1, a2, a3]
  by_cases h2 : i < 16
  · have a1 : 8 ≤ i := by omega
    have a2 : ¬ 16 ≤ i := by omega
    have a3 : ¬ 24 ≤ i := by omega
    have a4 : i - 8 < 8 := by omega
    simp [h1, a1, a2, a3, a4]
  by_cases h3 : i < 24
  · have a1 : 8 ≤ i := by omega
    have a2 : 16 ≤ i := by omega
    have a3 : ¬ 24 ≤ i := by omega
    have a4 : i - 16 < 8 := by omega
    have a5 : ¬ i - 8 < 8 := by omega
    simp [h1, a1, a2, a3, a4, a5]
  by_cases h4 : i < 32
  · have a1 : 8 ≤ i := by omega
    have a2 : 16 ≤ i := by omega
    have a3 : 24 ≤ i := by omega
    have a4 : i - 24 < 8 := by omega
    have a5 : ¬ i - 8 < 8 := by omega
    have a6 : ¬ i - 16 < 8 := by omega
    simp [h1, a1, a2, a3, a4, a5, a6]
  · have a4 : ¬ i - 24 < 8 := by omega
    have a5 : ¬ i - 8 < 8 := by omega
    have a6 : ¬ i - 16 < 8 := by omega
    have := tb_false h (by omega : 32 ≤ i)
    simp [h1, a4, a5, a6, this]
/-- four moves of a table each -/
theorem four_tb (k : Nat) {x : Nat} (h : x < 4294967296) :
    mvN (32 + 8 * k) x = tb (k + 3) (x % 256) ^^^ (tb (k + 2) (x / 256 % 256) ^^^ (tb (k + 1) (x / 65536 % 256) ^^^ tb k (x / 16777216 % 256))) := by
  have e := split4 h
  rw [show mvN (32 + 8 * k) x = mvN (32 + 8 * k) (x % 256 ^^^ (x / 256 % 256 * 2 ^ 8 ^^^ (x / 65536 % 256 * 2 ^ 16 ^^^ x / 16777216 % 256 * 2 ^ 24))) from congrArg _ e]
  rw [mvN_xor, mvN_xor, mvN_xor]
  rw [show mvN (32 + 8 * k) (x / 256 % 256 * 2 ^ 8) = tb (k + 2) (x / 256 % 256) by
    rw [show 32 + 8 * k = 8 + 8 * (k + 2 + 1) by omega, mvN_shl_add]; rfl]
  rw [show mvN (32 + 8 * k) (x / 65536 % 256 * 2 ^ 16) = tb (k + 1) (x / 65536 % 256) by
    rw [show 32 + 8 * k = 16 + 8 * (k + 1 + 1) by omega, mvN_shl_add]; rfl]
  rw [show mvN (32 + 8 * k) (x / 16777216 % 256 * 2 ^ 24) = tb k (x / 16777216 % 256) by
    rw [show 32 + 8 * k = 24 + 8 * (k + 1) by omega, mvN_shl_add]; rfl]
  rw [show 32 + 8 * k = 8 * (k + 3 + 1) by omega]; rfl
def le4 (a b c d : Nat) : Nat := a ||| b * 256 ||| c * 65536 ||| d * 16777216
theorem or_shl (k x y : Nat) (h : x < 2 ^ k) : x ||| y * 2 ^ k = x ^^^ y * 2 ^ k := by
  apply Nat.eq_of_testBit_eq
  intro i
  rw [Nat.testBit_or, Nat.testBit_xor, Nat.testBit_mul_two_pow]
  by_cases hi : k ≤ i
  · have : x.testBit i = false := Nat.testBit_lt_two_pow (Nat.lt_of_lt_of_le h (Nat.pow_le_pow_right (by omega) hi))
    simp [this]
  · simp [hi]
theorem num4 {a b c d : Nat} (ha : a < 256) (hb : b < 256) (hc : c < 256) (_hd : d < 256) : le4 a b c d = num [a, b, c, d] := by
  unfold le4
  have e1 : a ||| b * 256 = a ^^^ b * 256 := or_shl 8 a b (by omega)
  have l1 : a ^^^ b * 256 < 2 ^ 16 := Nat.xor_lt_two_pow (by omega) (by omega)
  have e2 : (a ^^^ b * 256) ||| c * 65536 = (a ^^^ b * 256) ^^^ c * 65536 := or_shl 16 _ c l1
  have l2 : (a ^^^ b * 256) ^^^ c * 65536 < 2 ^ 24 := Nat.xor_lt_two_pow (Nat.lt_of_lt_of_le l1 (by decide)) (by omega)
  have e3 : ((a ^^^ b * 256) ^^^ c * 65536) ||| d * 16777216 = ((a ^^^ b * 256) ^^^ c * 65536) ^^^ d * 16777216 := or_shl 24 _ d l2
  rw [e1, e2, e3]
  simp only [num, Nat.zero_mul, Nat.xor_zero]
  have xm : ∀ x y : Nat, (x ^^^ y) * 256 = x * 256 ^^^ y * 256 := by
    intro x y
    have := Nat.shiftLeft_xor_distrib (i := 8) (a := x) (b := y)
    simpa [Nat.shiftLeft_eq] using this
  rw [xm, xm]
  rw [xm, show c * 256 * 256 = c * 65536 by omega, show d * 256 * 256 * 256 = d * 16777216 by omega, Nat.xor_assoc, Nat.xor_assoc]
theorem xor_mul256 (x y : Nat) : (x ^^^ y) * 256 = x * 256 ^^^ y * 256 := by
  have := Nat.shiftLeft_xor_distrib (i := 8) (a := x) (b := y)
  simpa [Nat.shiftLeft_eq] using this
theorem xor_mul_pow (k x y : Nat) : (x ^^^ y) * 2 ^ k = x * 2 ^ k ^^^ y * 2 ^ k := by
  have := Nat.shiftLeft_xor_distrib (i := k) (a := x) (b := y)
  simpa [Nat.shiftLeft_eq] using this
theorem num_append (a b : List Nat) : num (a ++ b) = num a ^^^ num b * 2 ^ (8 * a.length) := by
  induction a with
  | nil => simp [num]
  | cons x a ih =>
    simp only [List.cons_append, num, ih, List.length_cons]
    rw [xor_mul256, Nat.mul_assoc, show (256 : Nat) = 2 ^ 8 by rfl, ← Nat.pow_add, show 8 * a.length + 8 = 8 * (a.length + 1) by omega, Nat.xor_assoc]
theorem num_lt {l : List Nat} (h : Byt l) : num l < 2 ^ (8 * l.length) := by
  induction l with
  | nil => simp [num]
  | cons x l ih =>
    have hx := h x (by simp)
    have hl := ih (fun y hy => h y (by simp [hy]))
    simp only [num, List.length_cons]
    have e : 2 ^ (8 * (l.length + 1)) = 2 ^ (8 * l.length) * 256 := by rw [show 8 * (l.length + 1) = 8 * l.length + 8 by omega, Nat.pow_add]
    have p : 0 < 2 ^ (8 * l.length) := Nat.pow_pos (by omega)
    exact Nat.xor_lt_two_pow (by rw [e]; omega) (by rw [e]; exact (Nat.mul_lt_mul_right (by omega)).2 hl)
theorem num4_lt {a b c d : Nat} (ha : a < 256) (hb : b < 256) (hc : c < 256) (hd : d < 256) : num [a, b, c, d] < 4294967296 := by
  have b1 : Byt [a, b, c, d] := by intro x hx; simp at hx; rcases hx with rfl | rfl | rfl | rfl <;> assumption
  have h := num_lt b1
  have e : 2 ^ (8 * [a, b, c, d].length) = 4294967296 := by simp
  omega
/-- eight bytes by eight tables -/
theorem eight_tb {s a b c d e f g h : Nat} (hs : s < 4294967296) (ha : a < 256) (hb : b < 256) (hc : c < 256) (hd : d < 256) (he : e < 256) (hf : f < 256) (hg : g < 256) (hh : h < 256)
    {x y : Nat} (hx : x = s ^^^ le4 a b c d) (hy : y = le4 e f g h) :
    fe s [a, b, c, d, e, f, g, h] = (tb 7 (x % 256) ^^^ (tb 6 (x / 256 % 256) ^^^ (tb 5 (x / 65536 % 256) ^^^ tb 4 (x / 16777216 % 256)))) ^^^ (tb 3 (y % 256) ^^^ (tb 2 (y / 256 % 256) ^^^ (tb 1 (y / 65536 % 256) ^^^ tb 0 (y / 16777216 % 256)))) := by
  have n1 := num4 ha hb hc hd
  have n2 := num4 he hf hg hh
  have l1 : le4 a b c d < 4294967296 := by rw [n1]; exact num4_lt ha hb hc hd
  have l2 : le4 e f g h < 4294967296 := by rw [n2]; exact num4_lt he hf hg hh
  have hxl : x < 4294967296 := by rw [hx]; exact xor_lt hs l1
  have hyl : y < 4294967296 := by rw [hy]; exact l2
  have p1 := four_tb 4 hxl
  have p2 := four_tb 0 hyl
  rw [fe_num, show [a, b, c, d, e, f, g, h] = [a, b, c, d] ++ [e, f, g, h] from rfl, num_append, ← Nat.xor_assoc, ← n1, ← n2, ← hx, ← hy, mvN_xor]
  rw [show mvN (8 * ([a, b, c, d] ++ [e, f, g, h]).length) x = mvN (32 + 8 * 4) x from rfl, p1]
  rw [show mvN (8 * ([a, b, c, d] ++ [e, f, g, h]).length) (y * 2 ^ (8 * [a, b, c, d].length)) = mvN (32 + (32 + 8 * 0)) (y * 2 ^ 32) from rfl, mvN_shl_add, p2]

/-! Forge -/
def fg (s w : Nat) : Nat := bkN 32 (nt w) ^^^ nt s
def by4 (x : Nat) : List Nat := [x % 256, x / 256 % 256, x / 65536 % 256, x / 16777216 % 256]
theorem by4_byt (x : Nat) : Byt (by4 x) := by
  intro y hy; unfold by4 at hy; simp at hy; rcases hy with rfl | rfl | rfl | rfl <;> omega
theorem num_by4 {x : Nat} (h : x < 4294967296) : num (by4 x) = x := by
  simp only [by4, num, Nat.zero_mul, Nat.xor_zero]
  rw [xor_mul256, xor_mul256, xor_mul256]
  have e := split4 h
  rw [show x / 65536 % 256 * 256 * 256 = x / 65536 % 256 * 2 ^ 16 by omega, show x / 16777216 % 256 * 256 * 256 * 256 = x / 16777216 % 256 * 2 ^ 24 by omega]
  exact e.symm
theorem fg_lt (s w : Nat) : fg s w < 4294967296 := xor_lt (bkN_lt 32 (nt_lt w)) (nt_lt s)
theorem go_fg (s : Nat) {w : Nat} (hw : w < 4294967296) : go s (by4 (fg s w)) = w := by
  unfold go
  rw [fe_num, num_by4 (fg_lt s w)]
  unfold fg
  rw [xlc, Nat.xor_self, Nat.xor_zero, show 8 * (by4 _).length = 32 from rfl, mvN_bkN 32 (nt_lt w), nt_nt hw]

/-! what holds -/
theorem go_num {s : Nat} {l : List Nat} (hs : s < 4294967296) (hl : Byt l) : go s l = mvN (8 * l.length) ((s ^^^ 4294967295) ^^^ num l) ^^^ 4294967295 := by
  unfold go
  rw [nt_xor (fe_lt (nt_lt s) hl), fe_num, nt_xor hs]
theorem go_join {s : Nat} {l : List Nat} (hs : s < 4294967296) (hl : Byt l) : go s l = mvN (8 * l.length) s ^^^ go 0 l := by
  rw [go_num hs hl, go_num (by omega) hl, Nat.zero_xor, Nat.xor_assoc s, mvN_xor _ s, Nat.xor_assoc]
def zx (a b : List Nat) : List Nat := List.zipWith (· ^^^ ·) a b
theorem num_zx : ∀ (a b : List Nat), a.length = b.length → num (zx a b) = num a ^^^ num b := by
  intro a
  induction a with
  | nil => intro b h; cases b <;> simp_all [zx, num]
  | cons x a ih =>
    intro b h
    cases b with
    | nil => simp at h
    | cons y b =>
      have e : zx (x :: a) (y :: b) = (x ^^^ y) :: zx a b := rfl
      rw [e]
      simp only [num]
      rw [ih b (by simpa using h), xor_mul256, Nat.xor_assoc, Nat.xor_assoc, xlc y]
theorem num_zero (n : Nat) : num (List.replicate n 0) = 0 := by
  induction n with
  | zero => rfl
  | succ n ih => simp [List.replicate_succ, num, ih]
theorem byt_zero (n : Nat) : Byt (List.replicate n 0) := by intro x hx; have := List.eq_of_mem_replicate hx; omega
theorem byt_zx : ∀ {a b : List Nat}, Byt a → Byt b → Byt (zx a b) := by
  intro a
  induction a with
  | nil => intro b _ _ x hx; simp [zx] at hx
  | cons p a ih =>
    intro b ha hb
    cases b with
    | nil => intro x hx; simp [zx] at hx
    | cons q b =>
      intro x hx
      have e : zx (p :: a) (q :: b) = (p ^^^ q) :: zx a b := rfl
      rw [e] at hx
      simp only [List.mem_cons] at hx
      rcases hx with rfl | hx
      · exact xor_lt8 (ha p (by simp)) (hb q (by simp))
      · exact ih (fun y hy => ha y (by simp [hy])) (fun y hy => hb y (by simp [hy])) x hx
theorem go_put {a b : List Nat} (h : a.length = b.length) (ha : Byt a) (hb : Byt b) :
    go 0 (zx a b) = go 0 a ^^^ go 0 b ^^^ go 0 (List.replicate a.length 0) := by
  have lz : (zx a b).length = a.length := by simp [zx, h]
  rw [go_num (by omega) (byt_zx ha hb), go_num (by omega) ha, go_num (by omega) hb, go_num (by omega) (byt_zero _), num_zx a b h, num_zero, lz, ← h, List.length_replicate]
  simp only [Nat.zero_xor, Nat.xor_zero]
  rw [mvN_xor, mvN_xor, mvN_xor, mvN_xor]
  generalize mvN (8 * a.length) 4294967295 = F
  generalize mvN (8 * a.length) (num a) = A
  generalize mvN (8 * a.length) (num b) = B
  generalize 4294967295 = C
  have h1 : F ^^^ A ^^^ C ^^^ (F ^^^ B ^^^ C) ^^^ (F ^^^ C) = (F ^^^ F) ^^^ (C ^^^ C) ^^^ (F ^^^ (A ^^^ B) ^^^ C) := by ac_rfl
  rw [h1]; simp
theorem burst {a b : List Nat} {q t : Nat} (h : a.length = b.length) (ha : Byt a) (hb : Byt b) (e : num b = num a ^^^ q * 2 ^ t) (ht : t ≤ 8 * a.length) (hq : q < 4294967296) (h0 : q ≠ 0) : go 0 a ≠ go 0 b := by
  intro hh
  rw [go_num (by omega) ha, go_num (by omega) hb, e, ← h] at hh
  have e1 : mvN (8 * a.length) ((0 ^^^ 4294967295) ^^^ num a) = mvN (8 * a.length) ((0 ^^^ 4294967295) ^^^ (num a ^^^ q * 2 ^ t)) := by
    have := congrArg (· ^^^ 4294967295) hh
    simpa [Nat.xor_assoc] using this
  rw [← Nat.xor_assoc, mvN_xor _ _ (q * 2 ^ t)] at e1
  have e2 : mvN (8 * a.length) (q * 2 ^ t) = 0 := by
    have := congrArg (mvN (8 * a.length) ((0 ^^^ 4294967295) ^^^ num a) ^^^ ·) e1
    simp only [Nat.xor_self, xcc] at this; exact this.symm
  rw [show 8 * a.length = t + (8 * a.length - t) by omega, mvN_shl_add] at e2
  exact h0 (mvN_eq_zero _ hq e2)
theorem num_set (l : List Nat) (j r : Nat) (hj : j < l.length) : num (l.set j (l.getD j 0 ^^^ 2 ^ r)) = num l ^^^ 2 ^ (8 * j + r) := by
  induction l generalizing j with
  | nil => simp at hj
  | cons x l ih =>
    cases j with
    | zero => simp only [List.set_cons_zero, num, List.getD_cons_zero]; rw [Nat.xor_assoc, Nat.xor_assoc, Nat.xor_comm (2 ^ r)]; simp
    | succ j =>
      simp only [List.set_cons_succ, num, List.getD_cons_succ]
      rw [ih j (by simpa using hj), xor_mul256, show (256 : Nat) = 2 ^ 8 by rfl, ← Nat.pow_add, show 8 * j + r + 8 = 8 * (j + 1) + r by omega, Nat.xor_assoc]
end Crc
end Go.Proofs.Ytabfgoojhangnaa
namespace Go.Proofs.Ytabfgoojhangnaa
open Go.RowKit

theorem ret_int {k : IntKind} {a b : Int} (h : a = b) : Ending.returned (.int k a) = .returned (.int k b) := by rw [h]
theorem bxor {a b : Nat} (ha : a < 4294967296) (hb : b < 4294967296) : bits .xor .u32 (a : Int) (b : Int) = ((a ^^^ b : Nat) : Int) := u32_xor_nat a b ha hb
theorem band1 {n : Nat} (h : n < 4294967296) : bits .and .u32 (n : Int) 1 = ((n % 2 : Nat) : Int) := by
  have := u32_and_nat n 1 h (by omega)
  rw [show ((1 : Nat) : Int) = 1 from rfl] at this
  rw [this, Nat.and_one_is_mod]
theorem mv_odd {n : Nat} (h : n < 4294967296) (h1 : (bits .and .u32 (n : Int) 1 == 1) = true) : bits .xor .u32 ((n : Int) / 2) 2197175160 = ((Crc.mv n : Nat) : Int) := by
  rw [band1 h] at h1
  have e : n % 2 = 1 := by simp at h1; omega
  unfold Crc.mv
  rw [if_pos e, ← bxor (by omega) (by omega)]; rfl
theorem mv_even {n : Nat} (h : n < 4294967296) (h1 : (bits .and .u32 (n : Int) 1 == 1) = false) : ((n : Int) / 2) = ((Crc.mv n : Nat) : Int) := by
  rw [band1 h] at h1
  have e : ¬ n % 2 = 1 := by simp at h1; omega
  unfold Crc.mv
  rw [if_neg e]; rfl
set_option maxHeartbeats 400000 in
theorem moveBit_any (n : Nat) (w : World) (h : n < 4294967296) :
    Calls Try.prog 79 #[.int .u32 (n : Int)] w fun e w' => e = .returned (.int .u32 ((Crc.mv n : Nat) : Int)) ∧ w' = w := by
  go_enter Try.func79, Try.ntmps79
  go_wp2
  all_goals go_ret
  · exact ⟨ret_int (mv_odd h (by assumption)), rfl⟩
  · exact ⟨ret_int (mv_even h (by assumption)), rfl⟩
set_option maxHeartbeats 400000 in
theorem moveByte_any (n : Nat) (w : World) (h : n < 4294967296) :
    Calls Try.prog 59 #[.int .u32 (n : Int)] w fun e w' => e = .returned (.int .u32 ((Crc.mvN 8 n : Nat) : Int)) ∧ w' = w := by
  go_enter Try.func59, Try.ntmps59
  go_wp2
  go_loop [0, 3] (fun t i => ∃ k : Nat, k ≤ 8 ∧ i = .int .i64 k ∧ t = .int .u32 ((Crc.mvN k n : Nat) : Int)) (fun _ i => 8 - (intOf i).toNat)
  case atStart => exact ⟨0, Nat.zero_le _, rfl, rfl⟩
  case round =>
    obtain ⟨k, hk, rfl, rfl⟩ := hrel
    by_cases hlt : k < 8
    · go_wp2_with (go_at_call 79; refine (moveBit_any _ _ (Crc.mvN_lt k h)).mono ?_; rintro e w' ⟨rfl, rfl⟩)
      go_round
      case rel => exact ⟨k + 1, by omega, by go_num, by rw [Crc.mvN_succ']⟩
      case measure => simp [intOf]; omega
    · obtain rfl : k = 8 := by omega
      go_wp2
      go_ret
      exact ⟨rfl, rfl⟩
end Go.Proofs.Ytabfgoojhangnaa
