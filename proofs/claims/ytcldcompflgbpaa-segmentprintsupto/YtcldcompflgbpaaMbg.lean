/-
  THE DOCUMENT'S SECOND SENTENCE in plain mathematics: the rest of a division, bit by bit, with the coefficients the other way round, comes to the same sum; likewise Forge.
  THE WALKS OF THE DOCUMENT'S OWN Turned and step (package salvorref1): they come to plain functions.
-/
import Derived.Test.YtcldcompflgbpaaMbf
import Derived.Test.YtcldcompflgbpaaMas
namespace Go.Proofs.Ytcldcompflgbpaa
namespace Crc
def ty : Nat → Nat → Nat
  | 0, _ => 0
  | k + 1, x => 2 * ty k x + x / 2 ^ k % 2
def tu (x : Nat) : Nat := ty 32 x
theorem ty_lt (k x : Nat) : ty k x < 2 ^ k := by
  induction k with
  | zero => simp [ty]
  | succ k ih => rw [ty, Nat.pow_succ]; omega
theorem tu_lt (x : Nat) : tu x < 4294967296 := ty_lt 32 x
theorem bit_div (x k : Nat) : x / 2 ^ k % 2 = if x.testBit k then 1 else 0 := by
  rw [Nat.testBit_eq_decide_div_mod_eq]
  by_cases h : x / 2 ^ k % 2 = 1
  · simp [h]
  · simp [h]; omega
theorem ty_bit (k x i : Nat) : (ty k x).testBit i = (decide (i < k) && x.testBit (k - 1 - i)) := by
  induction k generalizing i with
  | zero => simp [ty]
  | succ k ih =>
    rw [ty]
    cases i with
    | zero =>
      rw [Nat.testBit_zero, bit_div]
      by_cases h : x.testBit k
      · have e : (2 * ty k x + 1) % 2 = 1 := by omega
        simp [h, e]
      · simp [h]
    | succ i =>
      have e : (2 * ty k x + x / 2 ^ k % 2) / 2 = ty k x := by omega
      rw [Nat.testBit_succ, e, ih, show k + 1 - 1 - (i + 1) = k - 1 - i by omega]
      simp
theorem tu_bit (x i : Nat) : (tu x).testBit i = (decide (i < 32) && x.testBit (31 - i)) := ty_bit 32 x i
theorem tu_tu {x : Nat} (h : x < 4294967296) : tu (tu x) = x := by
  apply Nat.eq_of_testBit_eq
  intro i
  rw [tu_bit, tu_bit]
  by_cases hi : i < 32
  · have h2 : 31 - i < 32 := by omega
    simp [hi, h2, show 31 - (31 - i) = i by omega]
  · simp [hi, tb_false h (by omega : 32 ≤ i)]
/-- the division's step -/
def rs (r b : Nat) : Nat := if r < 2147483648 then (2 * r + b) % 4294967296 else (2 * r + b) % 4294967296 ^^^ 517762881
theorem rs_lt (r b : Nat) : rs r b < 4294967296 := by
  unfold rs; split
  · omega
  · exact xor_lt (by omega) (by omega)
theorem poly_bits : ∀ i : Fin 32, Nat.testBit 2197175160 i = Nat.testBit 517762881 (31 - i) := by decide
theorem tu_rs {r b : Nat} (hr : r < 4294967296) (hb : b < 2) : tu (rs r b) = mv (tu r ^^^ b * 4294967296) := by
  have hmod : (tu r ^^^ b * 4294967296) % 2 = if r < 2147483648 then 0 else 1 := by
    have e1 : (tu r ^^^ b * 4294967296) % 2 = tu r % 2 := by
      rw [xor_mod_two, show b * 4294967296 % 2 = 0 by omega, Nat.xor_zero]
    have e2 := tu_bit r 0
    rw [Nat.testBit_zero] at e2
    have e3 : r.testBit 31 = decide (¬ r < 2147483648) := by
      rw [Nat.testBit_eq_decide_div_mod_eq]
      have e : (2 : Nat) ^ 31 = 2147483648 := rfl
      rw [e]; congr 1; simp; omega
    rw [e1]
    have e4 : decide (tu r % 2 = 1) = decide (¬ r < 2147483648) := by rw [e2, ← e3]; simp
    have e5 : (tu r % 2 = 1) ↔ ¬ r < 2147483648 := by simpa using e4
    split
    · rename_i h; have := e5.1; omega
    · rename_i h; exact e5.2 h
  have hdiv : ∀ i, i < 32 → ((tu r ^^^ b * 4294967296) / 2).testBit i = ((2 * r + b) % 4294967296).testBit (31 - i) := by
    intro i hi
    rw [← Nat.testBit_succ, Nat.testBit_xor, tu_bit, show (4294967296 : Nat) = 2 ^ 32 by rfl, Nat.testBit_mul_two_pow, Nat.testBit_mod_two_pow]
    by_cases h31 : i = 31
    · subst h31
      rw [show 31 - 31 = 0 from rfl, Nat.testBit_zero]
      have : (2 * r + b) % 2 = b := by omega
      rcases (show b = 0 ∨ b = 1 by omega) with rfl | rfl <;> simp [this]
    · have e : (2 * r + b) / 2 = r := by omega
      rw [show 31 - i = (31 - i - 1) + 1 by omega, Nat.testBit_succ, e]
      have h1 : i + 1 < 32 := by omega
      have h2 : ¬ 32 ≤ i + 1 := by omega
      have h3 : 31 - i - 1 + 1 < 32 := by omega
      simp [h1, h2, h3, show 31 - (i + 1) = 31 - i - 1 by omega]
  have hbig : ∀ i, 32 ≤ i → ((tu r ^^^ b * 4294967296) / 2).testBit i = false := by
    intro i hi
    have hlt : (tu r ^^^ b * 4294967296) / 2 < 4294967296 := by
      have : tu r ^^^ b * 4294967296 < 2 ^ 33 := Nat.xor_lt_two_pow (Nat.lt_of_lt_of_le (tu_lt r) (by decide)) (by omega)
      omega
    exact tb_false hlt hi
  apply Nat.eq_of_testBit_eq
  intro i
  rw [tu_bit]
  unfold mv rs
  rw [hmod]
  by_cases hi : i < 32
  · rw [decide_eq_true hi, Bool.true_and]
    by_cases h : r < 2147483648
    · rw [if_pos h, if_pos h, if_neg (by decide), hdiv i hi]
    · rw [if_neg h, if_neg h, if_pos (by decide), Nat.testBit_xor, Nat.testBit_xor, hdiv i hi, poly_bits ⟨i, hi⟩]
  · rw [decide_eq_false hi, Bool.false_and]
    by_cases h : r < 2147483648
    · rw [if_pos h, if_neg (by decide), hbig i (by omega)]
    · rw [if_neg h, if_pos (by decide), Nat.testBit_xor, hbig i (by omega), tb_false (by omega : 2197175160 < 4294967296) (by omega : 32 ≤ i)]; rfl
/-- the i-th bit of bytes -/
def db (l : List Nat) (i : Nat) : Nat := l.getD (i / 8) 0 / 2 ^ (i % 8) % 2
theorem num_bit {l : List Nat} (h : Byt l) (i : Nat) : (num l).testBit i = (l.getD (i / 8) 0).testBit (i % 8) := by
  induction l generalizing i with
  | nil => simp [num]
  | cons b l ih =>
    have hb := h b (by simp)
    have hl : Byt l := fun x hx => h x (by simp [hx])
    rw [num, Nat.testBit_xor, show (256 : Nat) = 2 ^ 8 by rfl, Nat.testBit_mul_two_pow]
    by_cases hi : i < 8
    · have h2 : ¬ 8 ≤ i := by omega
      rw [Nat.div_eq_of_lt hi, Nat.mod_eq_of_lt hi]
      simp [h2]
    · have e1 : b.testBit i = false := Nat.testBit_lt_two_pow (Nat.lt_of_lt_of_le (show b < 2 ^ 8 from hb) (Nat.pow_le_pow_right (by decide) (by omega)))
      have e2 : i / 8 = (i - 8) / 8 + 1 := by omega
      have e3 : i % 8 = (i - 8) % 8 := by omega
      rw [e1, ih hl, e2, e3, List.getD_cons_succ]
      simp [show 8 ≤ i by omega]
theorem num_db {l : List Nat} (h : Byt l) (i : Nat) : num l / 2 ^ i % 2 = db l i := by
  unfold db; rw [bit_div, bit_div, num_bit h]
/-- the coefficients that are divided: bits of the text, the first 32 turned by the state -/
def inb (s : Nat) (l : List Nat) (i : Nat) : Nat := if i < 32 then db l i ^^^ s / 2 ^ i % 2 else db l i
theorem inb_lt (s : Nat) (l : List Nat) (i : Nat) : inb s l i < 2 := by
  unfold inb db; split
  · exact Nat.xor_lt_two_pow (n := 1) (by omega) (by omega)
  · omega
theorem inb_eq {s : Nat} {l : List Nat} (hs : s < 4294967296) (h : Byt l) (i : Nat) : (s ^^^ num l) / 2 ^ i % 2 = inb s l i := by
  have e : (s ^^^ num l) / 2 ^ i % 2 = (s / 2 ^ i % 2) ^^^ (num l / 2 ^ i % 2) := by rw [Nat.xor_div_two_pow, xor_mod_two]
  rw [e, num_db h, Nat.xor_comm]
  unfold inb
  split
  · rfl
  · rw [bit_div s, tb_false hs (by omega : 32 ≤ i)]; simp
theorem shift_in (S i : Nat) : S / 2 ^ i * 4294967296 = (S / 2 ^ i % 2) * 4294967296 ^^^ (S / 2 ^ (i + 1) * 4294967296) * 2 := by
  have e : S / 2 ^ (i + 1) = S / 2 ^ i / 2 := by rw [Nat.pow_succ, ← Nat.div_div_eq_div_mul]
  rw [e]
  generalize S / 2 ^ i = T
  have h := split_at 1 T
  rw [show (2 : Nat) ^ 1 = 2 by rfl] at h
  have h2 := xor_mul_pow 32 (T % 2) (T / 2 * 2)
  rw [← h, show (2 : Nat) ^ 32 = 4294967296 by rfl] at h2
  rw [h2, Nat.mul_assoc (T / 2), Nat.mul_comm 2 4294967296, ← Nat.mul_assoc]
theorem rest_succ {S i r : Nat} (hr : r < 4294967296) (h : tu r ^^^ S / 2 ^ i * 4294967296 = mvN i (S * 4294967296)) :
    tu (rs r (S / 2 ^ i % 2)) ^^^ S / 2 ^ (i + 1) * 4294967296 = mvN (i + 1) (S * 4294967296) := by
  rw [mvN_succ', ← h, shift_in S i, ← Nat.xor_assoc, mv_xor, mv_two, tu_rs hr (by omega)]
theorem rest_end {s : Nat} {l : List Nat} {r : Nat} (_hs : s < 4294967296) (hl : Byt l) (h : tu r ^^^ (nt s ^^^ num l) / 2 ^ (8 * l.length + 32) * 4294967296 = mvN (8 * l.length + 32) ((nt s ^^^ num l) * 4294967296)) : nt (tu r) = go s l := by
  have hz : (nt s ^^^ num l) / 2 ^ (8 * l.length + 32) = 0 := by
    apply Nat.div_eq_of_lt
    refine Nat.xor_lt_two_pow (Nat.lt_of_lt_of_le (nt_lt s) ?_) (Nat.lt_of_lt_of_le (num_lt hl) (Nat.pow_le_pow_right (by decide) (by omega)))
    rw [show (4294967296 : Nat) = 2 ^ 32 by rfl]
    exact Nat.pow_le_pow_right (by decide) (by omega)
  rw [hz, Nat.zero_mul, Nat.xor_zero] at h
  rw [h, show 8 * l.length + 32 = 32 + 8 * l.length by omega, show (4294967296 : Nat) = 2 ^ 32 by rfl, mvN_shl_add, ← fe_num]
  rfl
theorem mv_inj {a b : Nat} (ha : a < 4294967296) (hb : b < 4294967296) (h : mv a = mv b) : a = b := by
  refine xor_eq_zero (mv_eq_zero (xor_lt ha hb) ?_)
  rw [mv_xor, h, Nat.xor_self]
/-- the division the other way round -/
def rb (m : Nat) : Nat := if m % 2 = 1 then (m ^^^ 517762881) / 2 + 2147483648 else m / 2
theorem rb_lt {m : Nat} (h : m < 4294967296) : rb m < 4294967296 := by
  unfold rb; split
  · have := xor_lt h (by omega : 517762881 < 4294967296); omega
  · omega
theorem rs_rb {m : Nat} (h : m < 4294967296) : rs (rb m) 0 = m := by
  unfold rs rb
  have hx := xor_lt h (by omega : 517762881 < 4294967296)
  by_cases h1 : m % 2 = 1
  · have he : (m ^^^ 517762881) % 2 = 0 := by rw [xor_mod_two, h1]; decide
    rw [if_pos h1, if_neg (by omega), show (2 * ((m ^^^ 517762881) / 2 + 2147483648) + 0) % 4294967296 = m ^^^ 517762881 by omega, Nat.xor_assoc, Nat.xor_self, Nat.xor_zero]
  · rw [if_neg h1, if_pos (by omega)]; omega
theorem tu_rb {m : Nat} (h : m < 4294967296) : tu (rb m) = bk (tu m) := by
  refine mv_inj (tu_lt _) (bk_lt (tu_lt m)) ?_
  have e := tu_rs (rb_lt h) (by omega : 0 < 2)
  rw [rs_rb h, Nat.zero_mul, Nat.xor_zero] at e
  rw [← e, mv_bk (tu_lt m)]
def rbN : Nat → Nat → Nat
  | 0, n => n
  | k + 1, n => rb (rbN k n)
theorem rbN_lt (k : Nat) {m : Nat} (h : m < 4294967296) : rbN k m < 4294967296 := by
  induction k with
  | zero => exact h
  | succ k ih => exact rb_lt ih
theorem tu_rbN (k : Nat) {m : Nat} (h : m < 4294967296) : tu (rbN k m) = bkN k (tu m) := by
  induction k with
  | zero => rfl
  | succ k ih => rw [rbN, tu_rb (rbN_lt k h), ih, bkN_succ']
theorem fg_ref (s w : Nat) : tu (rbN 32 (tu (nt w))) ^^^ nt s = fg s w := by
  rw [tu_rbN 32 (tu_lt _), tu_tu (nt_lt w)]; rfl
end Crc
end Go.Proofs.Ytcldcompflgbpaa
namespace Go.Proofs.Ytcldcompflgbpaa
open Go.RowKit
set_option maxRecDepth 100000 in
set_option maxHeartbeats 400000 in
theorem turned_any (x : Nat) (w : World) (hx : x < 4294967296) :
    Calls Try.prog 91 #[.int .u32 (x : Int)] w fun e w' => e = .returned (.int .u32 ((Crc.tu x : Nat) : Int)) ∧ w' = w := by
  go_enter Try.func91, Try.ntmps91
  go_wp2
  go_loop [0, 3, 4] (fun u y i => ∃ k z t : Nat, k ≤ 32 ∧ z < 4294967296 ∧ z = x / 2 ^ k ∧ t < 2 ^ k ∧ t = Crc.ty k x ∧ i = .int .i64 k ∧ u = .int .u32 (z : Int) ∧ y = .int .u32 (t : Int)) (fun _ _ i => 32 - (intOf i).toNat)
  case atStart => exact ⟨0, x, 0, by omega, hx, by simp, by simp, rfl, rfl, rfl, rfl⟩
  case round =>
    obtain ⟨k, z, t, hk, hz, ez, ht, et, rfl, rfl, rfl⟩ := hrel
    by_cases hlt : k < 32
    · have hp : 2 ^ k ≤ 2147483648 := Nat.pow_le_pow_right (n := 2) (by decide) (by omega : k ≤ 31)
      have HN : Hid (Crc.ty (k + 1) x = 2 * t + z % 2) := by
        show Crc.ty (k + 1) x = 2 * t + z % 2
        rw [Crc.ty, et, ez]
      have HZ : Hid (z / 2 = x / 2 ^ (k + 1)) := by
        show z / 2 = x / 2 ^ (k + 1)
        rw [ez, Nat.pow_succ, Nat.div_div_eq_div_mul]
      have ht2 : t < 2147483648 := by omega
      have HP : Hid (2 * t + z % 2 < 2 ^ (k + 1)) := by
        show 2 * t + z % 2 < 2 ^ (k + 1)
        rw [Nat.pow_succ]; omega
      clear ez et hp ht
      go_wp2
      go_round
      case rel => exact ⟨k + 1, z / 2, 2 * t + z % 2, by omega, by omega, HZ.out, HP.out, HN.out.symm, by go_num, by go_num, by go_num⟩
      case measure => simp [intOf]; omega
    · obtain rfl : k = 32 := by omega
      have HT : Hid (t = Crc.tu x) := et
      clear ez et ht
      go_wp2
      go_ret
      exact ⟨ret_int (by rw [HT.out]), rfl⟩
set_option maxRecDepth 100000 in
set_option maxHeartbeats 400000 in
theorem step_any (r b : Nat) (w : World) (hr : r < 4294967296) (hb : b < 2) :
    Calls Try.prog 90 #[.int .u32 (r : Int), .int .u32 (b : Int)] w fun e w' => e = .returned (.int .u32 ((Crc.rs r b : Nat) : Int)) ∧ w' = w := by
  by_cases h : r < 2147483648
  · have HE : Hid (2 * r + b = Crc.rs r b) := by
      show 2 * r + b = Crc.rs r b
      unfold Crc.rs; rw [if_pos h]; omega
    have hd : decide ((2147483648 : Int) ≤ (r : Int)) = false := by simp; omega
    go_enter Try.func90, Try.ntmps90
    go_wp2
    go_ret
    exact ⟨ret_int (by rw [← HE.out]; omega), rfl⟩
  · have hl : (2 * r + b) % 4294967296 < 4294967296 := by omega
    have HE : Hid (bits .xor .u32 (2 * (r : Int) % 4294967296 + (b : Int)) 517762881 = ((Crc.rs r b : Nat) : Int)) := by
      show bits .xor .u32 (2 * (r : Int) % 4294967296 + (b : Int)) 517762881 = ((Crc.rs r b : Nat) : Int)
      unfold Crc.rs; rw [if_neg h, ← bxor hl (by omega)]
      congr 1; omega
    have hd : decide ((2147483648 : Int) ≤ (r : Int)) = true := by simp; omega
    go_enter Try.func90, Try.ntmps90
    go_wp2
    go_ret
    exact ⟨ret_int (by rw [← HE.out]), rfl⟩
end Go.Proofs.Ytcldcompflgbpaa
