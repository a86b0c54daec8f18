/-
  THE DOCUMENT'S SECOND SENTENCE in plain mathematics: the rest of a division, bit by bit, with the coefficients the other way round, comes to the same sum; likewise Forge.
  A FRAME WHOSE ESCAPED BODY OR SUM IS ANOTHER ONE IS NONE, PLAINLY.
  THE REFERENCE OF LAYER 4: salvorref4.Of, in, kindOf, number.
-/
import Derived.Test.YtlddogigbodilaaMax
import Derived.Test.YtlddogigbodilaaMaw
import Derived.Test.YtlddogigbodilaaMag
import Derived.Test.YtlddogigbodilaaMad
import Derived.Test.YtlddogigbodilaaMan
namespace Go.Proofs.Ytlddogigbodilaa
namespace Crc
def ty : Nat → Nat → Nat
  | 0, _ => 0
  | k + 1, x => 2 * ty k x + x / 2 ^ k % 2
def tu (x : Nat) : Nat := ty 32 x
theorem ty_lt (k x : Nat) : ty k x < 2 ^ k := by
  induction k with
  | zero => simp [ty]
  | succ k ih => rw [ty, Nat.pow_succ]; omega
theorem tu_lt (x : Nat) : tu x < 4294967296 := ty_lt 32 x
theorem bit_div (x k : Nat) : x / 2 ^ k % 2 = if x.testBit k then 1 else 0 := by
  rw [Nat.testBit_eq_decide_div_mod_eq]
  by_cases h : x / 2 ^ k % 2 = 1
  · simp [h]
  · simp [h]; omega
theorem ty_bit (k x i : Nat) : (ty k x).testBit i = (decide (i < k) && x.testBit (k - 1 - i)) := by
  induction k generalizing i with
  | zero => simp [ty]
  | succ k ih =>
    rw [ty]
    cases i with
    | zero =>
      rw [Nat.testBit_zero, bit_div]
      by_cases h : x.testBit k
      · have e : (2 * ty k x + 1) % 2 = 1 := by omega
        simp [h, e]
      · simp [h]
    | succ i =>
      have e : (2 * ty k x + x / 2 ^ k % 2) / 2 = ty k x := by omega
      rw [Nat.testBit_succ, e, ih, show k + 1 - 1 - (i + 1) = k - 1 - i by omega]
      simp
theorem tu_bit (x i : Nat) : (tu x).testBit i = (decide (i < 32) && x.testBit (31 - i)) := ty_bit 32 x i
theorem tu_tu {x : Nat} (h : x < 4294967296) : tu (tu x) = x := by
  apply Nat.eq_of_testBit_eq
  intro i
  rw [tu_bit, tu_bit]
  by_cases hi : i < 32
  · have h2 : 31 - i < 32 := by omega
    simp [hi, h2, show 31 - (31 - i) = i by omega]
  · simp [hi, tb_false h (by omega : 32 ≤ i)]
/-- the division's step -/
def rs (r b : Nat) : Nat := if r < 2147483648 then (2 * r + b) % 4294967296 else (2 * r + b) % 4294967296 ^^^ 517762881
theorem rs_lt (r b : Nat) : rs r b < 4294967296 := by
  unfold rs; split
  · omega
  · exact xor_lt (by omega) (by omega)
theorem poly_bits : ∀ i : Fin 32, Nat.testBit 2197175160 i = Nat.testBit 517762881 (31 - i) := by decide
theorem tu_rs {r b : Nat} (hr : r < 4294967296) (hb : b < 2) : tu (rs r b) = mv (tu r ^^^ b * 4294967296) := by
  have hmod : (tu r ^^^ b * 4294967296) % 2 = if r < 2147483648 then 0 else 1 := by
    have e1 : (tu r ^^^ b * 4294967296) % 2 = tu r % 2 := by
      rw [xor_mod_two, show b * 4294967296 % 2 = 0 by omega, Nat.xor_zero]
    have e2 := tu_bit r 0
    rw [Nat.testBit_zero] at e2
    have e3 : r.testBit 31 = decide (¬ r < 2147483648) := by
      rw [Nat.testBit_eq_decide_div_mod_eq]
      have e : (2 : Nat) ^ 31 = 2147483648 := rfl
      rw [e]; congr 1; simp; omega
    rw [e1]
    have e4 : decide (tu r % 2 = 1) = decide (¬ r < 2147483648) := by rw [e2, ← e3]; simp
    have e5 : (tu r % 2 = 1) ↔ ¬ r < 2147483648 := by simpa using e4
    split
    · rename_i h; have := e5.1; omega
    · rename_i h; exact e5.2 h
  have hdiv : ∀ i, i < 32 → ((tu r ^^^ b * 4294967296) / 2).testBit i = ((2 * r + b) % 4294967296).testBit (31 - i) := by
    intro i hi
    rw [← Nat.testBit_succ, Nat.testBit_xor, tu_bit, show (4294967296 : Nat) = 2 ^ 32 by rfl, Nat.testBit_mul_two_pow, Nat.testBit_mod_two_pow]
    by_cases h31 : i = 31
    · subst h31
      rw [show 31 - 31 = 0 from rfl, Nat.testBit_zero]
      have : (2 * r + b) % 2 = b := by omega
      rcases (show b = 0 ∨ b = 1 by omega) with rfl | rfl <;> simp [this]
    · have e : (2 * r + b) / 2 = r := by omega
      rw [show 31 - i = (31 - i - 1) + 1 by omega, Nat.testBit_succ, e]
      have h1 : i + 1 < 32 := by omega
      have h2 : ¬ 32 ≤ i + 1 := by omega
      have h3 : 31 - i - 1 + 1 < 32 := by omega
      simp [h1, h2, h3, show 31 - (i + 1) = 31 - i - 1 by omega]
  have hbig : ∀ i, 32 ≤ i → ((tu r ^^^ b * 4294967296) / 2).testBit i = false := by
    intro i hi
    have hlt : (tu r ^^^ b * 4294967296) / 2 < 4294967296 := by
      have : tu r ^^^ b * 4294967296 < 2 ^ 33 := Nat.xor_lt_two_pow (Nat.lt_of_lt_of_le (tu_lt r) (by decide)) (by omega)
      omega
    exact tb_false hlt hi
  apply Nat.eq_of_testBit_eq
  intro i
  rw [tu_bit]
  unfold mv rs
  rw [hmod]
  by_cases hi : i < 32
  · rw [decide_eq_true hi, Bool.true_and]
    by_cases h : r < 2147483648
    · rw [if_pos h, if_pos h, if_neg (by decide), hdiv i hi]
    · rw [if_neg h, if_neg h, if_pos (by decide), Nat.testBit_xor, Nat.testBit_xor, hdiv i hi, poly_bits ⟨i, hi⟩]
  · rw [decide_eq_false hi, Bool.false_and]
    by_cases h : r < 2147483648
    · rw [if_pos h, if_neg (by decide), hbig i (by omega)]
    · rw [if_neg h, if_pos (by decide), Nat.testBit_xor, hbig i (by omega), tb_false (by omega : 2197175160 < 4294967296) (by omega : 32 ≤ i)]; rfl
/-- the i-th bit of bytes -/
def db (l : List Nat) (i : Nat) : Nat := l.getD (i / 8) 0 / 2 ^ (i % 8) % 2
theorem num_bit {l : List Nat} (h : Byt l) (i : Nat) : (num l).testBit i = (l.getD (i / 8) 0).testBit (i % 8) := by
  induction l generalizing i with
  | nil => simp [num]
  | cons b l ih =>
    have hb := h b (by simp)
    have hl : Byt l := fun x hx => h x (by simp [hx])
    rw [num, Nat.testBit_xor, show (256 : Nat) = 2 ^ 8 by rfl, Nat.testBit_mul_two_pow]
    by_cases hi : i < 8
    · have h2 : ¬ 8 ≤ i := by omega
      rw [Nat.div_eq_of_lt hi, Nat.mod_eq_of_lt hi]
      simp [h2]
    · have e1 : b.testBit i = false := Nat.testBit_lt_two_pow (Nat.lt_of_lt_of_le (show b < 2 ^ 8 from hb) (Nat.pow_le_pow_right (by decide) (by omega)))
      have e2 : i / 8 = (i - 8) / 8 + 1 := by omega
      have e3 : i % 8 = (i - 8) % 8 := by omega
      rw [e1, ih hl, e2, e3, List.getD_cons_succ]
      simp [show 8 ≤ i by omega]
theorem num_db {l : List Nat} (h : Byt l) (i : Nat) : num l / 2 ^ i % 2 = db l i := by
  unfold db; rw [bit_div, bit_div, num_bit h]
/-- the coefficients that are divided: bits of the text, the first 32 turned by the state -/
def inb (s : Nat) (l : List Nat) (i : Nat) : Nat := if i < 32 then db l i ^^^ s / 2 ^ i % 2 else db l i
theorem inb_lt (s : Nat) (l : List Nat) (i : Nat) : inb s l i < 2 := by
  unfold inb db; split
  · exact Nat.xor_lt_two_pow (n := 1) (by omega) (by omega)
  · omega
theorem inb_eq {s : Nat} {l : List Nat} (hs : s < 4294967296) (h : Byt l) (i : Nat) : (s ^^^ num l) / 2 ^ i % 2 = inb s l i := by
  have e : (s ^^^ num l) / 2 ^ i % 2 = (s / 2 ^ i % 2) ^^^ (num l / 2 ^ i % 2) := by rw [Nat.xor_div_two_pow, xor_mod_two]
  rw [e, num_db h, Nat.xor_comm]
  unfold inb
  split
  · rfl
  · rw [bit_div s, tb_false hs (by omega : 32 ≤ i)]; simp
theorem shift_in (S i : Nat) : S / 2 ^ i * 4294967296 = (S / 2 ^ i % 2) * 4294967296 ^^^ (S / 2 ^ (i + 1) * 4294967296) * 2 := by
  have e : S / 2 ^ (i + 1) = S / 2 ^ i / 2 := by rw [Nat.pow_succ, ← Nat.div_div_eq_div_mul]
  rw [e]
  generalize S / 2 ^ i = T
  have h := split_at 1 T
  rw [show (2 : Nat) ^ 1 = 2 by rfl] at h
  have h2 := xor_mul_pow 32 (T % 2) (T / 2 * 2)
  rw [← h, show (2 : Nat) ^ 32 = 4294967296 by rfl] at h2
  rw [h2, Nat.mul_assoc (T / 2), Nat.mul_comm 2 4294967296, ← Nat.mul_assoc]
theorem rest_succ {S i r : Nat} (hr : r < 4294967296) (h : tu r ^^^ S / 2 ^ i * 4294967296 = mvN i (S * 4294967296)) :
    tu (rs r (S / 2 ^ i % 2)) ^^^ S / 2 ^ (i + 1) * 4294967296 = mvN (i + 1) (S * 4294967296) := by
  rw [mvN_succ', ← h, shift_in S i, ← Nat.xor_assoc, mv_xor, mv_two, tu_rs hr (by omega)]
theorem rest_end {s : Nat} {l : List Nat} {r : Nat} (_hs : s < 4294967296) (hl : Byt l) (h : tu r ^^^ (nt s ^^^ num l) / 2 ^ (8 * l.length + 32) * 4294967296 = mvN (8 * l.length + 32) ((nt s ^^^ num l) * 4294967296)) : nt (tu r) = go s l := by
  have hz : (nt s ^^^ num l) / 2 ^ (8 * l.length + 32) = 0 := by
    apply Nat.div_eq_of_lt
    refine Nat.xor_lt_two_pow (Nat.lt_of_lt_of_le (nt_lt s) ?_) (Nat.lt_of_lt_of_le (num_lt hl) (Nat.pow_le_pow_right (by decide) (by omega)))
    rw [show (4294967296 : Nat) = 2 ^ 32 by rfl]
    exact Nat.pow_le_pow_right (by decide) (by omega)
  rw [hz, Nat.zero_mul, Nat.xor_zero] at h
  rw [h, show 8 * l.length + 32 = 32 + 8 * l.length by omega, show (4294967296 : Nat) = 2 ^ 32 by rfl, mvN_shl_add, ← fe_num]
  rfl
theorem mv_inj {a b : Nat} (ha : a < 4294967296) (hb : b < 4294967296) (h : mv a = mv b) : a = b := by
  refine xor_eq_zero (mv_eq_zero (xor_lt ha hb) ?_)
  rw [mv_xor, h, Nat.xor_self]
/-- the division the other way round -/
def rb (m : Nat) : Nat := if m % 2 = 1 then (m ^^^ 517762881) / 2 + 2147483648 else m / 2
theorem rb_lt {m : Nat} (h : m < 4294967296) : rb m < 4294967296 := by
  unfold rb; split
  · have := xor_lt h (by omega : 517762881 < 4294967296); omega
  · omega
theorem rs_rb {m : Nat} (h : m < 4294967296) : rs (rb m) 0 = m := by
  unfold rs rb
  have hx := xor_lt h (by omega : 517762881 < 4294967296)
  by_cases h1 : m % 2 = 1
  · have he : (m ^^^ 517762881) % 2 = 0 := by rw [xor_mod_two, h1]; decide
    rw [if_pos h1, if_neg (by omega), show (2 * ((m ^^^ 517762881) / 2 + 2147483648) + 0) % 4294967296 = m ^^^ 517762881 by omega, Nat.xor_assoc, Nat.xor_self, Nat.xor_zero]
  · rw [if_neg h1, if_pos (by omega)]; omega
theorem tu_rb {m : Nat} (h : m < 4294967296) : tu (rb m) = bk (tu m) := by
  refine mv_inj (tu_lt _) (bk_lt (tu_lt m)) ?_
  have e := tu_rs (rb_lt h) (by omega : 0 < 2)
  rw [rs_rb h, Nat.zero_mul, Nat.xor_zero] at e
  rw [← e, mv_bk (tu_lt m)]
def rbN : Nat → Nat → Nat
  | 0, n => n
  | k + 1, n => rb (rbN k n)
theorem rbN_lt (k : Nat) {m : Nat} (h : m < 4294967296) : rbN k m < 4294967296 := by
  induction k with
  | zero => exact h
  | succ k ih => exact rb_lt ih
theorem tu_rbN (k : Nat) {m : Nat} (h : m < 4294967296) : tu (rbN k m) = bkN k (tu m) := by
  induction k with
  | zero => rfl
  | succ k ih => rw [rbN, tu_rb (rbN_lt k h), ih, bkN_succ']
theorem fg_ref (s w : Nat) : tu (rbN 32 (tu (nt w))) ^^^ nt s = fg s w := by
  rw [tu_rbN 32 (tu_lt _), tu_tu (nt_lt w)]; rfl
end Crc
end Go.Proofs.Ytlddogigbodilaa
namespace Go.Proofs.Ytlddogigbodilaa
open Go.RowKit
namespace Vt
theorem dcd_bad (W T : List Nat) (hl : W.length < 2097152) (hT : T.length = 5) (h : ¬ ((∀ x ∈ T, x < 128) ∧ nm T = Crc.go 0 (dg 3 W.length ++ W))) : (decF (167 :: (dg 3 W.length ++ (W ++ T))) 0).2.2 ≠ 0 := by
  have hN3 : nm (dg 3 W.length) = W.length := by rw [nm_dg, p3]; omega
  have d3 := dg_len 3 W.length
  have hdig : dig (167 :: (dg 3 W.length ++ (W ++ T))) = dg 3 W.length := by
    unfold dig
    rw [List.drop_succ_cons, List.drop_zero, List.take_append_of_le_length (by omega), List.take_of_length_le (by omega)]
  have hlen : (167 :: (dg 3 W.length ++ (W ++ T))).length = W.length + 9 := by simp [d3, hT]; omega
  have hrl : rl (167 :: (dg 3 W.length ++ (W ++ T))) = (W.length, 0) := by
    have := rl_0 (l := 167 :: (dg 3 W.length ++ (W ++ T))) rfl (by rw [hdig]; exact dg_lt _ _) (by rw [hlen]; omega) (by rw [hdig, hN3, hlen]; omega)
    rw [this, hdig, hN3]
  have h4 : (167 :: (dg 3 W.length ++ (W ++ T))).drop 4 = W ++ T := by
    rw [show (4 : Nat) = 3 + 1 by omega, List.drop_succ_cons, List.drop_left' d3]
  have hE : ((167 :: (dg 3 W.length ++ (W ++ T))).drop 4).take W.length = W := by rw [h4, List.take_left]
  have hT' : ((167 :: (dg 3 W.length ++ (W ++ T))).drop (4 + W.length)).take 5 = T := by
    rw [← List.drop_drop, h4, List.drop_left, List.take_of_length_le (by omega)]
  have hM : ((167 :: (dg 3 W.length ++ (W ++ T))).drop 1).take (3 + W.length) = dg 3 W.length ++ W := by
    rw [List.drop_succ_cons, List.drop_zero, ← List.append_assoc, List.take_left' (by rw [List.length_append, d3])]
  unfold decF
  rw [if_neg (by rw [hlen]; omega), show (0 : Int).toNat = 0 from rfl, List.drop_zero]
  unfold dcd
  rw [hrl]
  simp only
  rw [hE, hT', hM, if_neg (by simp)]
  by_cases c : nx W < W.length
  · rw [if_pos c]; simp
  · rw [if_neg c, if_pos h]; simp
/-- a run of bits turned in the escaped body -/
theorem hit_bad {W W' : List Nat} {S q t : Nat} (hl : W.length < 2097152) (hlen : W'.length = W.length) (hb : Byt W) (hb' : Byt W') (hS : Crc.go 0 (dg 3 W.length ++ W) = S) (hn : Crc.num W' = Crc.num W ^^^ q * 2 ^ t) (ht : t ≤ 8 * W.length) (hq : q < 4294967296) (h0 : q ≠ 0) : (decF (167 :: (dg 3 W.length ++ (W' ++ dg 5 S))) 0).2.2 ≠ 0 := by
  have hlt := Crc.go_lt 0 (dg 3 W.length ++ W)
  rw [hS] at hlt
  have := dcd_bad W' (dg 5 S) (by omega) (dg_len _ _) (by
    rintro ⟨_, h2⟩
    rw [nm_dg, p5, Nat.mod_eq_of_lt (by omega), hlen, ← hS] at h2
    refine Crc.burst (a := dg 3 W.length ++ W) (b := dg 3 W.length ++ W') (q := q) (t := t + 24) (by simp [hlen]) (byt_app (dg_byt _ _) hb) (byt_app (dg_byt _ _) hb') ?_ (by rw [List.length_append, dg_len]; omega) hq h0 h2
    rw [Crc.num_append, Crc.num_append, hn, dg_len, Crc.xor_mul_pow, ← Nat.xor_assoc, Nat.mul_assoc, ← Nat.pow_add])
  rw [hlen] at this
  exact this
/-- a digit of the sum that is another one -/
theorem turned_bad {W : List Nat} {S d y : Nat} (hl : W.length < 2097152) (hS : Crc.go 0 (dg 3 W.length ++ W) = S) (hd : d < 5) (hy : y ≠ 0) : (decF (167 :: (dg 3 W.length ++ (W ++ (dg 5 S).set d ((dg 5 S).getD d 0 ^^^ y)))) 0).2.2 ≠ 0 := by
  have hlt := Crc.go_lt 0 (dg 3 W.length ++ W)
  rw [hS] at hlt
  refine dcd_bad W _ hl (by rw [List.length_set, dg_len]) ?_
  rintro ⟨h1, h2⟩
  have h3 := dg_nm h1
  rw [List.length_set, dg_len, h2, hS] at h3
  have h4 := congrArg (fun l => l.getD d 0) h3
  have h5 : ((dg 5 S).set d ((dg 5 S).getD d 0 ^^^ y)).getD d 0 = (dg 5 S).getD d 0 ^^^ y := by
    rw [List.getD_eq_getElem?_getD, List.getElem?_set_self (by rw [dg_len]; exact hd)]; rfl
  have h6 : (dg 5 S).getD d 0 = (dg 5 S).getD d 0 ^^^ y := h4.trans h5
  have h7 : (dg 5 S).getD d 0 ^^^ ((dg 5 S).getD d 0 ^^^ y) = 0 := by rw [← h6, Nat.xor_self]
  rw [← Nat.xor_assoc, Nat.xor_self, Nat.zero_xor] at h7
  exact hy h7
theorem set_mid (H W T : List Nat) (j y : Nat) (hj : j < W.length) : (H ++ (W ++ T)).set (H.length + j) y = H ++ (W.set j y ++ T) := by
  rw [List.set_append_right _ _ (by omega), Nat.add_sub_cancel_left, List.set_append_left _ _ hj]
theorem get_mid (H W T : List Nat) (j : Nat) (hj : j < W.length) : (H ++ (W ++ T)).getD (H.length + j) 0 = W.getD j 0 := by
  rw [List.getD_eq_getElem?_getD, List.getD_eq_getElem?_getD, List.getElem?_append_right (by omega), Nat.add_sub_cancel_left, List.getElem?_append_left hj]
theorem set_end (H W T : List Nat) (j y : Nat) : (H ++ (W ++ T)).set (H.length + W.length + j) y = H ++ (W ++ T.set j y) := by
  rw [List.set_append_right _ _ (by omega), List.set_append_right _ _ (by omega), show H.length + W.length + j - H.length - W.length = j by omega]
theorem get_end (H W T : List Nat) (j : Nat) : (H ++ (W ++ T)).getD (H.length + W.length + j) 0 = T.getD j 0 := by
  rw [List.getD_eq_getElem?_getD, List.getD_eq_getElem?_getD, List.getElem?_append_right (by omega), List.getElem?_append_right (by omega), show H.length + W.length + j - H.length - W.length = j by omega]
theorem ftmod2 (x k : Nat) : (((x : Nat) : Int) / 2 ^ k).tmod 2 = ((x / 2 ^ k % 2 : Nat) : Int) := by
  have e : ((x : Nat) : Int) / 2 ^ k = ((x / 2 ^ k : Nat) : Int) := by simp
  rw [e, Int.tmod_eq_emod_of_nonneg (Int.natCast_nonneg _)]; rfl
theorem fodd_step {q k : Nat} (hq : q < 2 ^ k) (ho : 0 < k → q % 2 = 1) : (q ^^^ 2 ^ k) % 2 = 1 := by
  rw [Crc.xor_mod_two]
  cases k with
  | zero => rw [show q = 0 by simpa using hq]; decide
  | succ k => rw [ho (by omega), Nat.pow_succ, Nat.mul_mod_left]; decide
end Vt
end Go.Proofs.Ytlddogigbodilaa
namespace Go.Proofs.Ytlddogigbodilaa
open Go.RowKit
namespace Vt
set_option maxHeartbeats 400000 in
theorem r4_in (n lo hi : Int) (w : World) : Calls Try.prog 110 #[.int .i64 n, .int .i64 lo, .int .i64 hi] w fun e w' => e = .returned (.bool (decide (lo ≤ n ∧ n ≤ hi))) ∧ w' = w := by
  by_cases h1 : lo ≤ n
  · by_cases h2 : n ≤ hi
    · rw [decide_eq_true (⟨h1, h2⟩ : lo ≤ n ∧ n ≤ hi)]
      have e : decide (n ≤ hi) = true := by simp; omega
      go_enter Try.func110, Try.ntmps110
      go_wp2
      go_ret
      exact ⟨rfl, rfl⟩
    · rw [decide_eq_false (show ¬ (lo ≤ n ∧ n ≤ hi) from fun q => h2 q.2)]
      have e : decide (n ≤ hi) = false := by simp; omega
      go_enter Try.func110, Try.ntmps110
      go_wp2
      go_ret
      exact ⟨rfl, rfl⟩
  · rw [decide_eq_false (show ¬ (lo ≤ n ∧ n ≤ hi) from fun q => h1 q.1)]
    go_enter Try.func110, Try.ntmps110
    go_wp2
    go_ret
    exact ⟨rfl, rfl⟩
set_option maxHeartbeats 400000 in
theorem r4_kindOf (k : Int) (w : World) : Calls Try.prog 109 #[.int .i64 k] w fun e w' => e = .returned (.bool (decide (k = 1 ∨ k = 2))) ∧ w' = w := by
  by_cases h1 : k = 1
  · subst h1
    go_enter Try.func109, Try.ntmps109
    go_wp2
    go_ret
    exact ⟨rfl, rfl⟩
  · by_cases h2 : k = 2
    · subst h2
      go_enter Try.func109, Try.ntmps109
      go_wp2
      go_ret
      exact ⟨rfl, rfl⟩
    · rw [decide_eq_false (show ¬ (k = 1 ∨ k = 2) by omega)]
      have e1 : (k == 1) = false := by simp; omega
      have e2 : (k == 2) = false := by simp; omega
      go_enter Try.func109, Try.ntmps109
      go_wp2
      go_ret
      exact ⟨rfl, rfl⟩
end Vt
end Go.Proofs.Ytlddogigbodilaa
