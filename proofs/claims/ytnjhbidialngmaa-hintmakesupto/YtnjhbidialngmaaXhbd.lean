/-
  THE DOCUMENT'S SECOND SENTENCE in plain mathematics: the rest of a division, bit by bit, with the coefficients the other way round, comes to the same sum; likewise Forge.
  THE WALKS OF THE DOCUMENT'S OWN Turned and step (package salvorref1): they come to plain functions.
  THE WALKS OF THE DOCUMENT'S OWN ANSWER (package salvorref1): bit, GoOn come to the same plain function of a sum and bytes.
-/
import Derived.Test.YtnjhbidialngmaaXhbc
import Derived.Test.YtnjhbidialngmaaXhak
import Derived.Test.YtnjhbidialngmaaXhaa
namespace Go.Proofs.Ytnjhbidialngmaa
namespace Crc
def ty : Nat → Nat → Nat
  | 0, _ => 0
  | k + 1, x => 2 * ty k x + x / 2 ^ k % 2
def tu (x : Nat) : Nat := ty 32 x
theorem ty_lt (k x : Nat) : ty k x < 2 ^ k := by
  induction k with
  | zero => simp [ty]
  | succ k ih => rw [ty, Nat.pow_succ]; omega
theorem tu_lt (x : Nat) : tu x < 4294967296 := ty_lt 32 x
theorem bit_div (x k : Nat) : x / 2 ^ k % 2 = if x.testBit k then 1 else 0 := by
  rw [Nat.testBit_eq_decide_div_mod_eq]
  by_cases h : x / 2 ^ k % 2 = 1
  · simp [h]
  · simp [h]; omega
theorem ty_bit (k x i : Nat) : (ty k x).testBit i = (decide (i < k) && x.testBit (k - 1 - i)) := by
  induction k generalizing i with
  | zero => simp [ty]
  | succ k ih =>
    rw [ty]
    cases i with
    | zero =>
      rw [Nat.testBit_zero, bit_div]
      by_cases h : x.testBit k
      · have e : (2 * ty k x + 1) % 2 = 1 := by omega
        simp [h, e]
      · simp [h]
    | succ i =>
      have e : (2 * ty k x + x / 2 ^ k % 2) / 2 = ty k x := by omega
      rw [Nat.testBit_succ, e, ih, show k + 1 - 1 - (i + 1) = k - 1 - i by omega]
      simp
theorem tu_bit (x i : Nat) : (tu x).testBit i = (decide (i < 32) && x.testBit (31 - i)) := ty_bit 32 x i
/-- the division's step -/
def rs (r b : Nat) : Nat := if r < 2147483648 then (2 * r + b) % 4294967296 else (2 * r + b) % 4294967296 ^^^ 517762881
theorem rs_lt (r b : Nat) : rs r b < 4294967296 := by
  unfold rs; split
  · omega
  · exact xor_lt (by omega) (by omega)
theorem poly_bits : ∀ i : Fin 32, Nat.testBit 2197175160 i = Nat.testBit 517762881 (31 - i) := by decide
theorem tu_rs {r b : Nat} (hr : r < 4294967296) (hb : b < 2) : tu (rs r b) = mv (tu r ^^^ b * 4294967296) := by
  have hmod : (tu r ^^^ b * 4294967296) % 2 = if r < 2147483648 then 0 else 1 := by
    have e1 : (tu r ^^^ b * 4294967296) % 2 = tu r % 2 := by
      rw [xor_mod_two, show b * 4294967296 % 2 = 0 by omega, Nat.xor_zero]
    have e2 := tu_bit r 0
    rw [Nat.testBit_zero] at e2
    have e3 : r.testBit 31 = decide (¬ r < 2147483648) := by
      rw [Nat.testBit_eq_decide_div_mod_eq]
      have e : (2 : Nat) ^ 31 = 2147483648 := rfl
      rw [e]; congr 1; simp; omega
    rw [e1]
    have e4 : decide (tu r % 2 = 1) = decide (¬ r < 2147483648) := by rw [e2, ← e3]; simp
    have e5 : (tu r % 2 = 1) ↔ ¬ r < 2147483648 := by simpa using e4
    split
    · rename_i h; have := e5.1; omega
    · rename_i h; exact e5.2 h
  have hdiv : ∀ i, i < 32 → ((tu r ^^^ b * 4294967296) / 2).testBit i = ((2 * r + b) % 4294967296).testBit (31 - i) := by
    intro i hi
    rw [← Nat.testBit_succ, Nat.testBit_xor, tu_bit, show (4294967296 : Nat) = 2 ^ 32 by rfl, Nat.testBit_mul_two_pow, Nat.testBit_mod_two_pow]
    by_cases h31 : i = 31
    · subst h31
      rw [show 31 - 31 = 0 from rfl, Nat.testBit_zero]
      have : (2 * r + b) % 2 = b := by omega
      rcases (show b = 0 ∨ b = 1 by omega) with rfl | rfl <;> simp [this]
    · have e : (2 * r + b) / 2 = r := by omega
      rw [show 31 - i = (31 - i - 1) + 1 by omega, Nat.testBit_succ, e]
      have h1 : i + 1 < 32 := by omega
      have h2 : ¬ 32 ≤ i + 1 := by omega
      have h3 : 31 - i - 1 + 1 < 32 := by omega
      simp [h1, h2, h3, show 31 - (i + 1) = 31 - i - 1 by omega]
  have hbig : ∀ i, 32 ≤ i → ((tu r ^^^ b * 4294967296) / 2).testBit i = false := by
    intro i hi
    have hlt : (tu r ^^^ b * 4294967296) / 2 < 4294967296 := by
      have : tu r ^^^ b * 4294967296 < 2 ^ 33 := Nat.xor_lt_two_pow (Nat.lt_of_lt_of_le (tu_lt r) (by decide)) (by omega)
      omega
    exact tb_false hlt hi
  apply Nat.eq_of_testBit_eq
  intro i
  rw [tu_bit]
  unfold mv rs
  rw [hmod]
  by_cases hi : i < 32
  · rw [decide_eq_true hi, Bool.true_and]
    by_cases h : r < 2147483648
    · rw [if_pos h, if_pos h, if_neg (by decide), hdiv i hi]
    · rw [if_neg h, if_neg h, if_pos (by decide), Nat.testBit_xor, Nat.testBit_xor, hdiv i hi, poly_bits ⟨i, hi⟩]
  · rw [decide_eq_false hi, Bool.false_and]
    by_cases h : r < 2147483648
    · rw [if_pos h, if_neg (by decide), hbig i (by omega)]
    · rw [if_neg h, if_pos (by decide), Nat.testBit_xor, hbig i (by omega), tb_false (by omega : 2197175160 < 4294967296) (by omega : 32 ≤ i)]; rfl
/-- the i-th bit of bytes -/
def db (l : List Nat) (i : Nat) : Nat := l.getD (i / 8) 0 / 2 ^ (i % 8) % 2
theorem num_bit {l : List Nat} (h : Byt l) (i : Nat) : (num l).testBit i = (l.getD (i / 8) 0).testBit (i % 8) := by
  induction l generalizing i with
  | nil => simp [num]
  | cons b l ih =>
    have hb := h b (by simp)
    have hl : Byt l := fun x hx => h x (by simp [hx])
    rw [num, Nat.testBit_xor, show (256 : Nat) = 2 ^ 8 by rfl, Nat.testBit_mul_two_pow]
    by_cases hi : i < 8
    · have h2 : ¬ 8 ≤ i := by omega
      rw [Nat.div_eq_of_lt hi, Nat.mod_eq_of_lt hi]
      simp [h2]
    · have e1 : b.testBit i = false := Nat.testBit_lt_two_pow (Nat.lt_of_lt_of_le (show b < 2 ^ 8 from hb) (Nat.pow_le_pow_right (by decide) (by omega)))
      have e2 : i / 8 = (i - 8) / 8 + 1 := by omega
      have e3 : i % 8 = (i - 8) % 8 := by omega
      rw [e1, ih hl, e2, e3, List.getD_cons_succ]
      simp [show 8 ≤ i by omega]
theorem num_db {l : List Nat} (h : Byt l) (i : Nat) : num l / 2 ^ i % 2 = db l i := by
  unfold db; rw [bit_div, bit_div, num_bit h]
/-- the coefficients that are divided: bits of the text, the first 32 turned by the state -/
def inb (s : Nat) (l : List Nat) (i : Nat) : Nat := if i < 32 then db l i ^^^ s / 2 ^ i % 2 else db l i
theorem inb_lt (s : Nat) (l : List Nat) (i : Nat) : inb s l i < 2 := by
  unfold inb db; split
  · exact Nat.xor_lt_two_pow (n := 1) (by omega) (by omega)
  · omega
theorem inb_eq {s : Nat} {l : List Nat} (hs : s < 4294967296) (h : Byt l) (i : Nat) : (s ^^^ num l) / 2 ^ i % 2 = inb s l i := by
  have e : (s ^^^ num l) / 2 ^ i % 2 = (s / 2 ^ i % 2) ^^^ (num l / 2 ^ i % 2) := by rw [Nat.xor_div_two_pow, xor_mod_two]
  rw [e, num_db h, Nat.xor_comm]
  unfold inb
  split
  · rfl
  · rw [bit_div s, tb_false hs (by omega : 32 ≤ i)]; simp
theorem shift_in (S i : Nat) : S / 2 ^ i * 4294967296 = (S / 2 ^ i % 2) * 4294967296 ^^^ (S / 2 ^ (i + 1) * 4294967296) * 2 := by
  have e : S / 2 ^ (i + 1) = S / 2 ^ i / 2 := by rw [Nat.pow_succ, ← Nat.div_div_eq_div_mul]
  rw [e]
  generalize S / 2 ^ i = T
  have h := split_at 1 T
  rw [show (2 : Nat) ^ 1 = 2 by rfl] at h
  have h2 := xor_mul_pow 32 (T % 2) (T / 2 * 2)
  rw [← h, show (2 : Nat) ^ 32 = 4294967296 by rfl] at h2
  rw [h2, Nat.mul_assoc (T / 2), Nat.mul_comm 2 4294967296, ← Nat.mul_assoc]
theorem rest_succ {S i r : Nat} (hr : r < 4294967296) (h : tu r ^^^ S / 2 ^ i * 4294967296 = mvN i (S * 4294967296)) :
    tu (rs r (S / 2 ^ i % 2)) ^^^ S / 2 ^ (i + 1) * 4294967296 = mvN (i + 1) (S * 4294967296) := by
  rw [mvN_succ', ← h, shift_in S i, ← Nat.xor_assoc, mv_xor, mv_two, tu_rs hr (by omega)]
theorem rest_end {s : Nat} {l : List Nat} {r : Nat} (_hs : s < 4294967296) (hl : Byt l) (h : tu r ^^^ (nt s ^^^ num l) / 2 ^ (8 * l.length + 32) * 4294967296 = mvN (8 * l.length + 32) ((nt s ^^^ num l) * 4294967296)) : nt (tu r) = go s l := by
  have hz : (nt s ^^^ num l) / 2 ^ (8 * l.length + 32) = 0 := by
    apply Nat.div_eq_of_lt
    refine Nat.xor_lt_two_pow (Nat.lt_of_lt_of_le (nt_lt s) ?_) (Nat.lt_of_lt_of_le (num_lt hl) (Nat.pow_le_pow_right (by decide) (by omega)))
    rw [show (4294967296 : Nat) = 2 ^ 32 by rfl]
    exact Nat.pow_le_pow_right (by decide) (by omega)
  rw [hz, Nat.zero_mul, Nat.xor_zero] at h
  rw [h, show 8 * l.length + 32 = 32 + 8 * l.length by omega, show (4294967296 : Nat) = 2 ^ 32 by rfl, mvN_shl_add, ← fe_num]
  rfl
/-- the division the other way round -/
def rb (m : Nat) : Nat := if m % 2 = 1 then (m ^^^ 517762881) / 2 + 2147483648 else m / 2
def rbN : Nat → Nat → Nat
  | 0, n => n
  | k + 1, n => rb (rbN k n)
end Crc
end Go.Proofs.Ytnjhbidialngmaa
namespace Go.Proofs.Ytnjhbidialngmaa
open Go.RowKit
set_option maxRecDepth 100000 in
set_option maxHeartbeats 400000 in
theorem turned_any (x : Nat) (w : World) (hx : x < 4294967296) :
    Calls Try.prog 80 #[.int .u32 (x : Int)] w fun e w' => e = .returned (.int .u32 ((Crc.tu x : Nat) : Int)) ∧ w' = w := by
  go_enter Try.func80, Try.ntmps80
  go_wp2
  go_loop [0, 3, 4] (fun u y i => ∃ k z t : Nat, k ≤ 32 ∧ z < 4294967296 ∧ z = x / 2 ^ k ∧ t < 2 ^ k ∧ t = Crc.ty k x ∧ i = .int .i64 k ∧ u = .int .u32 (z : Int) ∧ y = .int .u32 (t : Int)) (fun _ _ i => 32 - (intOf i).toNat)
  case atStart => exact ⟨0, x, 0, by omega, hx, by simp, by simp, rfl, rfl, rfl, rfl⟩
  case round =>
    obtain ⟨k, z, t, hk, hz, ez, ht, et, rfl, rfl, rfl⟩ := hrel
    by_cases hlt : k < 32
    · have hp : 2 ^ k ≤ 2147483648 := Nat.pow_le_pow_right (n := 2) (by decide) (by omega : k ≤ 31)
      have HN : Hid (Crc.ty (k + 1) x = 2 * t + z % 2) := by
        show Crc.ty (k + 1) x = 2 * t + z % 2
        rw [Crc.ty, et, ez]
      have HZ : Hid (z / 2 = x / 2 ^ (k + 1)) := by
        show z / 2 = x / 2 ^ (k + 1)
        rw [ez, Nat.pow_succ, Nat.div_div_eq_div_mul]
      have ht2 : t < 2147483648 := by omega
      have HP : Hid (2 * t + z % 2 < 2 ^ (k + 1)) := by
        show 2 * t + z % 2 < 2 ^ (k + 1)
        rw [Nat.pow_succ]; omega
      clear ez et hp ht
      go_wp2
      go_round
      case rel => exact ⟨k + 1, z / 2, 2 * t + z % 2, by omega, by omega, HZ.out, HP.out, HN.out.symm, by go_num, by go_num, by go_num⟩
      case measure => simp [intOf]; omega
    · obtain rfl : k = 32 := by omega
      have HT : Hid (t = Crc.tu x) := et
      clear ez et ht
      go_wp2
      go_ret
      exact ⟨ret_int (by rw [HT.out]), rfl⟩
set_option maxRecDepth 100000 in
set_option maxHeartbeats 400000 in
theorem step_any (r b : Nat) (w : World) (hr : r < 4294967296) (hb : b < 2) :
    Calls Try.prog 79 #[.int .u32 (r : Int), .int .u32 (b : Int)] w fun e w' => e = .returned (.int .u32 ((Crc.rs r b : Nat) : Int)) ∧ w' = w := by
  by_cases h : r < 2147483648
  · have HE : Hid (2 * r + b = Crc.rs r b) := by
      show 2 * r + b = Crc.rs r b
      unfold Crc.rs; rw [if_pos h]; omega
    have hd : decide ((2147483648 : Int) ≤ (r : Int)) = false := by simp; omega
    go_enter Try.func79, Try.ntmps79
    go_wp2
    go_ret
    exact ⟨ret_int (by rw [← HE.out]; omega), rfl⟩
  · have hl : (2 * r + b) % 4294967296 < 4294967296 := by omega
    have HE : Hid (bits .xor .u32 (2 * (r : Int) % 4294967296 + (b : Int)) 517762881 = ((Crc.rs r b : Nat) : Int)) := by
      show bits .xor .u32 (2 * (r : Int) % 4294967296 + (b : Int)) 517762881 = ((Crc.rs r b : Nat) : Int)
      unfold Crc.rs; rw [if_neg h, ← bxor hl (by omega)]
      congr 1; omega
    have hd : decide ((2147483648 : Int) ≤ (r : Int)) = true := by simp; omega
    go_enter Try.func79, Try.ntmps79
    go_wp2
    go_ret
    exact ⟨ret_int (by rw [← HE.out]), rfl⟩
end Go.Proofs.Ytnjhbidialngmaa
namespace Go.Proofs.Ytnjhbidialngmaa
open Go.RowKit
set_option maxRecDepth 100000 in
set_option maxHeartbeats 400000 in
theorem bit_out (a : Option Addr) (n c i : Nat) (w : World) (hn : n ≤ 140737488351232) (hi : i ≤ 2000000000000000) (h : n ≤ i / 8) :
    Calls Try.prog 78 #[.slice a n c, .int .i64 (i : Int)] w fun e w' => e = .returned (.int .u32 0) ∧ w' = w := by
  have h1 : (n : Int) ≤ (i : Int) / 8 := by omega
  go_enter Try.func78, Try.ntmps78
  go_wp2
  go_ret
  exact ⟨rfl, rfl⟩
set_option maxRecDepth 100000 in
set_option maxHeartbeats 400000 in
theorem bit_in (b off n c i x : Nat) (w : World) (hn : n ≤ 140737488351232) (hi : i ≤ 2000000000000000) (h : i / 8 < n) (hc : w.cell? ⟨b, off + i / 8, none⟩ = some (.int .u8 (x : Int))) (_hx : x < 256) :
    Calls Try.prog 78 #[.slice (some ⟨b, off, none⟩) n c, .int .i64 (i : Int)] w fun e w' => e = .returned (.int .u32 ((x / 2 ^ (i % 8) % 2 : Nat) : Int)) ∧ w' = w := by
  have h1 : ¬ (n : Int) ≤ (i : Int) / 8 := by omega
  go_enter Try.func78, Try.ntmps78
  go_wp2
  go_ret
  exact ⟨rfl, rfl⟩
theorem bit_is (v : Value) (l : List Nat) (i : Nat) (w : World) (h : IsB w v l) (hn : l.length ≤ 140737488351232) (hi : i ≤ 2000000000000000) :
    Calls Try.prog 78 #[v, .int .i64 (i : Int)] w fun e w' => e = .returned (.int .u32 ((Crc.db l i : Nat) : Int)) ∧ w' = w := by
  by_cases hlt : i / 8 < l.length
  · obtain ⟨hb, hm, ⟨rfl, a, c, rfl⟩ | ⟨b, off, c, rfl, _, _, _, hr⟩⟩ := h
    · simp at hlt
    · exact bit_in b off l.length c i _ w hn hi hlt (hr _ hlt) (getD_lt hb _)
  · obtain ⟨a, c, rfl⟩ := h.shape
    have e : Crc.db l i = 0 := by
      unfold Crc.db
      rw [List.getD_eq_getElem?_getD, List.getElem?_eq_none (by omega)]; simp
    rw [e]
    exact bit_out a l.length c i w hn hi (by omega)
theorem tmod2 (x k : Nat) : (((x : Nat) : Int) / 2 ^ k).tmod 2 = ((x / 2 ^ k % 2 : Nat) : Int) := by
  have e : ((x : Nat) : Int) / 2 ^ k = ((x / 2 ^ k : Nat) : Int) := by simp
  rw [e, Int.tmod_eq_emod_of_nonneg (Int.natCast_nonneg _)]; rfl
set_option maxRecDepth 100000 in
set_option maxHeartbeats 400000 in
theorem goOn_is (s : Nat) (v : Value) (l : List Nat) (w : World) (hs : s < 4294967296) (h : IsB w v l) (hn : l.length ≤ 140737488351232) :
    Calls Try.prog 63 #[.int .u32 (s : Int), v] w fun e w' => e = .returned (.int .u32 ((Crc.go s l : Nat) : Int)) ∧ w' = w := by
  have HI := Vt.hd h
  obtain ⟨a, c, rfl⟩ := h.shape
  clear h
  have eN := bnot hs
  have lN := Crc.nt_lt s
  have HS : Hid (∀ k, (Crc.nt s ^^^ Crc.num l) / 2 ^ k % 2 = Crc.inb (Crc.nt s) l k) := fun k => Crc.inb_eq lN HI.out.1 k
  have HF : Hid (∀ r, Crc.tu r ^^^ (Crc.nt s ^^^ Crc.num l) / 2 ^ (8 * l.length + 32) * 4294967296 = Crc.mvN (8 * l.length + 32) ((Crc.nt s ^^^ Crc.num l) * 4294967296) → Crc.nt (Crc.tu r) = Crc.go s l) := fun r hr => Crc.rest_end hs HI.out.1 hr
  go_enter Try.func63, Try.ntmps63
  go_wp2
  go_loop [6, 7] (fun t i => ∃ k r : Nat, k ≤ 8 * l.length + 32 ∧ r < 4294967296 ∧ Crc.tu r ^^^ (Crc.nt s ^^^ Crc.num l) / 2 ^ k * 4294967296 = Crc.mvN k ((Crc.nt s ^^^ Crc.num l) * 4294967296) ∧ i = .int .i64 k ∧ t = .int .u32 (r : Int)) (fun _ i => 8 * l.length + 32 - (intOf i).toNat)
  case atStart => exact ⟨0, 0, by omega, by omega, by rw [show Crc.tu 0 = 0 by decide, Nat.zero_xor, Nat.pow_zero, Nat.div_one]; rfl, rfl, rfl⟩
  case round =>
    obtain ⟨k, r, hk, hr, hR, rfl, rfl⟩ := hrel
    have HR := Vt.hd hR
    clear hR
    have HB := Vt.hd (bit_is _ l k w HI.out hn (by omega))
    by_cases hlt : k < 8 * l.length + 32
    · have lb := Crc.inb_lt (Crc.nt s) l k
      have HN := Vt.hd (Crc.rest_succ hr HR.out)
      rw [HS.out k] at HN
      have HC := Vt.hd (step_any r _ w hr lb)
      by_cases h32 : k < 32
      · have hbx : bits .xor .u32 ((Crc.db l k : Nat) : Int) ((((Crc.nt s : Nat) : Int) / 2 ^ k).tmod 2) = ((Crc.inb (Crc.nt s) l k : Nat) : Int) := by
          unfold Crc.inb
          rw [if_pos h32, ← bxor (by unfold Crc.db; omega) (by omega), tmod2]
        generalize Crc.inb (Crc.nt s) l k = ib at *
        generalize Crc.db l k = dk at *
        generalize Crc.nt s = st at *
        go_wp2_with (first | (go_at_call 78; refine Calls.mono HB.out ?_; rintro e w' ⟨rfl, rfl⟩) | (go_at_call 79; refine Calls.mono HC.out ?_; rintro e w' ⟨rfl, rfl⟩))
        go_round
        case rel => exact ⟨k + 1, _, by omega, Crc.rs_lt _ _, HN.out, by go_num, rfl⟩
        case measure => simp [intOf]; omega
      · have hbx : Crc.db l k = Crc.inb (Crc.nt s) l k := by unfold Crc.inb; rw [if_neg h32]
        rw [hbx] at HB
        clear hbx
        generalize Crc.inb (Crc.nt s) l k = ib at *
        generalize Crc.nt s = st at *
        go_wp2_with (first | (go_at_call 78; refine Calls.mono HB.out ?_; rintro e w' ⟨rfl, rfl⟩) | (go_at_call 79; refine Calls.mono HC.out ?_; rintro e w' ⟨rfl, rfl⟩))
        go_round
        case rel => exact ⟨k + 1, _, by omega, Crc.rs_lt _ _, HN.out, by go_num, rfl⟩
        case measure => simp [intOf]; omega
    · obtain rfl : k = 8 * l.length + 32 := by omega
      have HE := Vt.hd (HF.out r HR.out)
      have HT := Vt.hd (turned_any r w hr)
      have eT := bnot (Crc.tu_lt r)
      clear HR HB
      go_wp2_with (go_at_call 80; refine Calls.mono HT.out ?_; rintro e w' ⟨rfl, rfl⟩)
      go_ret
      exact ⟨ret_int (congrArg _ HE.out), rfl⟩
end Go.Proofs.Ytnjhbidialngmaa
