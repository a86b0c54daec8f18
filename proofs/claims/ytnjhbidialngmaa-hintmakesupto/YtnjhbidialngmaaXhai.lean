/-
  THE WALK OF escape.Next: bytes.IndexByte by the library's contract, laid at this program's numbers.
  THE PLAIN MATHEMATICS OF THE SUM, proved of natural numbers and without any condition beyond those that each row bears: a state moved by one bit is linear (exclusive or), so a sum is one number moved so often; tables by one byte and by eight, joining, four bytes that make a sum, runs of turned bits.
  THE WALKS OF THE SMALL FUNCTIONS of package crc: each call answers what the plain function of the text Math says, and leaves the world as it was.
  THE WALKS OF Bitwise, made, ByTable, of a slice of bytes in whatever memory: they answer what the plain function 'Crc.go' says, and leave the world as it was.
-/
import Derived.Test.YtnjhbidialngmaaXhae
import Derived.Shelf.Bytes.IndexByte
import Derived.Test.YtnjhbidialngmaaRows
import Derived.WalkKit
import Derived.WalkSpells
import Derived.WalkLawsBesides
import Derived.Laws.BitsAllLaws
namespace Go.Proofs.Ytnjhbidialngmaa
open Go.RowKit
namespace Vt
def ixRen : Go.Shelf.Ren := ⟨fun | 187 => 68 | 255 => 88 | n => n, fun | 3 => 3 | 5 => 5 | 37 => 36 | n => n, fun | n => n⟩
theorem ixLays : Go.Proofs.Lays.n187 Try.prog ixRen := {
  mixed := by kernel_rfl
  f187 := Try.func68.trans (congrArg some (by kernel_rfl))
  f255 := Try.func88.trans (congrArg some (by kernel_rfl))
  t3 := Try.underlying3
  a3 := Try.isAgg3
  z3 := Try.sizeOf3
  v3 := Try.zeroValue3
  t5 := Try.underlying5
  a5 := Try.isAgg5
  z5 := Try.sizeOf5
  v5 := Try.zeroValue5
  t37 := Try.underlying36
  a37 := Try.isAgg36
  z37 := Try.sizeOf36
  v37 := Try.zeroValue36 }
/-- the place of the first lead byte; how many bytes there are, if there is none -/
def nx (l : List Nat) : Nat := l.findIdx (· == 167)
theorem nx_le (l : List Nat) : nx l ≤ l.length := List.findIdx_le_length
def ixv (l : List Nat) : Int := if nx l < l.length then ((nx l : Nat) : Int) else -1
theorem ix_is {l : List Nat} (hb : Byt l) : Lib.indexByte (Lib.bytesOf (l.map fun x => ((x : Nat) : Int))) (167 : Int).toNat.toUInt8 = ixv l := by
  induction l with
  | nil => rfl
  | cons x r ih =>
    have ih2 := ih fun y hy => hb y (List.mem_cons_of_mem _ hy)
    have hx := hb x List.mem_cons_self
    have hrl := nx_le r
    rw [show Lib.bytesOf ((x :: r).map fun x => ((x : Nat) : Int)) = x.toUInt8 :: Lib.bytesOf (r.map fun x => ((x : Nat) : Int)) by simp [Lib.bytesOf], Lib.indexByte, ih2]
    unfold ixv at *
    have hc : nx (x :: r) = if x = 167 then 0 else nx r + 1 := by
      unfold nx
      rw [List.findIdx_cons]
      by_cases h : x = 167
      · subst h; rfl
      · have : (x == 167) = false := by rw [beq_eq_false_iff_ne]; exact h
        rw [this, if_neg h]; rfl
    rw [hc]
    by_cases h : x = 167
    · subst h; simp
    · have hne : (x.toUInt8 == (167 : Int).toNat.toUInt8) = false := by
        rw [beq_eq_false_iff_ne]
        intro e
        have := congrArg UInt8.toNat e
        simp at this
        omega
      rw [hne, if_neg h]
      simp only [List.length_cons]
      generalize nx r = m at *
      by_cases h2 : m < r.length
      · have : (((m : Nat) : Int) == -1) = false := by rw [beq_eq_false_iff_ne]; omega
        have h3 : m + 1 < r.length + 1 := by omega
        simp [h2, this]
      · have h3 : ¬ m + 1 < r.length + 1 := by omega
        simp [h2]
theorem index_is (b off n c : Nat) (l : List Nat) (w : World) (hn : n = l.length) (hb : Byt l) (hr : Row w b off l) :
    Calls Try.prog 68 #[.slice (some ⟨b, off, none⟩) n c, .int .u8 167] w fun e w' => e = .returned (.int .i64 (ixv l)) ∧ w' = w := by
  subst hn
  have := Any.bytes_IndexByte ixLays b off l.length c (l.map fun x => ((x : Nat) : Int)) 167 w (by simp) (fun i hi => by
    rw [hr i hi, List.getD_eq_getElem?_getD, List.getD_eq_getElem?_getD, List.getElem?_map, List.getElem?_eq_getElem hi]; rfl)
  rw [ix_is hb] at this
  exact this
/-- the place from which one looks -/
def frm (n : Nat) (z : Int) : Nat := min z.toNat n
def nxt (l : List Nat) (z : Int) : Nat := frm l.length z + nx (l.drop (frm l.length z))
set_option maxRecDepth 100000 in
set_option maxHeartbeats 400000 in
theorem next_row (b off c : Nat) (l : List Nat) (z : Int) (w : World) (hb : Byt l) (hr : Row w b off l) (hlc : l.length ≤ c) (hcm : c ≤ maxLen) :
    Calls Try.prog 47 #[.slice (some ⟨b, off, none⟩) l.length c, .int .i64 z] w fun e w' => e = .returned (.int .i64 ((nxt l z : Nat) : Int)) ∧ w' = w := by
  unfold maxLen at hcm
  obtain ⟨f, hf⟩ : ∃ f, f = frm l.length z := ⟨_, rfl⟩
  have hfl : f ≤ l.length := by rw [hf]; unfold frm; omega
  have e1 : min (max z 0) ((l.length : Nat) : Int) = (f : Int) := by rw [hf]; unfold frm; omega
  have hdl : (l.drop f).length = l.length - f := List.length_drop
  have HC : Hid (∀ o' : Nat, (f < l.length → o' = off + f) → Calls Try.prog 68 #[.slice (some ⟨b, o', none⟩) (l.length - f) (c - f), .int .u8 167] w fun e w' => e = .returned (.int .i64 (ixv (l.drop f))) ∧ w' = w) := by
    intro o' ho
    refine index_is b o' _ _ (l.drop f) w hdl.symm (byt_drop hb f) fun k hk => ?_
    rw [hdl] at hk
    rw [ho (by omega), Nat.add_assoc, hr (f + k) (by omega), List.getD_eq_getElem?_getD, List.getD_eq_getElem?_getD, List.getElem?_drop]
  have HN : Hid (nxt l z = f + nx (l.drop f)) := by
    show nxt l z = _
    unfold nxt; rw [hf]
  have hnx := nx_le (l.drop f)
  rw [hdl] at hnx
  have HX : Hid (ixv (l.drop f) = if nx (l.drop f) < l.length - f then ((nx (l.drop f) : Nat) : Int) else -1) := by
    show ixv (l.drop f) = _
    unfold ixv; rw [hdl]
  rw [HN.out]
  generalize nx (l.drop f) = q at *
  clear hf hr hb hdl
  by_cases hcf : c = f
  · have hlf : l.length = f := by omega
    have hq0 : q = 0 := by omega
    have HV : Hid (ixv (l.drop f) = -1) := by
      show ixv (l.drop f) = -1
      rw [HX.out, if_neg (by omega)]
    have HC2 := hd (HC.out off (by omega))
    rw [HV.out, hlf, hcf, Nat.sub_self] at HC2
    rw [hlf] at e1
    rw [hlf, hq0]
    subst hcf
    clear HX HV HN HC hlf hlc hnx hq0 hfl
    go_enter Try.func47, Try.ntmps47
    go_wp2_with fail
    refine Calls.mono HC2.out ?_
    rintro e w' ⟨rfl, rfl⟩
    clear HC2
    go_wp2_with fail
    go_ret
    exact ⟨rfl, rfl⟩
  · have HC2 := hd (HC.out (off + f) (fun _ => rfl))
    by_cases hq : q < l.length - f
    · have HV : Hid (ixv (l.drop f) = (q : Int)) := by
        show ixv (l.drop f) = (q : Int)
        rw [HX.out, if_pos hq]
      rw [HV.out] at HC2
      clear HX HV HN HC
      go_enter Try.func47, Try.ntmps47
      go_wp2_with fail
      refine Calls.mono HC2.out ?_
      rintro e w' ⟨rfl, rfl⟩
      clear HC2
      go_wp2_with fail
      go_ret
      exact ⟨rfl, rfl⟩
    · have HV : Hid (ixv (l.drop f) = -1) := by
        show ixv (l.drop f) = -1
        rw [HX.out, if_neg hq]
      rw [HV.out] at HC2
      have hfq : f + q = l.length := by omega
      rw [hfq]
      clear HX HV HN HC
      go_enter Try.func47, Try.ntmps47
      go_wp2_with fail
      refine Calls.mono HC2.out ?_
      rintro e w' ⟨rfl, rfl⟩
      clear HC2
      go_wp2_with fail
      go_ret
      exact ⟨rfl, rfl⟩
end Vt
end Go.Proofs.Ytnjhbidialngmaa
namespace Go.Proofs.Ytnjhbidialngmaa
namespace Crc

def mv (n : Nat) : Nat := if n % 2 = 1 then n / 2 ^^^ 2197175160 else n / 2
def mvN : Nat → Nat → Nat
  | 0, n => n
  | k + 1, n => mvN k (mv n)
def nt (n : Nat) : Nat := 4294967295 - n
def fe (s : Nat) (l : List Nat) : Nat := l.foldl (fun s b => mvN 8 (s ^^^ b)) s
theorem fe_nil (s : Nat) : fe s [] = s := by unfold fe; rw [List.foldl_nil]
theorem fe_cons (s b : Nat) (l : List Nat) : fe s (b :: l) = fe (mvN 8 (s ^^^ b)) l := by unfold fe; rw [List.foldl_cons]
def go (s : Nat) (l : List Nat) : Nat := nt (fe (nt s) l)
def num : List Nat → Nat
  | [] => 0
  | b :: l => b ^^^ num l * 256
def Byt (l : List Nat) : Prop := ∀ x ∈ l, x < 256

theorem xlc (a b c : Nat) : a ^^^ (b ^^^ c) = b ^^^ (a ^^^ c) := by
  rw [← Nat.xor_assoc, Nat.xor_comm a b, Nat.xor_assoc]
theorem xor_lt {a b : Nat} (ha : a < 4294967296) (hb : b < 4294967296) : a ^^^ b < 4294967296 := Nat.xor_lt_two_pow (n := 32) ha hb
theorem xor_lt8 {a b : Nat} (ha : a < 256) (hb : b < 256) : a ^^^ b < 256 := Nat.xor_lt_two_pow (n := 8) ha hb
theorem xor_mod_two (a b : Nat) : (a ^^^ b) % 2 = (a % 2) ^^^ (b % 2) := Nat.xor_mod_two_pow (n := 1)

theorem mv_xor (a b : Nat) : mv (a ^^^ b) = mv a ^^^ mv b := by
  unfold mv
  rw [xor_mod_two, Nat.xor_div_two]
  rcases Nat.mod_two_eq_zero_or_one a with ha | ha <;> rcases Nat.mod_two_eq_zero_or_one b with hb | hb <;> rw [ha, hb] <;> simp
  · rw [Nat.xor_assoc]
  · rw [Nat.xor_assoc, Nat.xor_assoc, Nat.xor_comm (b / 2)]
  · rw [Nat.xor_assoc, xlc 2197175160, Nat.xor_self, Nat.xor_zero]
theorem mvN_xor (k a b : Nat) : mvN k (a ^^^ b) = mvN k a ^^^ mvN k b := by
  induction k generalizing a b with
  | zero => rfl
  | succ k ih => simp only [mvN]; rw [mv_xor, ih]
theorem mvN_add (j k n : Nat) : mvN (j + k) n = mvN k (mvN j n) := by
  induction j generalizing n with
  | zero => simp [mvN]
  | succ j ih => rw [show j + 1 + k = (j + k) + 1 by omega]; simp only [mvN]; rw [ih]
theorem mvN_succ' (k n : Nat) : mvN (k + 1) n = mv (mvN k n) := by rw [mvN_add k 1]; rfl
theorem mv_two (x : Nat) : mv (x * 2) = x := by
  unfold mv; rw [if_neg (by omega)]; omega
theorem mvN_shl (k x : Nat) : mvN k (x * 2 ^ k) = x := by
  induction k generalizing x with
  | zero => simp [mvN]
  | succ k ih => simp only [mvN]; rw [Nat.pow_succ, ← Nat.mul_assoc, mv_two, ih]
theorem mvN_shl_add (j k x : Nat) : mvN (j + k) (x * 2 ^ j) = mvN k x := by rw [mvN_add, mvN_shl]
theorem mv_lt {n : Nat} (h : n < 4294967296) : mv n < 4294967296 := by
  unfold mv; split
  · exact xor_lt (by omega) (by omega)
  · omega
theorem mvN_lt (k : Nat) {n : Nat} (h : n < 4294967296) : mvN k n < 4294967296 := by
  induction k generalizing n with
  | zero => exact h
  | succ k ih => exact ih (mv_lt h)

def bk (m : Nat) : Nat := if m / 2147483648 = 1 then ((m ^^^ 2197175160) * 2 % 4294967296) ||| 1 else m * 2 % 4294967296
def bkN : Nat → Nat → Nat
  | 0, n => n
  | k + 1, n => bkN k (bk n)
theorem or_one (x : Nat) : (x * 2) ||| 1 = x * 2 + 1 := by
  have := Nat.two_pow_add_eq_or_of_lt (i := 1) (b := 1) (by omega) x
  rw [Nat.mul_comm x 2]; simpa using this.symm
theorem tb_false {n i : Nat} (h : n < 4294967296) (hi : 32 ≤ i) : n.testBit i = false := by
  apply Nat.testBit_lt_two_pow
  have h1 : (2 : Nat) ^ 32 ≤ 2 ^ i := Nat.pow_le_pow_right (by decide) hi
  have e : (2 : Nat) ^ 32 = 4294967296 := rfl
  omega
theorem nt_lt (n : Nat) : nt n < 4294967296 := by unfold nt; omega
theorem nt_nt {n : Nat} (h : n < 4294967296) : nt (nt n) = n := by unfold nt; omega
theorem nt_xor {n : Nat} (h : n < 4294967296) : nt n = n ^^^ 4294967295 := by
  apply Nat.eq_of_testBit_eq
  intro i
  have e : nt n = 2 ^ 32 - (n + 1) := by unfold nt; omega
  rw [e, Nat.testBit_two_pow_sub_succ (by omega), Nat.testBit_xor, show (4294967295 : Nat) = 2 ^ 32 - 1 by rfl, Nat.testBit_two_pow_sub_one]
  by_cases hi : i < 32
  · simp [hi]
  · have := tb_false h (by omega : 32 ≤ i)
    simp [hi, this]
theorem fe_num (s : Nat) (l : List Nat) : fe s l = mvN (8 * l.length) (s ^^^ num l) := by
  induction l generalizing s with
  | nil => rw [fe_nil, List.length_nil, num, Nat.mul_zero, mvN, Nat.xor_zero]
  | cons b l ih =>
    rw [fe_cons, num, List.length_cons, ih, show 8 * (l.length + 1) = 8 + 8 * l.length by omega, mvN_add, ← Nat.xor_assoc, mvN_xor 8 (s ^^^ b) (num l * 256), show mvN 8 (num l * 256) = num l from mvN_shl 8 (num l)]
theorem fe_append (s : Nat) (a b : List Nat) : fe s (a ++ b) = fe (fe s a) b := by
  unfold fe; rw [List.foldl_append]
theorem fe_lt {s : Nat} {l : List Nat} (hs : s < 4294967296) (hl : Byt l) : fe s l < 4294967296 := by
  induction l generalizing s with
  | nil => rw [fe_nil]; exact hs
  | cons b l ih =>
    rw [fe_cons]
    exact ih (mvN_lt 8 (xor_lt hs (by have := hl b (by simp); omega))) (fun x hx => hl x (by simp [hx]))
theorem go_lt (s : Nat) (l : List Nat) : go s l < 4294967296 := nt_lt _
theorem go_nil {s : Nat} (h : s < 4294967296) : go s [] = s := by unfold go; rw [fe_nil]; exact nt_nt h
theorem go_append {s : Nat} {a : List Nat} (b : List Nat) (ha : Byt a) : go s (a ++ b) = go (go s a) b := by
  unfold go
  rw [fe_append, nt_nt (fe_lt (nt_lt s) ha)]

/-! the step by one table, by eight -/
def tb (k b : Nat) : Nat := mvN (8 * (k + 1)) b
theorem split_at (k s : Nat) : s = s % 2 ^ k ^^^ s / 2 ^ k * 2 ^ k := by
  apply Nat.eq_of_testBit_eq
  intro i
  rw [Nat.testBit_xor, Nat.testBit_mod_two_pow, Nat.testBit_mul_two_pow, Nat.testBit_div_two_pow]
  by_cases h : i < k
  · have h' : ¬ k ≤ i := by omega
    simp [h, h']
  · have h' : k ≤ i := by omega
    simp [h, h', Nat.sub_add_cancel h']
theorem split256 (s : Nat) : s = s % 256 ^^^ s / 256 * 256 := split_at 8 s
theorem step_tb (s b : Nat) : mvN 8 (s ^^^ b) = tb 0 (s % 256 ^^^ b) ^^^ s / 256 := by
  have e : s ^^^ b = (s % 256 ^^^ b) ^^^ s / 256 * 2 ^ 8 := by
    have h := split256 s
    rw [show (2 : Nat) ^ 8 = 256 by rfl, Nat.xor_assoc, Nat.xor_comm b, ← Nat.xor_assoc, ← h]
  rw [e, mvN_xor, mvN_shl]; rfl
theorem step_tb0 (s : Nat) : mvN 8 s = tb 0 (s % 256) ^^^ s / 256 := by
  have := step_tb s 0; simpa using this
theorem tb_succ (k b : Nat) : tb (k + 1) b = tb 0 (tb k b % 256) ^^^ tb k b / 256 := by
  rw [← step_tb0]; unfold tb; rw [show 8 * (k + 1 + 1) = 8 * (k + 1) + 8 by omega, mvN_add]
theorem tb_lt (k : Nat) {b : Nat} (h : b < 256) : tb k b < 4294967296 := mvN_lt _ (by omega)
theorem tb01 : tb 0 1 ≠ 0 := by decide

theorem split4 {x : Nat} (h : x < 4294967296) : x = x % 256 ^^^ (x / 256 % 256 * 2 ^ 8 ^^^ (x / 65536 % 256 * 2 ^ 16 ^^^ x / 16777216 % 256 * 2 ^ 24)) := by
  apply Nat.eq_of_testBit_eq
  intro i
  rw [show (256 : Nat) = 2 ^ 8 by rfl, show (65536 : Nat) = 2 ^ 16 by rfl, show (16777216 : Nat) = 2 ^ 24 by rfl]
  simp only [Nat.testBit_xor, Nat.testBit_mod_two_pow, Nat.testBit_mul_two_pow, Nat.testBit_div_two_pow]
  by_cases h1 : i < 8
  · have a1 : ¬ 8 ≤ i := by omega
    have a2 : ¬ 16 ≤ i := by omega
    have a3 : ¬ 24 ≤ i := by omega
    simp [h1, a1, a2, a3]
  by_cases h2 : i < 16
  · have a1 : 8 ≤ i := by omega
    have a2 : ¬ 16 ≤ i := by omega
    have a3 : ¬ 24 ≤ i := by omega
    have a4 : i - 8 < 8 := by omega
    simp [h1, a1, a2, a3, a4]
  by_cases h3 : i < 24
  · have a1 : 8 ≤ i := by omega
    have a2 : 16 ≤ i := by omega
    have a3 : ¬ 24 ≤ i := by omega
    have a4 : i - 16 < 8 := by omega
    have a5 : ¬ i - 8 < 8 := by omega
    simp [h1, a1, a2, a3, a4, a5]
  by_cases h4 : i < 32
  · have a1 : 8 ≤ i := by omega
    have a2 : 16 ≤ i := by omega
    have a3 : 24 ≤ i := by omega
    have a4 : i - 24 < 8 := by omega
    have a5 : ¬ i - 8 < 8 := by omega
    have a6 : ¬ i - 16 < 8 := by omega
    simp [h1, a1, a2, a3, a4, a5, a6]
  · have a4 : ¬ i - 24 < 8 := by omega
    have a5 : ¬ i - 8 < 8 := by omega
    have a6 : ¬ i - 16 < 8 := by omega
    have := tb_false h (by omega : 32 ≤ i)
    simp [h1, a4, a5, a6, this]
/-- four moves of a table each -/
theorem four_tb (k : Nat) {x : Nat} (h : x < 4294967296) :
    mvN (32 + 8 * k) x = tb (k + 3) (x % 256) ^^^ (tb (k + 2) (x / 256 % 256) ^^^ (tb (k + 1) (x / 65536 % 256) ^^^ tb k (x / 16777216 % 256))) := by
  have e := split4 h
  rw [show mvN (32 + 8 * k) x = mvN (32 + 8 * k) (x % 256 ^^^ (x / 256 % 256 * 2 ^ 8 ^^^ (x / 65536 % 256 * 2 ^ 16 ^^^ x / 16777216 % 256 * 2 ^ 24))) from congrArg _ e]
  rw [mvN_xor, mvN_xor, mvN_xor]
  rw [show mvN (32 + 8 * k) (x / 256 % 256 * 2 ^ 8) = tb (k + 2) (x / 256 % 256) by
    rw [show 32 + 8 * k = 8 + 8 * (k + 2 + 1) by omega, mvN_shl_add]; rfl]
  rw [show mvN (32 + 8 * k) (x / 65536 % 256 * 2 ^ 16) = tb (k + 1) (x / 65536 % 256) by
    rw [show 32 + 8 * k = 16 + 8 * (k + 1 + 1) by omega, mvN_shl_add]; rfl]
  rw [show mvN (32 + 8 * k) (x / 16777216 % 256 * 2 ^ 24) = tb k (x / 16777216 % 256) by
    rw [show 32 + 8 * k = 24 + 8 * (k + 1) by omega, mvN_shl_add]; rfl]
  rw [show 32 + 8 * k = 8 * (k + 3 + 1) by omega]; rfl
def le4 (a b c d : Nat) : Nat := a ||| b * 256 ||| c * 65536 ||| d * 16777216
theorem or_shl (k x y : Nat) (h : x < 2 ^ k) : x ||| y * 2 ^ k = x ^^^ y * 2 ^ k := by
  apply Nat.eq_of_testBit_eq
  intro i
  rw [Nat.testBit_or, Nat.testBit_xor, Nat.testBit_mul_two_pow]
  by_cases hi : k ≤ i
  · have : x.testBit i = false := Nat.testBit_lt_two_pow (Nat.lt_of_lt_of_le h (Nat.pow_le_pow_right (by omega) hi))
    simp [this]
  · simp [hi]
theorem num4 {a b c d : Nat} (ha : a < 256) (hb : b < 256) (hc : c < 256) (_hd : d < 256) : le4 a b c d = num [a, b, c, d] := by
  unfold le4
  have e1 : a ||| b * 256 = a ^^^ b * 256 := or_shl 8 a b (by omega)
  have l1 : a ^^^ b * 256 < 2 ^ 16 := Nat.xor_lt_two_pow (by omega) (by omega)
  have e2 : (a ^^^ b * 256) ||| c * 65536 = (a ^^^ b * 256) ^^^ c * 65536 := or_shl 16 _ c l1
  have l2 : (a ^^^ b * 256) ^^^ c * 65536 < 2 ^ 24 := Nat.xor_lt_two_pow (Nat.lt_of_lt_of_le l1 (by decide)) (by omega)
  have e3 : ((a ^^^ b * 256) ^^^ c * 65536) ||| d * 16777216 = ((a ^^^ b * 256) ^^^ c * 65536) ^^^ d * 16777216 := or_shl 24 _ d l2
  rw [e1, e2, e3]
  simp only [num, Nat.zero_mul, Nat.xor_zero]
  have xm : ∀ x y : Nat, (x ^^^ y) * 256 = x * 256 ^^^ y * 256 := by
    intro x y
    have := Nat.shiftLeft_xor_distrib (i := 8) (a := x) (b := y)
    simpa [Nat.shiftLeft_eq] using this
  rw [xm, xm]
  rw [xm, show c * 256 * 256 = c * 65536 by omega, show d * 256 * 256 * 256 = d * 16777216 by omega, Nat.xor_assoc, Nat.xor_assoc]
theorem xor_mul256 (x y : Nat) : (x ^^^ y) * 256 = x * 256 ^^^ y * 256 := by
  have := Nat.shiftLeft_xor_distrib (i := 8) (a := x) (b := y)
  simpa [Nat.shiftLeft_eq] using this
theorem xor_mul_pow (k x y : Nat) : (x ^^^ y) * 2 ^ k = x * 2 ^ k ^^^ y * 2 ^ k := by
  have := Nat.shiftLeft_xor_distrib (i := k) (a := x) (b := y)
  simpa [Nat.shiftLeft_eq] using this
theorem num_append (a b : List Nat) : num (a ++ b) = num a ^^^ num b * 2 ^ (8 * a.length) := by
  induction a with
  | nil => simp [num]
  | cons x a ih =>
    simp only [List.cons_append, num, ih, List.length_cons]
    rw [xor_mul256, Nat.mul_assoc, show (256 : Nat) = 2 ^ 8 by rfl, ← Nat.pow_add, show 8 * a.length + 8 = 8 * (a.length + 1) by omega, Nat.xor_assoc]
theorem num_lt {l : List Nat} (h : Byt l) : num l < 2 ^ (8 * l.length) := by
  induction l with
  | nil => simp [num]
  | cons x l ih =>
    have hx := h x (by simp)
    have hl := ih (fun y hy => h y (by simp [hy]))
    simp only [num, List.length_cons]
    have e : 2 ^ (8 * (l.length + 1)) = 2 ^ (8 * l.length) * 256 := by rw [show 8 * (l.length + 1) = 8 * l.length + 8 by omega, Nat.pow_add]
    have p : 0 < 2 ^ (8 * l.length) := Nat.pow_pos (by omega)
    exact Nat.xor_lt_two_pow (by rw [e]; omega) (by rw [e]; exact (Nat.mul_lt_mul_right (by omega)).2 hl)
theorem num4_lt {a b c d : Nat} (ha : a < 256) (hb : b < 256) (hc : c < 256) (hd : d < 256) : num [a, b, c, d] < 4294967296 := by
  have b1 : Byt [a, b, c, d] := by intro x hx; simp at hx; rcases hx with rfl | rfl | rfl | rfl <;> assumption
  have h := num_lt b1
  have e : 2 ^ (8 * [a, b, c, d].length) = 4294967296 := by simp
  omega
/-- eight bytes by eight tables -/
theorem eight_tb {s a b c d e f g h : Nat} (hs : s < 4294967296) (ha : a < 256) (hb : b < 256) (hc : c < 256) (hd : d < 256) (he : e < 256) (hf : f < 256) (hg : g < 256) (hh : h < 256)
    {x y : Nat} (hx : x = s ^^^ le4 a b c d) (hy : y = le4 e f g h) :
    fe s [a, b, c, d, e, f, g, h] = (tb 7 (x % 256) ^^^ (tb 6 (x / 256 % 256) ^^^ (tb 5 (x / 65536 % 256) ^^^ tb 4 (x / 16777216 % 256)))) ^^^ (tb 3 (y % 256) ^^^ (tb 2 (y / 256 % 256) ^^^ (tb 1 (y / 65536 % 256) ^^^ tb 0 (y / 16777216 % 256)))) := by
  have n1 := num4 ha hb hc hd
  have n2 := num4 he hf hg hh
  have l1 : le4 a b c d < 4294967296 := by rw [n1]; exact num4_lt ha hb hc hd
  have l2 : le4 e f g h < 4294967296 := by rw [n2]; exact num4_lt he hf hg hh
  have hxl : x < 4294967296 := by rw [hx]; exact xor_lt hs l1
  have hyl : y < 4294967296 := by rw [hy]; exact l2
  have p1 := four_tb 4 hxl
  have p2 := four_tb 0 hyl
  rw [fe_num, show [a, b, c, d, e, f, g, h] = [a, b, c, d] ++ [e, f, g, h] from rfl, num_append, ← Nat.xor_assoc, ← n1, ← n2, ← hx, ← hy, mvN_xor]
  rw [show mvN (8 * ([a, b, c, d] ++ [e, f, g, h]).length) x = mvN (32 + 8 * 4) x from rfl, p1]
  rw [show mvN (8 * ([a, b, c, d] ++ [e, f, g, h]).length) (y * 2 ^ (8 * [a, b, c, d].length)) = mvN (32 + (32 + 8 * 0)) (y * 2 ^ 32) from rfl, mvN_shl_add, p2]

/-! Forge -/
def fg (s w : Nat) : Nat := bkN 32 (nt w) ^^^ nt s
def by4 (x : Nat) : List Nat := [x % 256, x / 256 % 256, x / 65536 % 256, x / 16777216 % 256]
/-! what holds -/
theorem go_num {s : Nat} {l : List Nat} (hs : s < 4294967296) (hl : Byt l) : go s l = mvN (8 * l.length) ((s ^^^ 4294967295) ^^^ num l) ^^^ 4294967295 := by
  unfold go
  rw [nt_xor (fe_lt (nt_lt s) hl), fe_num, nt_xor hs]
def zx (a b : List Nat) : List Nat := List.zipWith (· ^^^ ·) a b
end Crc
end Go.Proofs.Ytnjhbidialngmaa
namespace Go.Proofs.Ytnjhbidialngmaa
open Go.RowKit

theorem ret_int {k : IntKind} {a b : Int} (h : a = b) : Ending.returned (.int k a) = .returned (.int k b) := by rw [h]
theorem bxor {a b : Nat} (ha : a < 4294967296) (hb : b < 4294967296) : bits .xor .u32 (a : Int) (b : Int) = ((a ^^^ b : Nat) : Int) := u32_xor_nat a b ha hb
theorem band1 {n : Nat} (h : n < 4294967296) : bits .and .u32 (n : Int) 1 = ((n % 2 : Nat) : Int) := by
  have := u32_and_nat n 1 h (by omega)
  rw [show ((1 : Nat) : Int) = 1 from rfl] at this
  rw [this, Nat.and_one_is_mod]
theorem mv_odd {n : Nat} (h : n < 4294967296) (h1 : (bits .and .u32 (n : Int) 1 == 1) = true) : bits .xor .u32 ((n : Int) / 2) 2197175160 = ((Crc.mv n : Nat) : Int) := by
  rw [band1 h] at h1
  have e : n % 2 = 1 := by simp at h1; omega
  unfold Crc.mv
  rw [if_pos e, ← bxor (by omega) (by omega)]; rfl
theorem mv_even {n : Nat} (h : n < 4294967296) (h1 : (bits .and .u32 (n : Int) 1 == 1) = false) : ((n : Int) / 2) = ((Crc.mv n : Nat) : Int) := by
  rw [band1 h] at h1
  have e : ¬ n % 2 = 1 := by simp at h1; omega
  unfold Crc.mv
  rw [if_neg e]; rfl
set_option maxHeartbeats 400000 in
theorem moveBit_any (n : Nat) (w : World) (h : n < 4294967296) :
    Calls Try.prog 96 #[.int .u32 (n : Int)] w fun e w' => e = .returned (.int .u32 ((Crc.mv n : Nat) : Int)) ∧ w' = w := by
  go_enter Try.func96, Try.ntmps96
  go_wp2
  all_goals go_ret
  · exact ⟨ret_int (mv_odd h (by assumption)), rfl⟩
  · exact ⟨ret_int (mv_even h (by assumption)), rfl⟩
set_option maxHeartbeats 400000 in
theorem moveByte_any (n : Nat) (w : World) (h : n < 4294967296) :
    Calls Try.prog 74 #[.int .u32 (n : Int)] w fun e w' => e = .returned (.int .u32 ((Crc.mvN 8 n : Nat) : Int)) ∧ w' = w := by
  go_enter Try.func74, Try.ntmps74
  go_wp2
  go_loop [0, 3] (fun t i => ∃ k : Nat, k ≤ 8 ∧ i = .int .i64 k ∧ t = .int .u32 ((Crc.mvN k n : Nat) : Int)) (fun _ i => 8 - (intOf i).toNat)
  case atStart => exact ⟨0, Nat.zero_le _, rfl, rfl⟩
  case round =>
    obtain ⟨k, hk, rfl, rfl⟩ := hrel
    by_cases hlt : k < 8
    · go_wp2_with (go_at_call 96; refine (moveBit_any _ _ (Crc.mvN_lt k h)).mono ?_; rintro e w' ⟨rfl, rfl⟩)
      go_round
      case rel => exact ⟨k + 1, by omega, by go_num, by rw [Crc.mvN_succ']⟩
      case measure => simp [intOf]; omega
    · obtain rfl : k = 8 := by omega
      go_wp2
      go_ret
      exact ⟨rfl, rfl⟩
end Go.Proofs.Ytnjhbidialngmaa
namespace Go.Proofs.Ytnjhbidialngmaa
open Go.RowKit

/-- A row of bytes in memory. -/
def Row (w : World) (b off : Nat) (l : List Nat) : Prop := ∀ k, k < l.length → w.cell? ⟨b, off + k, none⟩ = some (.int .u8 ((l.getD k 0 : Nat) : Int))
/-- A slice value that reads as the bytes l. -/
def IsB (w : World) (v : Value) (l : List Nat) : Prop :=
  Crc.Byt l ∧ l.length ≤ maxLen ∧ ((l = [] ∧ ∃ a c, v = .slice a 0 c) ∨ ∃ b off c, v = .slice (some ⟨b, off, none⟩) l.length c ∧ l.length ≤ c ∧ c ≤ maxLen ∧ b < w.heap.size ∧ Row w b off l)

theorem u8_u32 (n : Nat) (h : n < 256) : IntKind.u32.wrap (n : Int) = (n : Int) := by rw [IntKind.wrap_u32']; omega
theorem getD_lt {l : List Nat} (h : Crc.Byt l) (k : Nat) : l.getD k 0 < 256 := by
  rw [List.getD_eq_getElem?_getD]
  cases e : l[k]? with
  | none => simp
  | some x => exact h x (List.mem_of_getElem? e)
theorem take_succ_getD {l : List Nat} {k : Nat} (h : k < l.length) : l.take (k + 1) = l.take k ++ [l.getD k 0] := by
  rw [List.take_succ_eq_append_getElem h, List.getD_eq_getElem?_getD, List.getElem?_eq_getElem h]; rfl
theorem byt_take {l : List Nat} (h : Crc.Byt l) (k : Nat) : Crc.Byt (l.take k) := fun x hx => h x (List.mem_of_mem_take hx)
theorem byt_drop {l : List Nat} (h : Crc.Byt l) (k : Nat) : Crc.Byt (l.drop k) := fun x hx => h x (List.mem_of_mem_drop hx)
theorem fe_snoc (s : Nat) (l : List Nat) (b : Nat) : Crc.fe s (l ++ [b]) = Crc.mvN 8 (Crc.fe s l ^^^ b) := by rw [Crc.fe_append, Crc.fe_cons, Crc.fe_nil]

theorem bnot {n : Nat} (h : n < 4294967296) : bits .xor .u32 IntKind.u32.max (n : Int) = ((Crc.nt n : Nat) : Int) := by
  have e : IntKind.u32.max = ((4294967295 : Nat) : Int) := by simp [IntKind.max, IntKind.bits, IntKind.signed]
  rw [e, bxor (by omega) h, Crc.nt_xor h, Nat.xor_comm]

set_option maxHeartbeats 400000 in
theorem bitwise_nil (s : Nat) (a : Option Addr) (c : Nat) (w : World) (hs : s < 4294967296) :
    Calls Try.prog 58 #[.int .u32 (s : Int), .slice a 0 c] w fun e w' => e = .returned (.int .u32 ((Crc.go s [] : Nat) : Int)) ∧ w' = w := by
  go_enter Try.func58, Try.ntmps58
  go_wp2
  go_loop [5, 12] (fun t i => i = .int .i64 0 ∧ t = .int .u32 ((Crc.nt s : Nat) : Int)) (fun _ _ => 0)
  case atStart => exact ⟨rfl, by rw [bnot hs]⟩
  case round =>
    obtain ⟨rfl, rfl⟩ := hrel
    go_wp2
    go_ret
    exact ⟨ret_int (by rw [bnot (Crc.nt_lt s), Crc.go, Crc.fe_nil]), rfl⟩
set_option maxHeartbeats 400000 in
theorem bitwise_row (s : Nat) (b off c : Nat) (l : List Nat) (w : World) (hs : s < 4294967296) (hb : Crc.Byt l) (hm : l.length ≤ maxLen) (hr : Row w b off l) :
    Calls Try.prog 58 #[.int .u32 (s : Int), .slice (some ⟨b, off, none⟩) l.length c] w fun e w' => e = .returned (.int .u32 ((Crc.go s l : Nat) : Int)) ∧ w' = w := by
  unfold maxLen at hm
  go_enter Try.func58, Try.ntmps58
  go_wp2
  go_loop [5, 12] (fun t i => ∃ k : Nat, k ≤ l.length ∧ i = .int .i64 k ∧ t = .int .u32 ((Crc.fe (Crc.nt s) (l.take k) : Nat) : Int)) (fun _ i => l.length - (intOf i).toNat)
  case atStart => exact ⟨0, Nat.zero_le _, rfl, by rw [bnot hs, List.take_zero, Crc.fe_nil]⟩
  case round =>
    obtain ⟨k, hk, rfl, rfl⟩ := hrel
    have hst := Crc.fe_lt (Crc.nt_lt s) (byt_take hb k)
    by_cases hlt : k < l.length
    · have hc := hr k hlt
      have hx := getD_lt hb k
      have HT : Hid (l.take (k + 1) = l.take k ++ [l.getD k 0]) := take_succ_getD hlt
      generalize l.getD k 0 = x at hc hx HT
      go_wp2_with fail
      rw [bxor hst (by omega)]
      refine (moveByte_any _ _ (Crc.xor_lt hst (by omega))).mono ?_
      rintro e w' ⟨rfl, rfl⟩
      go_wp2
      go_round
      case rel => exact ⟨k + 1, by omega, by go_num, by rw [HT.out, fe_snoc]⟩
      case measure => simp [intOf]; omega
    · have e : k = l.length := by omega
      subst e
      go_wp2
      go_ret
      rw [List.take_length] at hst
      exact ⟨ret_int (by rw [bnot hst, Crc.go]), rfl⟩
theorem bitwise_is (s : Nat) (v : Value) (l : List Nat) (w : World) (hs : s < 4294967296) (h : IsB w v l) :
    Calls Try.prog 58 #[.int .u32 (s : Int), v] w fun e w' => e = .returned (.int .u32 ((Crc.go s l : Nat) : Int)) ∧ w' = w := by
  obtain ⟨hb, hm, ⟨rfl, a, c, rfl⟩ | ⟨b, off, c, rfl, _, _, _, hr⟩⟩ := h
  · exact bitwise_nil s a c w hs
  · exact bitwise_row s b off c l w hs hb hm hr

/-- The tables in memory. -/
def Tab (w : World) (B : Nat) : Prop := ∀ k b, k < 8 → b < 256 → w.cell? ⟨B, k * 256 + b, none⟩ = some (.int .u32 ((Crc.tb k b : Nat) : Int))
set_option maxHeartbeats 400000 in
theorem made_yes (B : Nat) (w : World) (h : w.cell? ⟨B, 1, none⟩ = some (.int .u32 ((Crc.tb 0 1 : Nat) : Int))) :
    Calls Try.prog 75 #[.pointer (some ⟨B, 0, none⟩)] w fun e w' => e = .returned (.bool true) ∧ w' = w := by
  have hn : (((Crc.tb 0 1 : Nat) : Int) != 0) = true := by
    have := Crc.tb01
    simp; omega
  generalize Crc.tb 0 1 = t at *
  go_enter Try.func75, Try.ntmps75
  go_wp2
  go_ret
  exact ⟨rfl, rfl⟩
end Go.Proofs.Ytnjhbidialngmaa
