/-
  THE REFERENCE OF LAYER 4: length: the three digits behind a place.
  THE PRODUCT OF TWO POLYNOMIALS as Join works it, in plain mathematics: by the power x^k it is k moves.
-/
import Derived.Test.YtabfgoojhangnaaXebt
import Derived.Test.YtabfgoojhangnaaXeaw
import Derived.Test.YtabfgoojhangnaaXear
namespace Go.Proofs.Ytabfgoojhangnaa
open Go.RowKit
namespace Vt
open Classical in
/-- what length answers: of the bytes from a place on -/
noncomputable def lnR (m : List Nat) : Nat × Nat := if ¬ ∀ x ∈ dig m, x < 128 then (0, 42) else if m.length < 4 then (0, 43) else (nm (dig m), 0)
theorem dig_at {m : List Nat} {j : Nat} (hj : j < 3) (hl : j + 1 < m.length) : m.getD (j + 1) 0 ∈ dig m := by
  unfold dig
  rw [List.getD_eq_getElem?_getD, List.getElem?_eq_getElem hl]
  refine List.mem_iff_getElem?.2 ⟨j, ?_⟩
  rw [List.getElem?_take_of_lt hj, List.getElem?_drop, show 1 + j = j + 1 by omega, List.getElem?_eq_getElem hl]
  rfl
theorem dig_next {m : List Nat} {j : Nat} (hl : j + 1 < m.length) : (m.drop 1).take (j + 1) = (m.drop 1).take j ++ [m.getD (j + 1) 0] := by
  have h : j < (m.drop 1).length := by rw [List.length_drop]; omega
  rw [take_succ_getD h, List.getD_eq_getElem?_getD, List.getD_eq_getElem?_getD, List.getElem?_drop, show 1 + j = j + 1 by omega]
theorem lnR_42 {m : List Nat} (h : ¬ ∀ x ∈ dig m, x < 128) : lnR m = (0, 42) := by unfold lnR; rw [if_pos h]
theorem lnR_43 {m : List Nat} (h : ∀ x ∈ dig m, x < 128) (h2 : m.length < 4) : lnR m = (0, 43) := by unfold lnR; rw [if_neg (fun q => q h), if_pos h2]
theorem lnR_0 {m : List Nat} (h : ∀ x ∈ dig m, x < 128) (h2 : ¬ m.length < 4) : lnR m = (nm (dig m), 0) := by unfold lnR; rw [if_neg (fun q => q h), if_neg h2]
attribute [local go_sem] Oper.semAt_some
set_option maxRecDepth 100000 in
set_option maxHeartbeats 1000000 in
theorem r4_length (b off c at_ : Nat) (l : List Nat) (w : World) (hI : IsB w (.slice (some ⟨b, off, none⟩) l.length c) l) (ha : at_ < l.length) (hm : l.length ≤ 9223372036854775000) :
    Calls Try.prog 34 #[.slice (some ⟨b, off, none⟩) l.length c, .int .i64 (at_ : Int)] w fun e w' => e = .returned (.tuple #[.int .i64 ((lnR (l.drop at_)).1 : Int), .int .i64 ((lnR (l.drop at_)).2 : Int)]) ∧ w' = w := by
  have HI := hd hI
  clear hI
  go_enter Try.func34, Try.ntmps34
  go_wp2_with fail
  go_loopw [6, 7] (fun x y wi => ∃ j : Nat, j ≤ 3 ∧ y = .int .i64 ((j + 1 : Nat) : Int) ∧ x = .int .i64 (nm (((l.drop at_).drop 1).take j) : Int) ∧ j + 1 ≤ (l.drop at_).length ∧ (∀ z ∈ ((l.drop at_).drop 1).take j, z < 128) ∧ wi = w) (fun _ y _ => 4 - (intOf y).toNat)
  case atStart => exact ⟨0, by omega, rfl, rfl, by rw [List.length_drop]; omega, by simp, rfl⟩
  case round =>
    obtain ⟨j, hj, rfl, rfl, hjl, hall, rfl⟩ := hrel
    have hdl : (l.drop at_).length = l.length - at_ := List.length_drop
    have HAL := hd hall
    have hnl := nm_lt hall
    have htl : (((l.drop at_).drop 1).take j).length = j := by rw [List.length_take, List.length_drop]; omega
    rw [htl] at hnl
    have hp : 128 ^ j ≤ 2097152 := Nat.le_trans (Nat.pow_le_pow_right (by omega) hj) (by decide)
    obtain ⟨nv, hnv⟩ : ∃ nv, nv = nm (((l.drop at_).drop 1).take j) := ⟨_, rfl⟩
    rw [← hnv] at hnl ⊢
    have HNV := hd hnv
    have hnb : nv < 2097152 := by omega
    clear hall hnl htl hp hnv
    by_cases hj3 : j < 3
    · have hj3' : ((j + 1 : Nat) : Int) ≤ 3 := by omega
      obtain ⟨J, hJ⟩ : ∃ J, J = j + 1 := ⟨_, rfl⟩
      rw [← hJ] at hj3' ⊢
      by_cases hsh : at_ + J < l.length
      · have hge : ¬ (at_ : Int) + (J : Int) ≥ (l.length : Int) := by omega
        obtain ⟨q, hq⟩ : ∃ q, q = at_ + J := ⟨_, rfl⟩
        have r0 := HI.out.row (at_ + J) hsh
        have hcb : l.getD (at_ + J) 0 < 256 := getD_lt HI.out.1 _
        have hgd : (l.drop at_).getD J 0 = l.getD (at_ + J) 0 := by rw [List.getD_eq_getElem?_getD, List.getD_eq_getElem?_getD, List.getElem?_drop]
        have hmem := dig_at (m := l.drop at_) hj3 (by rw [← hJ]; omega)
        have hnx := dig_next (m := l.drop at_) (j := j) (by rw [← hJ]; omega)
        rw [← hJ, hgd] at hmem hnx
        generalize l.getD (at_ + J) 0 = ch at *
        by_cases hbad : ch < 128
        · have hb1 : ¬ (ch : Int) > 127 := by omega
          have HNX : Hid (nm (((l.drop at_).drop 1).take J) = 128 * nv + ch) := hd (by rw [hnx, nm_snoc, HNV.out]; omega)
          have HAL2 : Hid (∀ z ∈ ((l.drop at_).drop 1).take J, z < 128) := fun z hz => by
            rw [hnx] at hz
            rcases List.mem_append.1 hz with h | h
            · exact HAL.out z h
            · rw [List.mem_singleton] at h; omega
          have HJJ := hd hJ
          clear hJ hq hgd hmem hnx
          go_wp2_with fail
          go_roundw
          case rel => exact ⟨J, by have := HJJ.out; omega, by go_num, by rw [HNX.out]; go_num, by have := HJJ.out; omega, HAL2.out, trivial⟩
          case measure => simp [intOf]; omega
        · have hb1 : (ch : Int) > 127 := by omega
          have HR := hd (lnR_42 (m := l.drop at_) (fun h => hbad (h _ hmem)))
          clear hJ hq hgd hmem hnx
          go_wp2_with fail
          go_ret2
          exact ⟨by rw [HR.out]; rfl, rfl⟩
      · have hge : (at_ : Int) + (J : Int) ≥ (l.length : Int) := by omega
        have hdg : dig (l.drop at_) = ((l.drop at_).drop 1).take j := by
          unfold dig
          rw [List.take_of_length_le (by rw [List.length_drop]; omega), List.take_of_length_le (by rw [List.length_drop]; omega)]
        have HR := hd (lnR_43 (m := l.drop at_) (by rw [hdg]; exact HAL.out) (by omega))
        clear hJ hdg
        go_wp2_with fail
        go_ret2
        exact ⟨by rw [HR.out]; rfl, rfl⟩
    · obtain rfl : j = 3 := by omega
      have HR := hd (lnR_0 (m := l.drop at_) HAL.out (by omega))
      have HD : Hid (nm (dig (l.drop at_)) = nv) := hd (by rw [HNV.out]; rfl)
      go_wp2_with fail
      go_ret2
      exact ⟨by rw [HR.out, HD.out]; rfl, rfl⟩
end Vt
end Go.Proofs.Ytabfgoojhangnaa
namespace Go.Proofs.Ytabfgoojhangnaa
namespace Crc
def mp : Nat → Nat → Nat → Nat
  | 0, _, _ => 0
  | j + 1, p, q => mp j p q ^^^ if p.testBit (31 - j) then mvN j q else 0
def one : Nat := 2147483648
theorem one_lt : one < 4294967296 := by decide
theorem mvN_comm (j k n : Nat) : mvN j (mvN k n) = mvN k (mvN j n) := by rw [← mvN_add, ← mvN_add, Nat.add_comm]
theorem mp_mv (j p k q : Nat) : mp j p (mvN k q) = mvN k (mp j p q) := by
  induction j with
  | zero => rw [mp, mp, mvN_zero]
  | succ j ih =>
    rw [mp, mp, ih, mvN_xor, mvN_comm j k]
    congr 1
    split
    · rfl
    · rw [mvN_zero]
theorem mp_lt (j p : Nat) {q : Nat} (h : q < 4294967296) : mp j p q < 4294967296 := by
  induction j with
  | zero => rw [mp]; omega
  | succ j ih =>
    rw [mp]
    refine xor_lt ih ?_
    split
    · exact mvN_lt j h
    · omega
theorem mvN_one {j : Nat} (h : j ≤ 31) : mvN j one = 2 ^ (31 - j) := by
  have e : one = 2 ^ (31 - j) * 2 ^ j := by rw [← Nat.pow_add, show 31 - j + j = 31 by omega]; rfl
  rw [e, mvN_shl]
theorem mp_one {j : Nat} (p i : Nat) (h : j ≤ 32) : (mp j p one).testBit i = (decide (32 - j ≤ i ∧ i < 32) && p.testBit i) := by
  induction j with
  | zero =>
    rw [mp, Nat.zero_testBit]
    have : ¬ (32 - 0 ≤ i ∧ i < 32) := by omega
    simp [this]
  | succ j ih =>
    rw [mp, Nat.testBit_xor, ih (by omega), mvN_one (by omega)]
    by_cases e : i = 31 - j
    · subst e
      have h1 : ¬ (32 - j ≤ 31 - j ∧ 31 - j < 32) := by omega
      have h2 : 32 - (j + 1) ≤ 31 - j ∧ 31 - j < 32 := by omega
      rw [decide_eq_false h1, decide_eq_true h2]
      cases hp : p.testBit (31 - j) <;> simp
    · have h3 : (32 - j ≤ i ∧ i < 32) ↔ (32 - (j + 1) ≤ i ∧ i < 32) := by omega
      have h4 : (if p.testBit (31 - j) = true then 2 ^ (31 - j) else 0).testBit i = false := by
        split
        · rw [Nat.testBit_two_pow]; simp; omega
        · exact Nat.zero_testBit i
      rw [h4, Bool.xor_false, decide_eq_decide.2 h3]
theorem mul_pow {p : Nat} (hp : p < 4294967296) (k : Nat) : mp 32 p (mvN k one) = mvN k p := by
  rw [mp_mv]
  congr 1
  apply Nat.eq_of_testBit_eq
  intro i
  rw [mp_one p i (by omega)]
  by_cases h : i < 32
  · simp [h]
  · rw [tb_false hp (by omega)]; simp
theorem top_bit {x : Nat} (h : x < 4294967296) : (x / 2147483648 = 1) = (x.testBit 31 = true) := by
  rw [Nat.testBit_eq_decide_div_mod_eq]
  have e : (2 : Nat) ^ 31 = 2147483648 := rfl
  rw [e]; simp; omega
theorem shl_bit {p j i : Nat} (h : i + j < 32) : (p * 2 ^ j % 4294967296).testBit (i + j) = p.testBit i := by
  rw [show (4294967296 : Nat) = 2 ^ 32 by rfl, Nat.testBit_mod_two_pow, Nat.testBit_mul_two_pow]
  simp [h]
theorem mp_rest {p q j : Nat} (h : p * 2 ^ j % 4294967296 = 0) (d : Nat) (hd : j + d ≤ 32) : mp (j + d) p q = mp j p q := by
  induction d with
  | zero => rfl
  | succ d ih =>
    rw [← Nat.add_assoc, mp, ih (by omega)]
    have e := shl_bit (p := p) (j := j) (i := 31 - (j + d)) (by omega)
    rw [h, Nat.zero_testBit] at e
    rw [← e]; simp
theorem go_mul {a n : Nat} (ha : a < 4294967296) {l : List Nat} (hl : Byt l) (hn : n = l.length) : mp 32 a (mvN (8 * n) one) ^^^ go 0 l = go a l := by
  rw [mul_pow ha, hn, ← go_join ha hl]
end Crc
end Go.Proofs.Ytabfgoojhangnaa
