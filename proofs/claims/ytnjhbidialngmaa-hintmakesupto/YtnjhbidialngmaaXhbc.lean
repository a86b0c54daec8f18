/-
  THE REFERENCE OF LAYER 4: length: the three digits behind a place.
  THE PRODUCT OF TWO POLYNOMIALS as Join works it, in plain mathematics: by the power x^k it is k moves.
-/
import Derived.Test.YtnjhbidialngmaaXhbb
import Derived.Test.YtnjhbidialngmaaXhal
import Derived.Test.YtnjhbidialngmaaXhai
namespace Go.Proofs.Ytnjhbidialngmaa
open Go.RowKit
namespace Vt
open Classical in
/-- what length answers: of the bytes from a place on -/
noncomputable def lnR (m : List Nat) : Nat × Nat := if ¬ ∀ x ∈ dig m, x < 128 then (0, 42) else if m.length < 4 then (0, 43) else (nm (dig m), 0)
theorem dig_at {m : List Nat} {j : Nat} (hj : j < 3) (hl : j + 1 < m.length) : m.getD (j + 1) 0 ∈ dig m := by
  unfold dig
  rw [List.getD_eq_getElem?_getD, List.getElem?_eq_getElem hl]
  refine List.mem_iff_getElem?.2 ⟨j, ?_⟩
  rw [List.getElem?_take_of_lt hj, List.getElem?_drop, show 1 + j = j + 1 by omega, List.getElem?_eq_getElem hl]
  rfl
theorem dig_next {m : List Nat} {j : Nat} (hl : j + 1 < m.length) : (m.drop 1).take (j + 1) = (m.drop 1).take j ++ [m.getD (j + 1) 0] := by
  have h : j < (m.drop 1).length := by rw [List.length_drop]; omega
  rw [take_succ_getD h, List.getD_eq_getElem?_getD, List.getD_eq_getElem?_getD, List.getElem?_drop, show 1 + j = j + 1 by omega]
theorem lnR_42 {m : List Nat} (h : ¬ ∀ x ∈ dig m, x < 128) : lnR m = (0, 42) := by unfold lnR; rw [if_pos h]
theorem lnR_43 {m : List Nat} (h : ∀ x ∈ dig m, x < 128) (h2 : m.length < 4) : lnR m = (0, 43) := by unfold lnR; rw [if_neg (fun q => q h), if_pos h2]
theorem lnR_0 {m : List Nat} (h : ∀ x ∈ dig m, x < 128) (h2 : ¬ m.length < 4) : lnR m = (nm (dig m), 0) := by unfold lnR; rw [if_neg (fun q => q h), if_neg h2]
attribute [local go_sem] Oper.semAt_some
set_option maxRecDepth 100000 in
set_option maxHeartbeats 1000000 in
theorem r4_length (b off c at_ : Nat) (l : List Nat) (w : World) (hI : IsB w (.slice (some ⟨b, off, none⟩) l.length c) l) (ha : at_ < l.length) (hm : l.length ≤ 9223372036854775000) :
    Calls Try.prog 85 #[.slice (some ⟨b, off, none⟩) l.length c, .int .i64 (at_ : Int)] w fun e w' => e = .returned (.tuple #[.int .i64 ((lnR (l.drop at_)).1 : Int), .int .i64 ((lnR (l.drop at_)).2 : Int)]) ∧ w' = w := by
  have HI := hd hI
  clear hI
  go_enter Try.func85, Try.ntmps85
  go_wp2_with fail
  go_loopw [6, 7] (fun x y wi => ∃ j : Nat, j ≤ 3 ∧ y = .int .i64 ((j + 1 : Nat) : Int) ∧ x = .int .i64 (nm (((l.drop at_).drop 1).take j) : Int) ∧ j + 1 ≤ (l.drop at_).length ∧ (∀ z ∈ ((l.drop at_).drop 1).take j, z < 128) ∧ wi = w) (fun _ y _ => 4 - (intOf y).toNat)
  case atStart => exact ⟨0, by omega, rfl, rfl, by rw [List.length_drop]; omega, by simp, rfl⟩
  case round =>
    obtain ⟨j, hj, rfl, rfl, hjl, hall, rfl⟩ := hrel
    have hdl : (l.drop at_).length = l.length - at_ := List.length_drop
    have HAL := hd hall
    have hnl := nm_lt hall
    have htl : (((l.drop at_).drop 1).take j).length = j := by rw [List.length_take, List.length_drop]; omega
    rw [htl] at hnl
    have hp : 128 ^ j ≤ 2097152 := Nat.le_trans (Nat.pow_le_pow_right (by omega) hj) (by decide)
    obtain ⟨nv, hnv⟩ : ∃ nv, nv = nm (((l.drop at_).drop 1).take j) := ⟨_, rfl⟩
    rw [← hnv] at hnl ⊢
    have HNV := hd hnv
    have hnb : nv < 2097152 := by omega
    clear hall hnl htl hp hnv
    by_cases hj3 : j < 3
    · have hj3' : ((j + 1 : Nat) : Int) ≤ 3 := by omega
      obtain ⟨J, hJ⟩ : ∃ J, J = j + 1 := ⟨_, rfl⟩
      rw [← hJ] at hj3' ⊢
      by_cases hsh : at_ + J < l.length
      · have hge : ¬ (at_ : Int) + (J : Int) ≥ (l.length : Int) := by omega
        obtain ⟨q, hq⟩ : ∃ q, q = at_ + J := ⟨_, rfl⟩
        have r0 := HI.out.row (at_ + J) hsh
        have hcb : l.getD (at_ + J) 0 < 256 := getD_lt HI.out.1 _
        have hgd : (l.drop at_).getD J 0 = l.getD (at_ + J) 0 := by rw [List.getD_eq_getElem?_getD, List.getD_eq_getElem?_getD, List.getElem?_drop]
        have hmem := dig_at (m := l.drop at_) hj3 (by rw [← hJ]; omega)
        have hnx := dig_next (m := l.drop at_) (j := j) (by rw [← hJ]; omega)
        rw [← hJ, hgd] at hmem hnx
        generalize l.getD (at_ + J) 0 = ch at *
        by_cases hbad : ch < 128
        · have hb1 : ¬ (ch : Int) > 127 := by omega
          have HNX : Hid (nm (((l.drop at_).drop 1).take J) = 128 * nv + ch) := hd (by rw [hnx, nm_snoc, HNV.out]; omega)
          have HAL2 : Hid (∀ z ∈ ((l.drop at_).drop 1).take J, z < 128) := fun z hz => by
            rw [hnx] at hz
            rcases List.mem_append.1 hz with h | h
            · exact HAL.out z h
            · rw [List.mem_singleton] at h; omega
          have HJJ := hd hJ
          clear hJ hq hgd hmem hnx
          go_wp2_with fail
          go_roundw
          case rel => exact ⟨J, by have := HJJ.out; omega, by go_num, by rw [HNX.out]; go_num, by have := HJJ.out; omega, HAL2.out, trivial⟩
          case measure => simp [intOf]; omega
        · have hb1 : (ch : Int) > 127 := by omega
          have HR := hd (lnR_42 (m := l.drop at_) (fun h => hbad (h _ hmem)))
          clear hJ hq hgd hmem hnx
          go_wp2_with fail
          go_ret2
          exact ⟨by rw [HR.out]; rfl, rfl⟩
      · have hge : (at_ : Int) + (J : Int) ≥ (l.length : Int) := by omega
        have hdg : dig (l.drop at_) = ((l.drop at_).drop 1).take j := by
          unfold dig
          rw [List.take_of_length_le (by rw [List.length_drop]; omega), List.take_of_length_le (by rw [List.length_drop]; omega)]
        have HR := hd (lnR_43 (m := l.drop at_) (by rw [hdg]; exact HAL.out) (by omega))
        clear hJ hdg
        go_wp2_with fail
        go_ret2
        exact ⟨by rw [HR.out]; rfl, rfl⟩
    · obtain rfl : j = 3 := by omega
      have HR := hd (lnR_0 (m := l.drop at_) HAL.out (by omega))
      have HD : Hid (nm (dig (l.drop at_)) = nv) := hd (by rw [HNV.out]; rfl)
      go_wp2_with fail
      go_ret2
      exact ⟨by rw [HR.out, HD.out]; rfl, rfl⟩
end Vt
end Go.Proofs.Ytnjhbidialngmaa
namespace Go.Proofs.Ytnjhbidialngmaa
namespace Crc
def mp : Nat → Nat → Nat → Nat
  | 0, _, _ => 0
  | j + 1, p, q => mp j p q ^^^ if p.testBit (31 - j) then mvN j q else 0
def one : Nat := 2147483648
end Crc
end Go.Proofs.Ytnjhbidialngmaa
