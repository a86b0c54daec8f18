/-
  A FRAME WHOSE ESCAPED BODY OR SUM IS ANOTHER ONE IS NONE, PLAINLY.
-/
import Derived.Test.YtbcibgjphjlffaaM2
import Derived.Test.YtbcibgjphjlffaaMath3
namespace Go.Proofs.Ytbcibgjphjlffaa
open Go.RowKit
namespace Vt
theorem dcd_bad (W T : List Nat) (hl : W.length < 2097152) (hT : T.length = 5) (h : ¬ ((∀ x ∈ T, x < 128) ∧ nm T = Crc.go 0 (dg 3 W.length ++ W))) : (decF (167 :: (dg 3 W.length ++ (W ++ T))) 0).2.2 ≠ 0 := by
  have hN3 : nm (dg 3 W.length) = W.length := by rw [nm_dg, p3]; omega
  have d3 := dg_len 3 W.length
  have hdig : dig (167 :: (dg 3 W.length ++ (W ++ T))) = dg 3 W.length := by
    unfold dig
    rw [List.drop_succ_cons, List.drop_zero, List.take_append_of_le_length (by omega), List.take_of_length_le (by omega)]
  have hlen : (167 :: (dg 3 W.length ++ (W ++ T))).length = W.length + 9 := by simp [d3, hT]; omega
  have hrl : rl (167 :: (dg 3 W.length ++ (W ++ T))) = (W.length, 0) := by
    have := rl_0 (l := 167 :: (dg 3 W.length ++ (W ++ T))) rfl (by rw [hdig]; exact dg_lt _ _) (by rw [hlen]; omega) (by rw [hdig, hN3, hlen]; omega)
    rw [this, hdig, hN3]
  have h4 : (167 :: (dg 3 W.length ++ (W ++ T))).drop 4 = W ++ T := by
    rw [show (4 : Nat) = 3 + 1 by omega, List.drop_succ_cons, List.drop_left' d3]
  have hE : ((167 :: (dg 3 W.length ++ (W ++ T))).drop 4).take W.length = W := by rw [h4, List.take_left]
  have hT' : ((167 :: (dg 3 W.length ++ (W ++ T))).drop (4 + W.length)).take 5 = T := by
    rw [← List.drop_drop, h4, List.drop_left, List.take_of_length_le (by omega)]
  have hM : ((167 :: (dg 3 W.length ++ (W ++ T))).drop 1).take (3 + W.length) = dg 3 W.length ++ W := by
    rw [List.drop_succ_cons, List.drop_zero, ← List.append_assoc, List.take_left' (by rw [List.length_append, d3])]
  unfold decF
  rw [if_neg (by rw [hlen]; omega), show (0 : Int).toNat = 0 from rfl, List.drop_zero]
  unfold dcd
  rw [hrl]
  simp only
  rw [hE, hT', hM, if_neg (by simp)]
  by_cases c : nx W < W.length
  · rw [if_pos c]; simp
  · rw [if_neg c, if_pos h]; simp
/-- a run of bits turned in the escaped body -/
theorem hit_bad {W W' : List Nat} {S q t : Nat} (hl : W.length < 2097152) (hlen : W'.length = W.length) (hb : Byt W) (hb' : Byt W') (hS : Crc.go 0 (dg 3 W.length ++ W) = S) (hn : Crc.num W' = Crc.num W ^^^ q * 2 ^ t) (ht : t ≤ 8 * W.length) (hq : q < 4294967296) (h0 : q ≠ 0) : (decF (167 :: (dg 3 W.length ++ (W' ++ dg 5 S))) 0).2.2 ≠ 0 := by
  have hlt := Crc.go_lt 0 (dg 3 W.length ++ W)
  rw [hS] at hlt
  have := dcd_bad W' (dg 5 S) (by omega) (dg_len _ _) (by
    rintro ⟨_, h2⟩
    rw [nm_dg, p5, Nat.mod_eq_of_lt (by omega), hlen, ← hS] at h2
    refine Crc.burst (a := dg 3 W.length ++ W) (b := dg 3 W.length ++ W') (q := q) (t := t + 24) (by simp [hlen]) (byt_app (dg_byt _ _) hb) (byt_app (dg_byt _ _) hb') ?_ (by rw [List.length_append, dg_len]; omega) hq h0 h2
    rw [Crc.num_append, Crc.num_append, hn, dg_len, Crc.xor_mul_pow, ← Nat.xor_assoc, Nat.mul_assoc, ← Nat.pow_add])
  rw [hlen] at this
  exact this
/-- a digit of the sum that is another one -/
theorem turned_bad {W : List Nat} {S d y : Nat} (hl : W.length < 2097152) (hS : Crc.go 0 (dg 3 W.length ++ W) = S) (hd : d < 5) (hy : y ≠ 0) : (decF (167 :: (dg 3 W.length ++ (W ++ (dg 5 S).set d ((dg 5 S).getD d 0 ^^^ y)))) 0).2.2 ≠ 0 := by
  have hlt := Crc.go_lt 0 (dg 3 W.length ++ W)
  rw [hS] at hlt
  refine dcd_bad W _ hl (by rw [List.length_set, dg_len]) ?_
  rintro ⟨h1, h2⟩
  have h3 := dg_nm h1
  rw [List.length_set, dg_len, h2, hS] at h3
  have h4 := congrArg (fun l => l.getD d 0) h3
  have h5 : ((dg 5 S).set d ((dg 5 S).getD d 0 ^^^ y)).getD d 0 = (dg 5 S).getD d 0 ^^^ y := by
    rw [List.getD_eq_getElem?_getD, List.getElem?_set_self (by rw [dg_len]; exact hd)]; rfl
  have h6 : (dg 5 S).getD d 0 = (dg 5 S).getD d 0 ^^^ y := h4.trans h5
  have h7 : (dg 5 S).getD d 0 ^^^ ((dg 5 S).getD d 0 ^^^ y) = 0 := by rw [← h6, Nat.xor_self]
  rw [← Nat.xor_assoc, Nat.xor_self, Nat.zero_xor] at h7
  exact hy h7
theorem set_mid (H W T : List Nat) (j y : Nat) (hj : j < W.length) : (H ++ (W ++ T)).set (H.length + j) y = H ++ (W.set j y ++ T) := by
  rw [List.set_append_right _ _ (by omega), Nat.add_sub_cancel_left, List.set_append_left _ _ hj]
theorem get_mid (H W T : List Nat) (j : Nat) (hj : j < W.length) : (H ++ (W ++ T)).getD (H.length + j) 0 = W.getD j 0 := by
  rw [List.getD_eq_getElem?_getD, List.getD_eq_getElem?_getD, List.getElem?_append_right (by omega), Nat.add_sub_cancel_left, List.getElem?_append_left hj]
theorem set_end (H W T : List Nat) (j y : Nat) : (H ++ (W ++ T)).set (H.length + W.length + j) y = H ++ (W ++ T.set j y) := by
  rw [List.set_append_right _ _ (by omega), List.set_append_right _ _ (by omega), show H.length + W.length + j - H.length - W.length = j by omega]
theorem get_end (H W T : List Nat) (j : Nat) : (H ++ (W ++ T)).getD (H.length + W.length + j) 0 = T.getD j 0 := by
  rw [List.getD_eq_getElem?_getD, List.getD_eq_getElem?_getD, List.getElem?_append_right (by omega), List.getElem?_append_right (by omega), show H.length + W.length + j - H.length - W.length = j by omega]
theorem ftmod2 (x k : Nat) : (((x : Nat) : Int) / 2 ^ k).tmod 2 = ((x / 2 ^ k % 2 : Nat) : Int) := by
  have e : ((x : Nat) : Int) / 2 ^ k = ((x / 2 ^ k : Nat) : Int) := by simp
  rw [e, Int.tmod_eq_emod_of_nonneg (Int.natCast_nonneg _)]; rfl
theorem fodd_step {q k : Nat} (hq : q < 2 ^ k) (ho : 0 < k → q % 2 = 1) : (q ^^^ 2 ^ k) % 2 = 1 := by
  rw [Crc.xor_mod_two]
  cases k with
  | zero => rw [show q = 0 by simpa using hq]; decide
  | succ k => rw [ho (by omega), Nat.pow_succ, Nat.mul_mod_left]; decide
end Vt
end Go.Proofs.Ytbcibgjphjlffaa
