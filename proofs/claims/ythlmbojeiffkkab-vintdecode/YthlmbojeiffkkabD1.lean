/-
  THE WALK OF the document's own Decode (salvorref2): what the plain function 'dec' says.
-/
import Derived.Test.YthlmbojeiffkkabV7
namespace Go.Proofs.Ythlmbojeiffkkab
open Go.RowKit
namespace Vt
theorem num_drop (l : List Nat) (i : Nat) (hi : i < l.length) : num (l.drop i) = l.getD i 0 % 128 + 128 * num (l.drop (i + 1)) := by
  rw [List.drop_eq_getElem_cons hi, num, List.getD_eq_getElem?_getD, List.getElem?_eq_getElem hi]; rfl
theorem num_drop_le (l : List Nat) (i : Nat) : num (l.drop i) ≤ num l := by
  have h : num l = num (l.take i) + 128 ^ (l.take i).length * num (l.drop i) := by rw [← num_append, List.take_append_drop]
  have h2 := Nat.le_mul_of_pos_left (num (l.drop i)) (pw_pos (l.take i).length)
  omega
set_option maxRecDepth 100000 in
set_option maxHeartbeats 1000000 in
theorem ref_row (b off c : Nat) (l : List Nat) (w : World) (hb : Byt l) (hr : Row w b off l) (hlc : l.length ≤ c) (hm : c ≤ maxLen) :
    Calls Try.prog 10 #[.slice (some ⟨b, off, none⟩) l.length c] w fun e w' => e = .returned (ans (dec l)) ∧ w' = w := by
  unfold maxLen at hm
  have HR := hd hr
  have HB := hd hb
  clear hr hb
  go_enter Try.func10, Try.ntmps10
  go_wp2_with fail
  go_loop [5] (fun i => ∃ k : Nat, k ≤ l.length ∧ k ≤ 10 ∧ i = .int .i64 (k : Int) ∧ ∀ j, j < k → 128 ≤ l.getD j 0) (fun i => 10 - (intOf i).toNat)
  case atStart => exact ⟨0, by omega, by omega, rfl, by intro j hj; omega⟩
  case round =>
    obtain ⟨k, hk, hk10, rfl, he⟩ := hrel
    have HE := hd he
    clear he
    by_cases h10 : k = 10
    · subst h10
      have HD : Hid (dec l = (0, 0, 22)) := by
        show dec l = (0, 0, 22)
        rw [dec_none (M := 10) (by omega) HE.out, if_neg (by omega)]
      go_wp2_with fail
      all_goals (go_ret3; exact ⟨by rw [HD.out]; rfl, rfl⟩)
    · by_cases hlen : k = l.length
      · have HD : Hid (dec l = (0, 0, 21)) := by
          show dec l = (0, 0, 21)
          rw [dec_none (M := l.length) (by omega) (by rw [← hlen]; exact HE.out), if_pos (by omega)]
        subst hlen
        go_wp2_with fail
        all_goals (go_ret3; exact ⟨by rw [HD.out]; rfl, rfl⟩)
      · have hkl : k < l.length := by omega
        have hk9 : k < 10 := by omega
        have hkle : ¬ l.length ≤ k := by omega
        have hkne : ((k : Int) == 10) = false := by simp; omega
        have hkne2 : ((k : Int) == (l.length : Int)) = false := by simp; omega
        have hc := HR.out k (by omega)
        have hx := getD_lt HB.out k
        obtain ⟨x, hxe⟩ : ∃ x, x = l.getD k 0 := ⟨_, rfl⟩
        have HX := hd hxe
        rw [← hxe] at hc hx
        clear hxe
        by_cases h128 : 128 ≤ x
        · go_wp2_with fail
          go_round
          case rel =>
            refine ⟨k + 1, by omega, by omega, by go_num, fun j hj => ?_⟩
            rcases Nat.lt_or_ge j k with h | h
            · exact HE.out j h
            · rw [show j = k by omega, ← HX.out]; exact h128
          case measure => simp [intOf]; omega
        · have HD := hd (dec_at HB.out HE.out (show k < l.length by omega) (by omega) (by rw [← HX.out]; omega))
          rw [← HX.out] at HD
          by_cases h9 : k = 9 ∧ 1 < x
          · obtain ⟨rfl, h1⟩ := h9
            rw [if_pos ⟨rfl, h1⟩] at HD
            go_wp2_with fail
            go_ret3
            exact ⟨by rw [← HD.out]; rfl, rfl⟩
          · rw [if_neg (by omega)] at HD
            by_cases hcan : 0 < k ∧ x = 0
            · rw [if_pos ⟨by omega, hcan.2⟩] at HD
              have hk0 : 0 < k := hcan.1
              have hx0 : ((x : Int) == 0) = true := by simp; omega
              have hx1 : ¬ (1 : Int) < (x : Int) := by omega
              have hx2 : ¬ 1 < x := by omega
              have hx3 : x < 128 := by omega
              clear hcan h9 h128 hx
              by_cases h9e : k = 9
              · have hb9 : ((k : Int) == 9) = true := by simp; omega
                clear h9e
                go_wp2_with fail
                go_ret3
                exact ⟨by rw [← HD.out]; rfl, rfl⟩
              · have hb9 : ((k : Int) == 9) = false := by simp; omega
                clear h9e
                go_wp2_with fail
                go_ret3
                exact ⟨by rw [← HD.out]; rfl, rfl⟩
            · rw [if_neg (by omega)] at HD
              have hlt64 := (dec_ok HB.out HD.out.symm).2.2.2.2.1
              have hnum : num (l.take (k + 1)) < 18446744073709551616 := by
                by_cases h9 : k = 9
                · have hx1 : x ≤ 1 := by omega
                  rw [take_succ_getD (by omega), ← HX.out, num_append]
                  have hq := num_lt (l.take k)
                  rw [List.length_take, show min k l.length = 9 by omega] at hq ⊢
                  simp only [num, Nat.mul_zero, Nat.add_zero]
                  rw [Nat.mod_eq_of_lt (by omega)]
                  have e : (128 : Nat) ^ 9 = 9223372036854775808 := by decide
                  rw [e] at hq ⊢
                  omega
                · have hq := num_lt (l.take (k + 1))
                  rw [List.length_take] at hq
                  have : 128 ^ min (k + 1) l.length ≤ 128 ^ 9 := Nat.pow_le_pow_right (by omega) (by omega)
                  have e : (128 : Nat) ^ 9 = 9223372036854775808 := by decide
                  omega
              rw [Nat.mod_eq_of_lt hnum] at HD
              clear hlt64
              by_cases h9e : k = 9
              · have hb9 : ((k : Int) == 9) = true := by simp; omega
                have hx1 : ¬ 1 < x := by omega
                have hk0 : 0 < k := by omega
                have hx0 : ((x : Int) == 0) = false := by simp; omega
                clear h9e hcan h9 h128 hx
                go_wp2_with fail
                go_loop [6, 7] (fun s i => ∃ (z : Int) (q : Nat), z + 1 = (q : Int) ∧ q ≤ k + 1 ∧ i = .int .i64 z ∧ s = .int .u64 ((num ((l.take (k + 1)).drop q) : Nat) : Int)) (fun _ i => (intOf i + 1).toNat)
                case atStart => exact ⟨k, k + 1, by omega, by omega, rfl, by rw [List.drop_of_length_le (by rw [List.length_take]; omega)]; rfl⟩
                case round =>
                  obtain ⟨z, q, hz, hq, rfl, rfl⟩ := hrel
                  by_cases hq0 : q = 0
                  · subst hq0
                    obtain rfl : z = -1 := by omega
                    rw [List.drop_zero]
                    obtain ⟨n, hn⟩ : ∃ n, n = num (l.take (k + 1)) := ⟨_, rfl⟩
                    rw [← hn] at HD ⊢
                    clear hn
                    go_wp2_with fail
                    go_ret3
                    exact ⟨by rw [← HD.out]; rfl, rfl⟩
                  · obtain ⟨p, rfl⟩ : ∃ p, q = p + 1 := ⟨q - 1, by omega⟩
                    obtain rfl : z = (p : Int) := by omega
                    have hpc := HR.out p (by omega)
                    have hpx := getD_lt HB.out p
                    have hnd := num_drop (l.take (k + 1)) p (by rw [List.length_take]; omega)
                    have hge : (l.take (k + 1)).getD p 0 = l.getD p 0 := by
                      rw [List.getD_eq_getElem?_getD, List.getD_eq_getElem?_getD, List.getElem?_take_of_lt (by omega)]
                    have hle := num_drop_le (l.take (k + 1)) p
                    rw [hge] at hnd
                    rw [hnd] at hle
                    have HND := hd hnd
                    generalize num ((l.take (k + 1)).drop (p + 1)) = n at *
                    generalize l.getD p 0 = y at *
                    have hpl : p < l.length := by omega
                    have hfit : 128 * n + y % 128 < 18446744073709551616 := by omega
                    clear hnd hge hle hnum
                    go_wp2_with fail
                    go_round
                    case rel =>
                      refine ⟨(p : Int) - 1, p, by omega, by omega, rfl, ?_⟩
                      rw [HND.out]
                      congr 1
                      omega
                    case measure => simp [intOf]
              · have hb9 : ((k : Int) == 9) = false := by simp; omega
                have hx3 : x < 128 := by omega
                by_cases hk0 : 0 < k
                · have hx0 : ((x : Int) == 0) = false := by simp; omega
                  clear h9e hcan h9 h128 hx
                  go_wp2_with fail
                  go_loop [6, 7] (fun s i => ∃ (z : Int) (q : Nat), z + 1 = (q : Int) ∧ q ≤ k + 1 ∧ i = .int .i64 z ∧ s = .int .u64 ((num ((l.take (k + 1)).drop q) : Nat) : Int)) (fun _ i => (intOf i + 1).toNat)
                  case atStart => exact ⟨k, k + 1, by omega, by omega, rfl, by rw [List.drop_of_length_le (by rw [List.length_take]; omega)]; rfl⟩
                  case round =>
                    obtain ⟨z, q, hz, hq, rfl, rfl⟩ := hrel
                    by_cases hq0 : q = 0
                    · subst hq0
                      obtain rfl : z = -1 := by omega
                      rw [List.drop_zero]
                      obtain ⟨n, hn⟩ : ∃ n, n = num (l.take (k + 1)) := ⟨_, rfl⟩
                      rw [← hn] at HD ⊢
                      clear hn
                      go_wp2_with fail
                      go_ret3
                      exact ⟨by rw [← HD.out]; rfl, rfl⟩
                    · obtain ⟨p, rfl⟩ : ∃ p, q = p + 1 := ⟨q - 1, by omega⟩
                      obtain rfl : z = (p : Int) := by omega
                      have hpc := HR.out p (by omega)
                      have hpx := getD_lt HB.out p
                      have hnd := num_drop (l.take (k + 1)) p (by rw [List.length_take]; omega)
                      have hge : (l.take (k + 1)).getD p 0 = l.getD p 0 := by
                        rw [List.getD_eq_getElem?_getD, List.getD_eq_getElem?_getD, List.getElem?_take_of_lt (by omega)]
                      have hle := num_drop_le (l.take (k + 1)) p
                      rw [hge] at hnd
                      rw [hnd] at hle
                      have HND := hd hnd
                      generalize num ((l.take (k + 1)).drop (p + 1)) = n at *
                      generalize l.getD p 0 = y at *
                      have hpl : p < l.length := by omega
                      have hfit : 128 * n + y % 128 < 18446744073709551616 := by omega
                      clear hnd hge hle hnum
                      go_wp2_with fail
                      go_round
                      case rel =>
                        refine ⟨(p : Int) - 1, p, by omega, by omega, rfl, ?_⟩
                        rw [HND.out]
                        congr 1
                        omega
                      case measure => simp [intOf]
                · clear h9e hcan h9 h128 hx
                  go_wp2_with fail
                  go_loop [6, 7] (fun s i => ∃ (z : Int) (q : Nat), z + 1 = (q : Int) ∧ q ≤ k + 1 ∧ i = .int .i64 z ∧ s = .int .u64 ((num ((l.take (k + 1)).drop q) : Nat) : Int)) (fun _ i => (intOf i + 1).toNat)
                  case atStart => exact ⟨k, k + 1, by omega, by omega, rfl, by rw [List.drop_of_length_le (by rw [List.length_take]; omega)]; rfl⟩
                  case round =>
                    obtain ⟨z, q, hz, hq, rfl, rfl⟩ := hrel
                    by_cases hq0 : q = 0
                    · subst hq0
                      obtain rfl : z = -1 := by omega
                      rw [List.drop_zero]
                      obtain ⟨n, hn⟩ : ∃ n, n = num (l.take (k + 1)) := ⟨_, rfl⟩
                      rw [← hn] at HD ⊢
                      clear hn
                      go_wp2_with fail
                      go_ret3
                      exact ⟨by rw [← HD.out]; rfl, rfl⟩
                    · obtain ⟨p, rfl⟩ : ∃ p, q = p + 1 := ⟨q - 1, by omega⟩
                      obtain rfl : z = (p : Int) := by omega
                      have hpc := HR.out p (by omega)
                      have hpx := getD_lt HB.out p
                      have hnd := num_drop (l.take (k + 1)) p (by rw [List.length_take]; omega)
                      have hge : (l.take (k + 1)).getD p 0 = l.getD p 0 := by
                        rw [List.getD_eq_getElem?_getD, List.getD_eq_getElem?_getD, List.getElem?_take_of_lt (by omega)]
                      have hle := num_drop_le (l.take (k + 1)) p
                      rw [hge] at hnd
                      rw [hnd] at hle
                      have HND := hd hnd
                      generalize num ((l.take (k + 1)).drop (p + 1)) = n at *
                      generalize l.getD p 0 = y at *
                      have hpl : p < l.length := by omega
                      have hfit : 128 * n + y % 128 < 18446744073709551616 := by omega
                      clear hnd hge hle hnum
                      go_wp2_with fail
                      go_round
                      case rel =>
                        refine ⟨(p : Int) - 1, p, by omega, by omega, rfl, ?_⟩
                        rw [HND.out]
                        congr 1
                        omega
                      case measure => simp [intOf]
set_option maxRecDepth 100000 in
set_option maxHeartbeats 400000 in
theorem ref_nil (a : Option Addr) (c : Nat) (w : World) :
    Calls Try.prog 10 #[.slice a 0 c] w fun e w' => e = .returned (ans (dec [])) ∧ w' = w := by
  go_enter Try.func10, Try.ntmps10
  go_wp2_with fail
  go_loop [5] (fun i => i = .int .i64 0) (fun _ => 0)
  case atStart => exact rfl
  case round =>
    obtain rfl := hrel
    go_wp2_with fail
    go_ret3
    exact ⟨rfl, rfl⟩
theorem ref_is (v : Value) (l : List Nat) (w : World) (h : IsB w v l) :
    Calls Try.prog 10 #[v] w fun e w' => e = .returned (ans (dec l)) ∧ w' = w := by
  obtain ⟨hl, _, ⟨rfl, a, c, rfl⟩ | ⟨b, off, c, rfl, h1, h2, _, hr⟩⟩ := h
  · exact ref_nil a c w
  · exact ref_row b off c l w hl hr h1 h2
end Vt
end Go.Proofs.Ythlmbojeiffkkab
