/-
  THE WALKS OF the document's own ends, Parse, Pair.
-/
import Derived.Test.YtglnhppgoomehaaNm4
namespace Go.Proofs.Ytglnhppgoomehaa
open Go.RowKit
namespace Nam
open Vt
/-- digits read one by one, what is none as 0 -/
def vm : List Nat → Nat
  | [] => 0
  | x :: r => hv x % 16 * 16 ^ r.length + vm r
theorem vm_snoc (l : List Nat) (x : Nat) : vm (l ++ [x]) = 16 * vm l + hv x % 16 := by
  rw [Nat.mul_comm]
  induction l with
  | nil => simp [vm]
  | cons y r ih =>
    simp only [List.cons_append, vm, ih, List.length_append, List.length_singleton, Nat.pow_succ, Nat.add_mul, Nat.mul_assoc]
    omega
theorem vm_lt (l : List Nat) : vm l < 16 ^ l.length := by
  induction l with
  | nil => simp [vm]
  | cons y r ih =>
    have h3 : hv y % 16 * 16 ^ r.length ≤ 15 * 16 ^ r.length := Nat.mul_le_mul_right _ (by omega)
    simp only [vm, List.length_cons, Nat.pow_succ]
    omega
theorem vm_val {l : List Nat} (h : ∀ x ∈ l, hv x < 16) : vm l = val l := by
  induction l with
  | nil => rfl
  | cons y r ih =>
    simp only [vm, val]
    rw [ih fun x hx => h x (List.mem_cons_of_mem _ hx), Nat.mod_eq_of_lt (h y List.mem_cons_self)]
theorem vm_mk {c n : Nat} (hn : Nu n) : vm (((mk c n).take 12).drop 4) = n := by
  have e : ((mk c n).take 12).drop 4 = hex 8 n := by
    rw [List.drop_take]; unfold mk; exact mid_mk c _ (hex_len 8 n)
  rw [e, vm_val (hex_good 8 n), val_hex8 hn.2]
/-- held against what Make gives: the class's number -/
theorem numIn_vm {c : Nat} {l : List Nat} : (Nu (vm ((l.take 12).drop 4)) ∧ mk c (vm ((l.take 12).drop 4)) = l ∧ numIn c l = vm ((l.take 12).drop 4)) ∨ (¬ (Nu (vm ((l.take 12).drop 4)) ∧ mk c (vm ((l.take 12).drop 4)) = l) ∧ numIn c l = 0) := by
  by_cases h : Nu (vm ((l.take 12).drop 4)) ∧ mk c (vm ((l.take 12).drop 4)) = l
  · refine .inl ⟨h.1, h.2, ?_⟩
    have := numIn_mk (c := c) h.1
    rwa [h.2] at this
  · refine .inr ⟨h, ?_⟩
    rcases Nat.eq_zero_or_pos (numIn c l) with h1 | h1
    · exact h1
    · obtain ⟨h2, h3⟩ := numIn_of h1
      refine absurd ?_ h
      have e : vm ((l.take 12).drop 4) = numIn c l := by
        have := vm_mk (c := c) h3
        rwa [← h2] at this
      rw [e]
      exact ⟨h3, h2.symm⟩
theorem numIn_len {c : Nat} {l : List Nat} (h : l.length ≠ 12 + (atl c).length) : numIn c l = 0 := by
  rcases Nat.eq_zero_or_pos (numIn c l) with h1 | h1
  · exact h1
  · obtain ⟨h2, _⟩ := numIn_of h1
    have := congrArg List.length h2
    rw [mk_len] at this
    exact absurd this h
theorem prs_of {l : List Nat} (ht : ¬ tmpL <:+ l) {c : Nat} (hc : Cl c) (h : ∀ d, Cl d → d < c → numIn d l = 0) (hp : 0 < numIn c l) : prs l = (c, numIn c l) := by
  unfold prs
  rw [if_neg ht]
  rcases hc with rfl | rfl | rfl
  · rw [if_pos hp]
  · rw [if_neg (by rw [h 1 (.inl rfl) (by omega)]; omega), if_pos hp]
  · rw [if_neg (by rw [h 1 (.inl rfl) (by omega)]; omega), if_neg (by rw [h 2 (.inr (.inl rfl)) (by omega)]; omega), if_pos hp]
theorem prs_none {l : List Nat} (ht : ¬ tmpL <:+ l) (h : ∀ d, Cl d → numIn d l = 0) : prs l = (0, 0) := by
  unfold prs
  rw [if_neg ht, if_neg (by rw [h 1 (.inl rfl)]; omega), if_neg (by rw [h 2 (.inr (.inl rfl))]; omega), if_neg (by rw [h 3 (.inr (.inr rfl))]; omega)]
theorem tail_is (s p : ByteArray) (h : p.size ≤ s.size) : ((s.extract (s.size - p.size) s.size).toList == p.toList) = decide (bl p <:+ bl s) := by
  have h1 := Lib.hasSuffix_raw s p
  rw [has_suf] at h1
  have h2 : decide (p.size ≤ s.size) = true := decide_eq_true h
  rwa [h2, Bool.true_and] at h1
theorem tail_no (s p : ByteArray) (h : ¬ p.size ≤ s.size) : ¬ bl p <:+ bl s := by
  rintro ⟨t, ht⟩
  have := congrArg List.length ht
  rw [List.length_append, bl_len, bl_len] at this
  omega
theorem ends_is (s p : ByteArray) (w : World) (hs : s.size ≤ maxLen) :
    Calls Try.prog 37 #[.string s, .string p] w fun e w' => e = .returned (.bool (decide (bl p <:+ bl s))) ∧ w' = w := by
  unfold maxLen at hs
  by_cases h : p.size ≤ s.size
  · have HT := hd (tail_is s p h)
    go_enter Try.func37, Try.ntmps37
    go_wp2_with fail
    go_ret
    exact ⟨by rw [← HT.out]; rfl, rfl⟩
  · have HT := hd (tail_no s p h)
    go_enter Try.func37, Try.ntmps37
    go_wp2_with fail
    go_ret
    exact ⟨by rw [decide_eq_false HT.out]; rfl, rfl⟩
theorem rtail_is (c : Nat) (hc : Cl c) (w : World) : Calls Try.prog 24 #[.int .i64 (c : Int)] w fun e w' => e = .returned (.string (str (atl c))) ∧ w' = w := by
  rcases hc with rfl | rfl | rfl
  all_goals
    go_enter Try.func24, Try.ntmps24
    go_wp2
    go_ret
    exact ⟨rfl, rfl⟩
set_option maxRecDepth 100000 in
set_option maxHeartbeats 1000000 in
theorem rparse_is (s : ByteArray) (w : World) (hs : s.size ≤ maxLen) :
    Calls Try.prog 28 #[.string s] w fun e w' => e = .returned (.tuple #[.int .i64 (((prs (bl s)).1 : Nat) : Int), .int .i64 (((prs (bl s)).2 : Nat) : Int)]) ∧ ∃ n, w' = w.drewN n := by
  have HL := hd (bl_len s)
  have HM := hd hs
  unfold maxLen at hs
  go_enter Try.func28, Try.ntmps28
  go_wp2_with fail
  refine Calls.mono (ends_is s _ _ HM.out) ?_
  rintro e w0 ⟨rfl, rfl⟩
  by_cases ht : tmpL <:+ bl s
  · have HP : Hid (prs (bl s) = (4, 0)) := by
      show prs (bl s) = _
      unfold prs; rw [if_pos ht]
    rw [show decide (bl (⟨#[46, 116, 109, 112]⟩ : ByteArray) <:+ bl s) = true from decide_eq_true (p := bl (⟨#[46, 116, 109, 112]⟩ : ByteArray) <:+ bl s) ht]
    clear ht
    go_wp2_with fail
    go_ret2
    exact ⟨by rw [HP.out]; rfl, 0, rfl⟩
  · rw [show decide (bl (⟨#[46, 116, 109, 112]⟩ : ByteArray) <:+ bl s) = false from decide_eq_false (p := bl (⟨#[46, 116, 109, 112]⟩ : ByteArray) <:+ bl s) ht]
    have HTM := hd ht
    clear ht
    go_wp2_with fail
    go_loopw [5] (fun i wr => ∃ k q : Nat, 1 ≤ k ∧ k ≤ 4 ∧ i = .int .i64 (k : Int) ∧ (∀ d, Cl d → d < k → numIn d (bl s) = 0) ∧ wr = w0.drewN q) (fun i _ => 4 - (intOf i).toNat)
    case atStart => exact ⟨1, 0, by omega, by omega, rfl, by intro d hd h; unfold Cl at hd; omega, rfl⟩
    case round =>
      obtain ⟨k, q0, hk1, hk4, rfl, hz, hwr⟩ := hrel
      obtain ⟨w1, hww⟩ : ∃ w1, w1 = wr := ⟨_, rfl⟩
      subst hww
      have HZ := hd hz
      have HW := hd hwr
      clear hz hwr
      by_cases hlt : k ≤ 3
      · have hki : ((k : Nat) : Int) ≤ 3 := by omega
        have hc : Cl k := by unfold Cl; omega
        have HC := hd hc
        have hz3 : (str (atl k)).size ≤ 5 := by rw [str_size (atl_byt k)]; exact atl_len k
        have HAL := hd (str_size (atl_byt k))
        clear hc
        go_wp2_with fail
        refine Calls.mono (rtail_is k HC.out _) ?_
        rintro e w1 ⟨rfl, rfl⟩
        by_cases hln : s.size = 12 + (str (atl k)).size
        · have hli : (s.size : Int) = 12 + ((str (atl k)).size : Int) := by omega
          have hsz : 12 ≤ s.size := by omega
          go_wp2_with fail
          go_loopw [6, 7] (fun y i wr => ∃ p q : Nat, 4 ≤ p ∧ p ≤ 12 ∧ i = .int .i64 (p : Int) ∧ y = .int .i64 ((vm (((bl s).take p).drop 4) : Nat) : Int) ∧ wr = w1.drewN q) (fun _ i _ => 12 - (intOf i).toNat)
          case atStart => exact ⟨4, 0, by omega, by omega, rfl, by rw [List.drop_of_length_le (by rw [List.length_take]; omega)]; rfl, rfl⟩
          case round =>
            obtain ⟨p, q1, hp4, hp12, rfl, rfl, hwr⟩ := hrel
            obtain ⟨w2, hww⟩ : ∃ w2, w2 = wr := ⟨_, rfl⟩
            subst hww
            have HW2 := hd hwr
            clear hwr
            by_cases hlt2 : p < 12
            · have hpi : ((p : Nat) : Int) < 12 := by omega
              have hpl : p < s.size := by omega
              have HT : Hid (((bl s).take (p + 1)).drop 4 = ((bl s).take p).drop 4 ++ [(bl s).getD p 0]) := by
                show ((bl s).take (p + 1)).drop 4 = ((bl s).take p).drop 4 ++ [(bl s).getD p 0]
                rw [take_succ_getD (by rw [HL.out]; exact hpl), List.drop_append_of_le_length (by rw [List.length_take, HL.out]; omega)]
              have HX := hd (bl_get s p hpl)
              obtain ⟨x, hxe⟩ : ∃ x, x = (bl s).getD p 0 := ⟨_, rfl⟩
              rw [← hxe] at HX HT
              clear hxe
              have HS := hd (vm_snoc (((bl s).take p).drop 4) x)
              rw [← HT.out] at HS
              have hvl := vm_lt (((bl s).take p).drop 4)
              have hb8 : vm (((bl s).take p).drop 4) < 268435456 := by
                rw [List.length_drop, List.length_take, HL.out] at hvl
                have : 16 ^ (min p s.size - 4) ≤ 16 ^ 7 := Nat.pow_le_pow_right (by omega) (by omega)
                omega
              clear hvl
              generalize vm (((bl s).take p).drop 4) = n at *
              have hv16 : hv x ≤ 16 := by unfold hv; split <;> (try split) <;> omega
              go_wp2_with fail
              go_loopw [8] (fun i wr => ∃ m q : Nat, m ≤ hv x ∧ i = .int .i64 (m : Int) ∧ wr = w2.drewN q) (fun i _ => 16 - (intOf i).toNat)
              case atStart => exact ⟨0, 0, by omega, rfl, rfl⟩
              case round =>
                obtain ⟨m, q2, hm, rfl, hwr⟩ := hrel
                obtain ⟨w3, hww⟩ : ∃ w3, w3 = wr := ⟨_, rfl⟩
                subst hww
                have HW3 := hd hwr
                clear hwr
                by_cases hlt3 : m < hv x
                · have hm16 : m < 16 := by omega
                  have hmi : ((m : Nat) : Int) < 16 := by omega
                  have hne : ¬ hx m = x := by
                    intro h
                    rw [← h, hv_hx hm16] at hlt3
                    omega
                  have hdg := digits_at m hm16
                  have hbg := HX.out
                  have hni : (((hx m : Nat) : Int) != (x : Int)) = true := by simp; omega
                  go_wp2_with fail
                  go_quiet (fail)
                  go_wp2_with fail
                  obtain ⟨q3, h3⟩ := drewN2 w2 q2 nq
                  exact ⟨⟨m + 1, q3, by omega, rfl, by rw [HW3.out]; exact h3⟩, by simp [intOf]; omega⟩
                · have HMX : Hid (m = hv x) := by
                    show m = hv x
                    omega
                  have hvm : hv x % 16 = m % 16 := by rw [HMX.out]
                  rw [hvm] at HS
                  by_cases hm16 : m < 16
                  · have hmi : ((m : Nat) : Int) < 16 := by omega
                    have heq : hx m = x := by rw [HMX.out]; exact hx_hv (by omega)
                    have hdg := digits_at m hm16
                    have hbg := HX.out
                    rw [← heq] at hbg
                    clear hlt3 hm hv16 hvm heq
                    go_wp2_with fail
                    go_quiet (fail)
                    go_wp2_with fail
                    go_roundw
                    case rel =>
                      obtain ⟨q3, h3⟩ := drewN2 w2 q2 nq
                      obtain ⟨q4, h4⟩ := drewN2 w1 q1 q3
                      refine ⟨p + 1, q4, by omega, by omega, by go_num, ?_, by rw [HW3.out, h3, HW2.out, h4]⟩
                      rw [HS.out]
                      first | rfl | (congr 1; omega)
                    case measure => simp [intOf]; omega
                  · obtain ⟨z, hz0⟩ : ∃ z : Int, z = ((m : Nat) : Int) := ⟨_, rfl⟩
                    have HZ0 := hd hz0
                    rw [← hz0]
                    have hmi : ¬ z < 16 := by omega
                    have hmj : (16 : Int) ≤ z := by omega
                    have hmk : z = 16 := by omega
                    subst hmk
                    clear hlt3 hm hv16 hvm hz0 hm16 hmi hmj
                    go_wp2_with fail
                    go_quiet (fail)
                    go_wp2_with fail
                    obtain ⟨q3, h3⟩ := drewN2 w2 q2 nq
                    obtain ⟨q4, h4⟩ := drewN2 w1 q1 q3
                    refine ⟨⟨p + 1, q4, by omega, by omega, by go_num, ?_, by rw [HW3.out, h3, HW2.out, h4]⟩, by simp [intOf]; omega⟩
                    rw [HS.out]
                    have := HZ0.out
                    congr 1
                    omega
            · have hpi : ¬ ((p : Nat) : Int) < 12 := by omega
              obtain ⟨q4, h4⟩ := drewN2 w0 q0 q1
              have HW4 : Hid (w2 = w0.drewN q4) := by
                show w2 = w0.drewN q4
                rw [HW2.out, HW.out, h4]
              have HN := hd (numIn_vm (c := k) (l := bl s))
              have hp12' : p = 12 := by omega
              rw [hp12']
              have hvl := vm_lt (((bl s).take 12).drop 4)
              have hb8 : vm (((bl s).take 12).drop 4) < 4294967296 := by
                rw [List.length_drop, List.length_take, HL.out] at hvl
                have : 16 ^ (min 12 s.size - 4) ≤ 16 ^ 8 := Nat.pow_le_pow_right (by omega) (by omega)
                omega
              clear hvl h4 hlt2 hp4 hp12
              generalize vm (((bl s).take 12).drop 4) = n at *
              by_cases hn0 : n = 0
              · have H1 := hd fun w => rmake_no (k : Int) (n : Int) (.inr (.inl (by omega))) w
                have HZ2 : Hid (∀ d, Cl d → d < k + 1 → numIn d (bl s) = 0) := by
                  show ∀ d, Cl d → d < k + 1 → numIn d (bl s) = 0
                  intro d hd hdk
                  rcases Nat.lt_or_ge d k with h | h
                  · exact HZ.out d hd h
                  · obtain rfl : d = k := by omega
                    rcases HN.out with ⟨h1, _⟩ | ⟨_, h1⟩
                    · have := h1.1; omega
                    · exact h1
                clear hp12' hn0
                go_wp2_with fail
                refine Calls.mono (H1.out _) ?_
                rintro e w5 ⟨rfl, rfl⟩
                go_wp2_with fail
                exact ⟨⟨k + 1, q4, by omega, by omega, by go_num, HZ2.out, HW4.out⟩, by simp [intOf]; omega⟩
              · have hnn : Nu n := ⟨by omega, hb8⟩
                have H1 := hd fun w => rmake_ok k n HC.out hnn w
                have HNN := hd hnn
                clear hp12' hn0 hnn
                by_cases hmk : mk k n = bl s
                · have HQ : Hid (numIn k (bl s) = n) := by
                    show numIn k (bl s) = n
                    rcases HN.out with ⟨_, _, h1⟩ | ⟨h1, _⟩
                    · exact h1
                    · exact absurd ⟨HNN.out, hmk⟩ h1
                  have HP : Hid (prs (bl s) = (k, n)) := by
                    show prs (bl s) = (k, n)
                    have := prs_of HTM.out HC.out HZ.out (by rw [HQ.out]; exact HNN.out.1)
                    rw [this, HQ.out]
                  have HSE : Hid (str (mk k n) = s) := by
                    show str (mk k n) = s
                    rw [hmk, str_bl]
                  clear hmk
                  go_wp2_with fail
                  refine Calls.mono (H1.out _) ?_
                  rintro e w5 ⟨rfl, rfl⟩
                  rw [HSE.out]
                  go_wp2_with fail
                  go_ret2
                  exact ⟨by rw [HP.out]; rfl, q4, HW4.out⟩
                · have HZ2 : Hid (∀ d, Cl d → d < k + 1 → numIn d (bl s) = 0) := by
                    show ∀ d, Cl d → d < k + 1 → numIn d (bl s) = 0
                    intro d hd hdk
                    rcases Nat.lt_or_ge d k with h | h
                    · exact HZ.out d hd h
                    · obtain rfl : d = k := by omega
                      rcases HN.out with ⟨_, h1, _⟩ | ⟨_, h1⟩
                      · exact absurd h1 hmk
                      · exact h1
                  have hse : ((str (mk k n)).toList == s.toList) = false := by
                    rw [show s.toList = (str (bl s)).toList by rw [str_bl], str_eq (mk_byt k n) (bl_byt s)]
                    exact decide_eq_false hmk
                  clear hmk
                  go_wp2_with fail
                  refine Calls.mono (H1.out _) ?_
                  rintro e w5 ⟨rfl, rfl⟩
                  go_wp2_with fail
                  exact ⟨⟨k + 1, q4, by omega, by omega, by go_num, HZ2.out, HW4.out⟩, by simp [intOf]; omega⟩
        · have hli : ¬ (s.size : Int) = 12 + ((str (atl k)).size : Int) := by omega
          have HZ2 : Hid (∀ d, Cl d → d < k + 1 → numIn d (bl s) = 0) := by
            show ∀ d, Cl d → d < k + 1 → numIn d (bl s) = 0
            intro d hd hdk
            rcases Nat.lt_or_ge d k with h | h
            · exact HZ.out d hd h
            · obtain rfl : d = k := by omega
              exact numIn_len (by rw [HL.out, ← HAL.out]; exact hln)
          clear hln
          go_wp2_with fail
          go_roundw
          case rel => exact ⟨k + 1, q0, by omega, by omega, by go_num, HZ2.out, HW.out⟩
          case measure => simp [intOf]; omega
      · have hki : ¬ ((k : Nat) : Int) ≤ 3 := by omega
        have HP : Hid (prs (bl s) = (0, 0)) := by
          show prs (bl s) = _
          refine prs_none HTM.out fun d hd => HZ.out d hd ?_
          unfold Cl at hd
          omega
        clear hk1 hk4 hlt
        go_wp2_with fail
        go_ret2
        exact ⟨by rw [HP.out]; rfl, q0, HW.out⟩
set_option maxRecDepth 100000 in
set_option maxHeartbeats 400000 in
theorem rpair_is (s : ByteArray) (w : World) (hs : s.size ≤ maxLen) :
    Calls Try.prog 29 #[.string s] w fun e w' => e = .returned (.tuple #[.string (str (pa (bl s))), .bool (pb (bl s))]) ∧ ∃ n, w' = w.drewN n := by
  go_enter Try.func29, Try.ntmps29
  go_wp2_with fail
  refine Calls.mono (rparse_is s w hs) ?_
  rintro e w1 ⟨rfl, q1, hw1⟩
  have HW1 := hd hw1
  clear hw1
  have hse : (str []).toList.isEmpty = true := by rw [ByteArray.toList_eq]; rfl
  rcases prs_cases (bl s) with ⟨h, _⟩ | ⟨h, _⟩ | ⟨c, n, hc, hn, h, _, _⟩
  · have HP := hd (pa_no (l := bl s) (by rw [h]; simp) (by rw [h]; simp))
    rw [h]
    clear h
    go_wp2_with fail
    go_ret2
    exact ⟨by rw [HP.out.1, HP.out.2]; rfl, q1, HW1.out⟩
  · have HP := hd (pa_no (l := bl s) (by rw [h]; simp) (by rw [h]; simp))
    rw [h]
    clear h
    go_wp2_with fail
    go_ret2
    exact ⟨by rw [HP.out.1, HP.out.2]; rfl, q1, HW1.out⟩
  · rcases hc with rfl | rfl | rfl
    · have HP := hd (pa_seg h)
      rw [h]
      have hne : (str (mk 2 n)).toList.isEmpty = false := by
        rw [ByteArray.toList_eq, str_data]; rfl
      clear h
      go_wp2_with fail
      refine Calls.mono (rmake_ok 2 n (.inr (.inl rfl)) hn _) ?_
      rintro e w2 ⟨rfl, rfl⟩
      go_wp2_with fail
      go_ret2
      exact ⟨by rw [HP.out.1, HP.out.2]; rfl, q1, HW1.out⟩
    · have HP := hd (pa_hint h)
      rw [h]
      have hne : (str (mk 1 n)).toList.isEmpty = false := by
        rw [ByteArray.toList_eq, str_data]; rfl
      clear h
      go_wp2_with fail
      refine Calls.mono (rmake_ok 1 n (.inl rfl) hn _) ?_
      rintro e w2 ⟨rfl, rfl⟩
      go_wp2_with fail
      go_ret2
      exact ⟨by rw [HP.out.1, HP.out.2]; rfl, q1, HW1.out⟩
    · have HP := hd (pa_no (l := bl s) (by rw [h]; simp) (by rw [h]; simp))
      rw [h]
      clear h
      go_wp2_with fail
      go_ret2
      exact ⟨by rw [HP.out.1, HP.out.2]; rfl, q1, HW1.out⟩
end Nam
end Go.Proofs.Ytglnhppgoomehaa
