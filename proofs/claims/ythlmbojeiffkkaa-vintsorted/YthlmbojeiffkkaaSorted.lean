/-
  PROVED: for all numbers and every count the Go law VintSorted answers true: digits of one count are in order, byte by byte, as their numbers are. No condition.
-/
import Derived.Test.YthlmbojeiffkkaaV7
namespace Go.Proofs.Ythlmbojeiffkkaa
open Go.ChangeShapes Go.WideShapes Go.ChangeAt Go.RowKit
namespace Sorted
open Vt
theorem drewN3 (w : World) (a b c : Nat) : ∃ k, ((w.drewN a).drewN b).drewN c = w.drewN k := ⟨a + b + c, by rw [World.drewN_drewN, World.drewN_drewN, Nat.add_assoc]⟩
set_option maxRecDepth 100000 in
set_option maxHeartbeats 400000 in
theorem less_is (g1 g2 c n m : Nat) (w : World) (hA : Buf w g1 c (dg c n)) (hB : Buf w g2 c (dg c m)) (h9 : c ≤ 9) (hn : n < 128 ^ c) (hm : m < 128 ^ c) :
    Calls Try.prog 15 #[.slice (some ⟨g1, 0, none⟩) c c, .slice (some ⟨g2, 0, none⟩) c c] w fun e w' => e = .returned (.bool (decide (n < m))) ∧ ∃ q, w' = w.drewN q := by
  have HA := hd hA
  have HB := hd hB
  have HN := hd hn
  have HM := hd hm
  clear hA hB hn hm
  go_enter Try.func15, Try.ntmps15
  go_wp2_with fail
  go_loopw [5] (fun i wr => ∃ k q : Nat, k ≤ c ∧ i = .int .i64 (k : Int) ∧ wr = w.drewN q ∧ ∀ j, j < k → (dg c n).getD j 0 = (dg c m).getD j 0) (fun i _ => c - (intOf i).toNat)
  case atStart => exact ⟨0, 0, by omega, rfl, rfl, by intro j hj; omega⟩
  case round =>
    obtain ⟨k, q, hk, rfl, rfl, he⟩ := hrel
    have HE := hd he
    clear he
    obtain ⟨wq, hwq⟩ : ∃ wq, wq = w.drewN q := ⟨_, rfl⟩
    have HWQ := hd hwq
    by_cases hlt : k < c
    · have ha : wq.cell? ⟨g1, k, none⟩ = some (.int .u8 (((dg c n).getD k 0 : Nat) : Int)) := by rw [hwq]; exact HA.out.cell (by rw [dg_len]; exact hlt)
      have hb : wq.cell? ⟨g2, k, none⟩ = some (.int .u8 (((dg c m).getD k 0 : Nat) : Int)) := by rw [hwq]; exact HB.out.cell (by rw [dg_len]; exact hlt)
      rw [← hwq]
      clear hwq
      by_cases hq : (dg c n).getD k 0 = (dg c m).getD k 0
      · have HE2 : Hid (∀ j, j < k + 1 → (dg c n).getD j 0 = (dg c m).getD j 0) := by
          intro j hj
          rcases Nat.lt_or_ge j k with h | h
          · exact HE.out j h
          · rw [show j = k by omega]; exact hq
        rw [← hq] at hb
        generalize (dg c n).getD k 0 = p at ha hb
        clear hq
        go_wp2_with fail
        go_quiet (fail)
        go_wp2_with fail
        go_roundw
        case rel =>
          obtain ⟨q2, h2⟩ := drewN2 w q nq
          exact ⟨k + 1, q2, by omega, by go_num, by rw [HWQ.out]; exact h2, HE2.out⟩
        case measure => simp [intOf]; omega
      · have HO := hd (dg_order HN.out HM.out hlt HE.out hq)
        generalize (dg c n).getD k 0 = p at ha hq HO
        generalize (dg c m).getD k 0 = r at hb hq HO
        have hpq : ((p : Int) != (r : Int)) = true := by simp; omega
        go_wp2_with fail
        go_quiet (fail)
        go_wp2_with fail
        go_quiet (fail)
        go_wp2_with fail
        go_ret
        refine ⟨?_, ?_⟩
        · have : decide (p < r) = decide (n < m) := by simp only [HO.out]
          rw [← this]; rfl
        · rw [HWQ.out]
          first | exact drewN3 _ _ _ _ | exact drewN2 _ _ _
    · obtain rfl : k = c := by omega
      have heq : n = m := dg_inj HN.out HM.out (ext_getD (by rw [dg_len, dg_len]) (by rw [dg_len]; exact HE.out))
      have HQ : Hid (decide (n < m) = false) := by
        show decide (n < m) = false
        simp; omega
      go_wp2_with fail
      go_ret
      exact ⟨by rw [HQ.out]; rfl, q, rfl⟩
--CUT (written by sorted.py)
set_option maxRecDepth 100000 in
set_option maxHeartbeats 400000 in
theorem walkMM (n m c : Nat) (w : World) (h1 : 1 ≤ c) (h9 : c ≤ 9) (hn : n < 18446744073709551616) (hm : m < 18446744073709551616) (hn2 : 128 ^ c ≤ n) (hm2 : 128 ^ c ≤ m) :
    Calls Try.prog 6 #[.int .u64 (n : Int), .int .u64 (m : Int), .int .i64 (c : Int)] w fun e w' => e = .returned (.bool true) ∧ Below w.heap.size w w' := by
  have HN := hd hn2
  have HM := hd hm2
  clear hn2 hm2
  go_enter Try.func6, Try.ntmps6
  go_wp2_with fail
  refine Calls.mono (digits_many n c w h1 h9 hn HN.out) ?_
  rintro e w1 ⟨rfl, hw1⟩
  have HB1 : Hid (Below w.heap.size w w1) := by rw [hw1]; exact Below.refl _ _
  clear hw1
  go_wp2_with fail
  refine Calls.mono (digits_many m c w1 h1 h9 hm HM.out) ?_
  rintro e w2 ⟨rfl, hw2⟩
  have HB2 : Hid (Below w.heap.size w w2) := by rw [hw2]; exact HB1.out
  clear hw2
  go_wp2_with fail
  refine Calls.mono (works_any w2) ?_
  rintro e w3 ⟨rfl, hb3⟩
  have HB3 := hd (HB2.out.trans (hb3.mono HB2.out.size))
  clear hb3
  go_wp2_with fail
  go_ret
  exact ⟨rfl, HB3.out⟩
set_option maxRecDepth 100000 in
set_option maxHeartbeats 400000 in
theorem walkMO (n m c : Nat) (w : World) (h1 : 1 ≤ c) (h9 : c ≤ 9) (hn : n < 18446744073709551616) (hm : m < 18446744073709551616) (hn2 : 128 ^ c ≤ n) (hm2 : m < 128 ^ c) :
    Calls Try.prog 6 #[.int .u64 (n : Int), .int .u64 (m : Int), .int .i64 (c : Int)] w fun e w' => e = .returned (.bool true) ∧ Below w.heap.size w w' := by
  have HN := hd hn2
  have HM := hd hm2
  clear hn2 hm2
  go_enter Try.func6, Try.ntmps6
  go_wp2_with fail
  refine Calls.mono (digits_many n c w h1 h9 hn HN.out) ?_
  rintro e w1 ⟨rfl, hw1⟩
  have HB1 : Hid (Below w.heap.size w w1) := by rw [hw1]; exact Below.refl _ _
  clear hw1
  go_wp2_with fail
  refine Calls.mono (digits_ok m c w1 h1 h9 hm HM.out) ?_
  rintro e w2 ⟨rfl, hj2, hb2⟩
  have HB2 := hd (HB1.out.trans (hb2.mono HB1.out.size))
  have HJ2 := hd hj2
  clear hj2 hb2
  go_wp2_with fail
  refine Calls.mono (works_any w2) ?_
  rintro e w3 ⟨rfl, hb3⟩
  have HB3 := hd (HB2.out.trans (hb3.mono HB2.out.size))
  clear hb3
  go_wp2_with fail
  go_ret
  exact ⟨rfl, HB3.out⟩
set_option maxRecDepth 100000 in
set_option maxHeartbeats 400000 in
theorem walkOM (n m c : Nat) (w : World) (h1 : 1 ≤ c) (h9 : c ≤ 9) (hn : n < 18446744073709551616) (hm : m < 18446744073709551616) (hn2 : n < 128 ^ c) (hm2 : 128 ^ c ≤ m) :
    Calls Try.prog 6 #[.int .u64 (n : Int), .int .u64 (m : Int), .int .i64 (c : Int)] w fun e w' => e = .returned (.bool true) ∧ Below w.heap.size w w' := by
  have HN := hd hn2
  have HM := hd hm2
  clear hn2 hm2
  go_enter Try.func6, Try.ntmps6
  go_wp2_with fail
  refine Calls.mono (digits_ok n c w h1 h9 hn HN.out) ?_
  rintro e w1 ⟨rfl, hj1, hb1⟩
  have HB1 := hd hb1
  have HJ1 := hd hj1
  clear hj1 hb1
  go_wp2_with fail
  refine Calls.mono (digits_many m c w1 h1 h9 hm HM.out) ?_
  rintro e w2 ⟨rfl, hw2⟩
  have HB2 : Hid (Below w.heap.size w w2) := by rw [hw2]; exact HB1.out
  clear hw2
  go_wp2_with fail
  refine Calls.mono (works_any w2) ?_
  rintro e w3 ⟨rfl, hb3⟩
  have HB3 := hd (HB2.out.trans (hb3.mono HB2.out.size))
  clear hb3
  go_wp2_with fail
  go_ret
  exact ⟨rfl, HB3.out⟩
set_option maxRecDepth 100000 in
set_option maxHeartbeats 400000 in
theorem walkOO (n m c : Nat) (w : World) (h1 : 1 ≤ c) (h9 : c ≤ 9) (hn : n < 18446744073709551616) (hm : m < 18446744073709551616) (hn2 : n < 128 ^ c) (hm2 : m < 128 ^ c) :
    Calls Try.prog 6 #[.int .u64 (n : Int), .int .u64 (m : Int), .int .i64 (c : Int)] w fun e w' => e = .returned (.bool true) ∧ Below w.heap.size w w' := by
  have HN := hd hn2
  have HM := hd hm2
  clear hn2 hm2
  go_enter Try.func6, Try.ntmps6
  go_wp2_with fail
  refine Calls.mono (digits_ok n c w h1 h9 hn HN.out) ?_
  rintro e w1 ⟨rfl, hj1, hb1⟩
  have HB1 := hd hb1
  have HJ1 := hd hj1
  clear hj1 hb1
  go_wp2_with fail
  refine Calls.mono (digits_ok m c w1 h1 h9 hm HM.out) ?_
  rintro e w2 ⟨rfl, hj2, hb2⟩
  have HB2 := hd (HB1.out.trans (hb2.mono HB1.out.size))
  have HF1 := hd (HJ1.out.below HJ1.out.buf.2.2.1 hb2)
  have HJ2 := hd hj2
  clear hj2 hb2
  go_wp2_with fail
  refine Calls.mono (works_any w2) ?_
  rintro e w3 ⟨rfl, hb3⟩
  have HB3 := hd (HB2.out.trans (hb3.mono HB2.out.size))
  have HF3 := hd (HF1.out.buf.below HF1.out.buf.2.2.1 hb3)
  have HG3 := hd (HJ2.out.buf.below HJ2.out.buf.2.2.1 hb3)
  clear hb3
  go_wp2_with fail
  refine Calls.mono (less_is _ _ c n m w3 HF3.out HG3.out h9 HN.out HM.out) ?_
  rintro e w4 ⟨rfl, q4, hw4⟩
  have HB4 : Hid (Below w.heap.size w w4) := by rw [hw4]; exact below_drewN HB3.out q4
  have HF4 : Hid (Buf w4 w.heap.size c (dg c n)) := by rw [hw4]; exact HF3.out
  have HG4 : Hid (Buf w4 w1.heap.size c (dg c m)) := by rw [hw4]; exact HG3.out
  clear hw4
  go_wp2_with fail
  refine Calls.mono (less_is _ _ c m n w4 HG4.out HF4.out h9 HM.out HN.out) ?_
  rintro e w5 ⟨rfl, q5, hw5⟩
  have HB5 : Hid (Below w.heap.size w w5) := by rw [hw5]; exact below_drewN HB4.out q5
  clear hw5
  go_wp2_with fail
  go_ret
  refine ⟨?_, HB5.out⟩
  simp
set_option maxRecDepth 100000 in
set_option maxHeartbeats 400000 in
theorem walkArg (n m : Nat) (c : Int) (w : World) (h : c < 1 ∨ 9 < c) :
    Calls Try.prog 6 #[.int .u64 (n : Int), .int .u64 (m : Int), .int .i64 c] w fun e w' => e = .returned (.bool true) ∧ Below w.heap.size w w' := by
  go_enter Try.func6, Try.ntmps6
  go_wp2_with fail
  refine Calls.mono (digits_arg n c w h) ?_
  rintro e w1 ⟨rfl, rfl⟩
  go_wp2_with fail
  refine Calls.mono (digits_arg m c w1 h) ?_
  rintro e w2 ⟨rfl, rfl⟩
  go_wp2_with fail
  refine Calls.mono (works_any w2) ?_
  rintro e w3 ⟨rfl, hb3⟩
  have HB3 := hd hb3
  clear hb3
  go_wp2_with fail
  go_ret
  exact ⟨rfl, HB3.out⟩
theorem walk (a0 : Int) (a1 : Int) (a2 : Int) (w : World) (w0 : (Lit.int .u64 a0).wf = true) (w1 : (Lit.int .u64 a1).wf = true) (_w2 : (Lit.int .i64 a2).wf = true) :
    Calls Try.prog 6 #[.int .u64 a0, .int .u64 a1, .int .i64 a2] w fun e w' => e = .returned (.bool true) ∧ Below w.heap.size w w' := by
  have h0 := wf_u64 w0
  have h1 := wf_u64 w1
  obtain ⟨n, rfl⟩ : ∃ n : Nat, a0 = (n : Int) := ⟨a0.toNat, by omega⟩
  obtain ⟨m, rfl⟩ : ∃ m : Nat, a1 = (m : Int) := ⟨a1.toNat, by omega⟩
  by_cases h : a2 < 1 ∨ 9 < a2
  · exact walkArg n m a2 w h
  · obtain ⟨c, rfl⟩ : ∃ c : Nat, a2 = (c : Int) := ⟨a2.toNat, by omega⟩
    by_cases hn : n < 128 ^ c
    · by_cases hm : m < 128 ^ c
      · exact walkOO n m c w (by omega) (by omega) (by omega) (by omega) hn hm
      · exact walkOM n m c w (by omega) (by omega) (by omega) (by omega) hn (by omega)
    · by_cases hm : m < 128 ^ c
      · exact walkMO n m c w (by omega) (by omega) (by omega) (by omega) (by omega) hm
      · exact walkMM n m c w (by omega) (by omega) (by omega) (by omega) (by omega) (by omega)
set_option linter.unusedVariables false
set_option maxRecDepth 100000 in
theorem lifted (os : Os) (started : os.Started) (H : Type) (enc : TypeId × Value → H) :
    ReturnsInHanded {} Try.checked os 6 .any (Rows.vintSortedSpec.pre6 enc Try.prog Try.f6 Rows.vintSortedRow.domain false) (Rows.vintSortedSpec.post enc Try.prog Try.f6 false true false false) := by
  refine returnsInHanded_of_change (C := Try.checked) own started (by kernel_rfl) Try.func6
    (ChangeSpec.witness6 (enc := enc) (C := Try.checked) false ⟨#[], #[.int .u64 0, .int .u64 0, .int .i64 0], []⟩ 8 (by kernel_rfl) (by kernel_rfl) (by kernel_rfl) (by kernel_rfl)) ?_
  intro W base args ds gs before hval0 hW hcnd _
  have hval : ∀ (j : Nat) t v, Try.f6.params[j]? = some t → args[j]? = some v → Value.okWide Try.prog W .any base t v := hval0
  have hW' := hW
  obtain ⟨p, q, hA0, hV, rfl, hfz, hnd⟩ := hW
  have hA : DataW.TrodAll enc Try.prog W 0 (fun _ => true) true Try.f6.params.toList args.toList ds p := hA0
  rw [Try.params6] at hA hval
  obtain ⟨v0, vs0, d0, ds0, p0, q0, hargs, rfl, rfl, h0, r0⟩ := trodAll_cons hA
  obtain ⟨v1, vs1, d1, ds1, p1, q1, rfl, rfl, rfl, h1, r1⟩ := trodAll_cons r0
  obtain ⟨v2, vs2, d2, ds2, p2, q2, rfl, rfl, rfl, h2, r2⟩ := trodAll_cons r1
  obtain ⟨rfl, rfl, rfl⟩ := trodAll_nil r2
  obtain rfl : args = #[v0, v1, v2] := by cases args; simp_all
  obtain ⟨rfl, rfl⟩ := trodVars_none hV
  obtain ⟨a0, rfl, rfl, rfl, w0⟩ := open_int Try.underlying23 (hval 0 23 v0 rfl rfl) h0
  obtain ⟨a1, rfl, rfl, rfl, w1⟩ := open_int Try.underlying23 (hval 1 23 v1 rfl rfl) h1
  obtain ⟨a2, rfl, rfl, rfl, w2⟩ := open_int Try.underlying3 (hval 2 3 v2 rfl rfl) h2
  clear hA0 hval0
  refine (walk a0 a1 a2 W w0 w1 w2).mono fun e W' ⟨he, bel⟩ => ?_
  subst he
  exact ⟨_, rfl, _, _, _, [], _, [], hW', trodAll_mk1 (shut_bool Try.underlying4 _), (trodAll_cons_mk (shut_int Try.underlying23 w0) (trodAll_cons_mk (shut_int Try.underlying23 w1) (trodAll_cons_mk (shut_int Try.underlying3 w2) trodAll_mk0))), rfl, bel.frame _, fun h => by cases h⟩

theorem over : Rows.vintSortedRow.holds Try.pinned (OpenSpec.ofChange Rows.vintSortedSpec) :=
  OpenClaim.holds_of_wide 6 Try.f6 rfl rfl rfl rfl rfl rfl rfl ⟨rfl, rfl, rfl, rfl, rfl⟩ rfl rfl rfl rfl rfl (by kernel_rfl) Try.func6 (by kernel_rfl)
    (of_decide_eq_true (by kernel_rfl)) (by unfold Func.isWrapper; first | (rw [if_pos (by decide +kernel)]; kernel_rfl) | (rw [if_neg (by decide +kernel)]; exact ⟨rfl, rfl⟩))
    (fun os started H enc _ => lifted os started H enc)

end Sorted

theorem vintSorted_holds : Rows.VintSortedSaid := Sorted.over
#print axioms vintSorted_holds
end Go.Proofs.Ythlmbojeiffkkaa
