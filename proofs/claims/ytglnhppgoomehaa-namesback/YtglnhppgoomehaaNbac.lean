/-
  NamesBack: what is made is told: the class and the number; names of unlike classes or numbers are unlike. Without a condition.
-/
import Derived.Test.YtglnhppgoomehaaNm4
namespace Go.Proofs.Ytglnhppgoomehaa
open Go.ChangeShapes Go.WideShapes Go.ChangeAt Go.RowKit
namespace Nbac
open Vt Nam
theorem empty_is : (str []).toList.isEmpty = true := by rw [ByteArray.toList_eq]; rfl
theorem mk_eq {c d n m : Nat} (hc : Cl c) (hd : Cl d) (hn : Nu n) (hm : Nu m) : ((str (mk c n)).toList == (str (mk d m)).toList) = decide (c = d ∧ n = m) := by
  rw [str_eq (mk_byt c n) (mk_byt d m)]
  refine decide_eq_decide.2 ⟨mk_inj hc hd hn hm, ?_⟩
  rintro ⟨rfl, rfl⟩; rfl
set_option maxRecDepth 100000 in
set_option maxHeartbeats 400000 in
theorem walkB (c : Int) (n : Nat) (d : Int) (m : Nat) (w : World) (hn : n < 4294967296) (hm : m < 4294967296) (h1 : -9223372036854775808 ≤ c) (h2 : c ≤ 9223372036854775807) (h3 : -9223372036854775808 ≤ d) (h4 : d ≤ 9223372036854775807) :
    Calls Try.prog 5 #[.int .i64 c, .int .u32 (n : Int), .int .i64 d, .int .u32 (m : Int)] w fun e w' => e = .returned (.bool true) ∧ Below w.heap.size w w' := by
  go_enter Try.func5, Try.ntmps5
  go_wp2_with fail
  refine Calls.mono (awake_is w) ?_
  rintro e w1 ⟨rfl, hB1⟩
  have HB1 := hd hB1
  clear hB1
  go_wp2_with fail
  refine Calls.mono (sort_is c _ h1 h2) ?_
  rintro e w' ⟨rfl, rfl⟩
  go_wp2_with fail
  refine Calls.mono (sort_is d _ h3 h4) ?_
  rintro e w' ⟨rfl, rfl⟩
  have hp := so_cl c
  have hq := so_cl d
  generalize so c = p at *
  generalize so d = q at *
  by_cases h0 : n = 0
  · have H1 := hd (make_no (p : Int) n (.inr h0) w')
    subst h0
    have hse := empty_is
    go_wp2_with fail
    refine Calls.mono H1.out ?_
    rintro e w' ⟨rfl, rfl⟩
    by_cases g0 : m = 0
    · have H2 := hd (make_no (q : Int) m (.inr g0) w')
      subst g0
      go_wp2_with fail
      refine Calls.mono H2.out ?_
      rintro e w' ⟨rfl, rfl⟩
      go_wp2_with fail
      go_ret
      exact ⟨rfl, HB1.out⟩
    · have g1 : 0 < m := by omega
      have H2 := hd (make_ok q m hq ⟨g1, hm⟩ w')
      go_wp2_with fail
      refine Calls.mono H2.out ?_
      rintro e w2 ⟨rfl, hB⟩
      have HB2 := hd (HB1.out.trans (hB.mono HB1.out.size))
      clear hB
      go_wp2_with fail
      go_ret
      exact ⟨rfl, HB2.out⟩
  · have g0 : 0 < n := by omega
    have H1 := hd (make_ok p n hp ⟨g0, hn⟩ w')
    go_wp2_with fail
    refine Calls.mono H1.out ?_
    rintro e w2 ⟨rfl, hB⟩
    have HB2 := hd (HB1.out.trans (hB.mono HB1.out.size))
    clear hB
    by_cases k0 : m = 0
    · have H2 := hd (make_no (q : Int) m (.inr k0) w2)
      subst k0
      go_wp2_with fail
      refine Calls.mono H2.out ?_
      rintro e w' ⟨rfl, rfl⟩
      go_wp2_with fail
      go_ret
      exact ⟨rfl, HB2.out⟩
    · have g1 : 0 < m := by omega
      have H2 := hd (make_ok q m hq ⟨g1, hm⟩ w2)
      go_wp2_with fail
      refine Calls.mono H2.out ?_
      rintro e w3 ⟨rfl, hB⟩
      have HB3 := hd (HB2.out.trans (hB.mono HB2.out.size))
      clear hB
      go_wp2_with fail
      refine Calls.mono (parse_is _ _ (Nat.le_trans mk_size (by unfold maxLen; omega))) ?_
      rintro e w' ⟨rfl, rfl⟩
      rw [bl_str (mk_byt p n), prs_mk hp ⟨g0, hn⟩]
      go_wp2_with fail
      refine Calls.mono (parse_is _ _ (Nat.le_trans mk_size (by unfold maxLen; omega))) ?_
      rintro e w' ⟨rfl, rfl⟩
      rw [bl_str (mk_byt q m), prs_mk hq ⟨g1, hm⟩]
      have HE := hd (mk_eq hp hq ⟨g0, hn⟩ ⟨g1, hm⟩)
      by_cases e1 : p = q
      · subst e1
        by_cases e2 : n = m
        · subst e2
          go_wp2_with fail
          go_ret
          exact ⟨rfl, HB3.out⟩
        · have k1 : (((n : Nat) : Int) == (m : Int)) = false := by simp; omega
          have HE2 : Hid (((str (mk p n)).toList == (str (mk p m)).toList) = false) := by
            show ((str (mk p n)).toList == (str (mk p m)).toList) = false
            rw [HE.out]; exact decide_eq_false (fun h => e2 h.2)
          have k2 := HE2.out
          go_wp2_with fail
          go_ret
          exact ⟨rfl, HB3.out⟩
      · have k1 : (((p : Nat) : Int) == (q : Int)) = false := by simp; omega
        have HE2 : Hid (((str (mk p n)).toList == (str (mk q m)).toList) = false) := by
          show ((str (mk p n)).toList == (str (mk q m)).toList) = false
          rw [HE.out]; exact decide_eq_false (fun h => e1 h.1)
        have k2 := HE2.out
        go_wp2_with fail
        go_ret
        exact ⟨rfl, HB3.out⟩
theorem walk (a0 a1 a2 a3 : Int) (w : World) (w0 : (Lit.int .i64 a0).wf = true) (w1 : (Lit.int .u32 a1).wf = true) (w2 : (Lit.int .i64 a2).wf = true) (w3 : (Lit.int .u32 a3).wf = true) :
    Calls Try.prog 5 #[.int .i64 a0, .int .u32 a1, .int .i64 a2, .int .u32 a3] w fun e w' => e = .returned (.bool true) ∧ Below w.heap.size w w' := by
  have h0 := bounds_i64 w0
  have h1 := bounds_u32 w1
  have h2 := bounds_i64 w2
  have h3 := bounds_u32 w3
  obtain ⟨n, rfl⟩ : ∃ n : Nat, a1 = (n : Int) := ⟨a1.toNat, by omega⟩
  obtain ⟨m, rfl⟩ : ∃ m : Nat, a3 = (m : Int) := ⟨a3.toNat, by omega⟩
  exact walkB a0 n a2 m w (by omega) (by omega) (by omega) (by omega) (by omega) (by omega)
set_option linter.unusedVariables false
set_option maxRecDepth 100000 in
theorem lifted (os : Os) (started : os.Started) (H : Type) (enc : TypeId × Value → H) :
    ReturnsInHanded {} Try.checked os 5 .any (Rows.namesBackSpec.pre6 enc Try.prog Try.f5 Rows.namesBackRow.domain false) (Rows.namesBackSpec.post enc Try.prog Try.f5 false true false false) := by
  refine returnsInHanded_of_change (C := Try.checked) own started (by kernel_rfl) Try.func5
    (ChangeSpec.witness6 (enc := enc) (C := Try.checked) false ⟨#[], #[.int .i64 0, .int .u32 0, .int .i64 0, .int .u32 0], []⟩ 8 (by kernel_rfl) (by kernel_rfl) (by kernel_rfl) (by kernel_rfl)) ?_
  intro W base args ds gs before hval0 hW hcnd _
  have hval : ∀ (j : Nat) t v, Try.f5.params[j]? = some t → args[j]? = some v → Value.okWide Try.prog W .any base t v := hval0
  have hW' := hW
  obtain ⟨p, q, hA0, hV, rfl, hfz, hnd⟩ := hW
  have hA : DataW.TrodAll enc Try.prog W 0 (fun _ => true) true Try.f5.params.toList args.toList ds p := hA0
  rw [Try.params5] at hA hval
  obtain ⟨v0, vs0, d0, ds0, p0, q0, hargs, rfl, rfl, h0, r0⟩ := trodAll_cons hA
  obtain ⟨v1, vs1, d1, ds1, p1, q1, rfl, rfl, rfl, h1, r1⟩ := trodAll_cons r0
  obtain ⟨v2, vs2, d2, ds2, p2, q2, rfl, rfl, rfl, h2, r2⟩ := trodAll_cons r1
  obtain ⟨v3, vs3, d3, ds3, p3, q3, rfl, rfl, rfl, h3, r3⟩ := trodAll_cons r2
  obtain ⟨rfl, rfl, rfl⟩ := trodAll_nil r3
  obtain rfl : args = #[v0, v1, v2, v3] := by cases args; simp_all
  obtain ⟨rfl, rfl⟩ := trodVars_none hV
  obtain ⟨a0, rfl, rfl, rfl, w0⟩ := open_int Try.underlying3 (hval 0 3 v0 rfl rfl) h0
  obtain ⟨a1, rfl, rfl, rfl, w1⟩ := open_int Try.underlying22 (hval 1 22 v1 rfl rfl) h1
  obtain ⟨a2, rfl, rfl, rfl, w2⟩ := open_int Try.underlying3 (hval 2 3 v2 rfl rfl) h2
  obtain ⟨a3, rfl, rfl, rfl, w3⟩ := open_int Try.underlying22 (hval 3 22 v3 rfl rfl) h3
  clear hA0 hval0
  refine (walk a0 a1 a2 a3 W w0 w1 w2 w3).mono fun e W' ⟨he, bel⟩ => ?_
  subst he
  exact ⟨_, rfl, _, _, _, [], _, [], hW', trodAll_mk1 (shut_bool Try.underlying4 _), (trodAll_cons_mk (shut_int Try.underlying3 w0) (trodAll_cons_mk (shut_int Try.underlying22 w1) (trodAll_cons_mk (shut_int Try.underlying3 w2) (trodAll_cons_mk (shut_int Try.underlying22 w3) trodAll_mk0)))), rfl, bel.frame _, fun h => by cases h⟩

theorem over : Rows.namesBackRow.holds Try.pinned (OpenSpec.ofChange Rows.namesBackSpec) :=
  OpenClaim.holds_of_wide 5 Try.f5 rfl rfl rfl rfl rfl rfl rfl ⟨rfl, rfl, rfl, rfl, rfl⟩ rfl rfl rfl rfl rfl (by kernel_rfl) Try.func5 (by kernel_rfl)
    (of_decide_eq_true (by kernel_rfl)) (by unfold Func.isWrapper; first | (rw [if_pos (by decide +kernel)]; kernel_rfl) | (rw [if_neg (by decide +kernel)]; exact ⟨rfl, rfl⟩))
    (fun os started H enc _ => lifted os started H enc)

end Nbac

theorem namesBack_holds : Rows.NamesBackSaid := Nbac.over
#print axioms namesBack_holds
end Go.Proofs.Ytglnhppgoomehaa
