/-
  NamesMakes: names.Make of any class and number is as the document says. Without a condition.
-/
import Derived.Test.YtglnhppgoomehaaNm4
namespace Go.Proofs.Ytglnhppgoomehaa
open Go.ChangeShapes Go.WideShapes Go.ChangeAt Go.RowKit
namespace Nmak
open Vt Nam
set_option maxRecDepth 100000 in
set_option maxHeartbeats 400000 in
theorem walkB (c : Int) (n : Nat) (w : World) (hn : n < 4294967296) (h1 : -9223372036854775808 ≤ c) (h2 : c ≤ 9223372036854775807) :
    Calls Try.prog 3 #[.int .i64 c, .int .u32 (n : Int)] w fun e w' => e = .returned (.bool true) ∧ Below w.heap.size w w' := by
  by_cases hc : (c < 1 ∨ 3 < c) ∨ n = 0
  · have H1 := hd (make_no c n (by omega) w)
    have H2 := hd fun w => rmake_no c (n : Int) (by omega) w
    go_enter Try.func3, Try.ntmps3
    go_wp2_with fail
    refine Calls.mono H1.out ?_
    rintro e w' ⟨rfl, rfl⟩
    go_wp2_with fail
    refine Calls.mono (H2.out _) ?_
    rintro e w' ⟨rfl, rfl⟩
    clear hc
    go_wp2_with fail
    refine Calls.mono (make_ok 3 4294967295 (.inr (.inr rfl)) ⟨by omega, by omega⟩ _) ?_
    rintro e w2 ⟨rfl, hB⟩
    have HB := hd hB
    clear hB
    rw [ex_bad]
    go_wp2
    go_ret
    exact ⟨rfl, HB.out⟩
  · obtain ⟨d, rfl⟩ : ∃ d : Nat, c = (d : Int) := ⟨c.toNat, by omega⟩
    have hd' : Cl d := by unfold Cl; omega
    have hn' : Nu n := ⟨by omega, hn⟩
    have H1 := hd (make_ok d n hd' hn' w)
    have H2 := hd fun w => rmake_ok d n hd' hn' w
    clear hc
    go_enter Try.func3, Try.ntmps3
    go_wp2_with fail
    refine Calls.mono H1.out ?_
    rintro e w1 ⟨rfl, hB1⟩
    have HB1 := hd hB1
    clear hB1
    go_wp2_with fail
    refine Calls.mono (H2.out _) ?_
    rintro e w' ⟨rfl, rfl⟩
    go_wp2_with fail
    refine Calls.mono (make_ok 3 4294967295 (.inr (.inr rfl)) ⟨by omega, by omega⟩ _) ?_
    rintro e w2 ⟨rfl, hB⟩
    have HB := hd (HB1.out.trans (hB.mono HB1.out.size))
    clear hB
    rw [ex_bad]
    go_wp2
    go_ret
    exact ⟨rfl, HB.out⟩
theorem walk (a0 a1 : Int) (w : World) (w0 : (Lit.int .i64 a0).wf = true) (w1 : (Lit.int .u32 a1).wf = true) :
    Calls Try.prog 3 #[.int .i64 a0, .int .u32 a1] w fun e w' => e = .returned (.bool true) ∧ Below w.heap.size w w' := by
  have h0 := bounds_i64 w0
  have h1 := bounds_u32 w1
  obtain ⟨n, rfl⟩ : ∃ n : Nat, a1 = (n : Int) := ⟨a1.toNat, by omega⟩
  exact walkB a0 n w (by omega) (by omega) (by omega)
set_option linter.unusedVariables false
set_option maxRecDepth 100000 in
theorem lifted (os : Os) (started : os.Started) (H : Type) (enc : TypeId × Value → H) :
    ReturnsInHanded {} Try.checked os 3 .any (Rows.namesMakesSpec.pre6 enc Try.prog Try.f3 Rows.namesMakesRow.domain false) (Rows.namesMakesSpec.post enc Try.prog Try.f3 false true false false) := by
  refine returnsInHanded_of_change (C := Try.checked) own started (by kernel_rfl) Try.func3
    (ChangeSpec.witness6 (enc := enc) (C := Try.checked) false ⟨#[], #[.int .i64 0, .int .u32 0], []⟩ 8 (by kernel_rfl) (by kernel_rfl) (by kernel_rfl) (by kernel_rfl)) ?_
  intro W base args ds gs before hval0 hW hcnd _
  have hval : ∀ (j : Nat) t v, Try.f3.params[j]? = some t → args[j]? = some v → Value.okWide Try.prog W .any base t v := hval0
  have hW' := hW
  obtain ⟨p, q, hA0, hV, rfl, hfz, hnd⟩ := hW
  have hA : DataW.TrodAll enc Try.prog W 0 (fun _ => true) true Try.f3.params.toList args.toList ds p := hA0
  rw [Try.params3] at hA hval
  obtain ⟨v0, vs0, d0, ds0, p0, q0, hargs, rfl, rfl, h0, r0⟩ := trodAll_cons hA
  obtain ⟨v1, vs1, d1, ds1, p1, q1, rfl, rfl, rfl, h1, r1⟩ := trodAll_cons r0
  obtain ⟨rfl, rfl, rfl⟩ := trodAll_nil r1
  obtain rfl : args = #[v0, v1] := by cases args; simp_all
  obtain ⟨rfl, rfl⟩ := trodVars_none hV
  obtain ⟨a0, rfl, rfl, rfl, w0⟩ := open_int Try.underlying3 (hval 0 3 v0 rfl rfl) h0
  obtain ⟨a1, rfl, rfl, rfl, w1⟩ := open_int Try.underlying22 (hval 1 22 v1 rfl rfl) h1
  clear hA0 hval0
  refine (walk a0 a1 W w0 w1).mono fun e W' ⟨he, bel⟩ => ?_
  subst he
  exact ⟨_, rfl, _, _, _, [], _, [], hW', trodAll_mk1 (shut_bool Try.underlying4 _), (trodAll_cons_mk (shut_int Try.underlying3 w0) (trodAll_cons_mk (shut_int Try.underlying22 w1) trodAll_mk0)), rfl, bel.frame _, fun h => by cases h⟩

theorem over : Rows.namesMakesRow.holds Try.pinned (OpenSpec.ofChange Rows.namesMakesSpec) :=
  OpenClaim.holds_of_wide 3 Try.f3 rfl rfl rfl rfl rfl rfl rfl ⟨rfl, rfl, rfl, rfl, rfl⟩ rfl rfl rfl rfl rfl (by kernel_rfl) Try.func3 (by kernel_rfl)
    (of_decide_eq_true (by kernel_rfl)) (by unfold Func.isWrapper; first | (rw [if_pos (by decide +kernel)]; kernel_rfl) | (rw [if_neg (by decide +kernel)]; exact ⟨rfl, rfl⟩))
    (fun os started H enc _ => lifted os started H enc)

end Nmak

theorem namesMakes_holds : Rows.NamesMakesSaid := Nmak.over
#print axioms namesMakes_holds
end Go.Proofs.Ytglnhppgoomehaa
