/-
  NamesPairs: a segment's hint is a hint of its number, and its segment is the name again. Without a condition.
-/
import Derived.Test.YtglnhppgoomehaaNm4
namespace Go.Proofs.Ytglnhppgoomehaa
open Go.ChangeShapes Go.WideShapes Go.ChangeAt Go.RowKit
namespace Npai
open Vt Nam
theorem eqs (a : ByteArray) : (a.toList == a.toList) = true := by simp
set_option maxRecDepth 100000 in
set_option maxHeartbeats 400000 in
theorem walkB (n : Nat) (w : World) (hn : n < 4294967296) :
    Calls Try.prog 4 #[.int .u32 (n : Int)] w fun e w' => e = .returned (.bool true) ∧ Below w.heap.size w w' := by
  go_enter Try.func4, Try.ntmps4
  go_wp2_with fail
  refine Calls.mono (awake_is w) ?_
  rintro e w1 ⟨rfl, hB1⟩
  have HB1 := hd hB1
  clear hB1
  by_cases h0 : n = 0
  · have H1 := hd (make_no 1 n (.inr h0) w1)
    subst h0
    go_wp2_with fail
    refine Calls.mono H1.out ?_
    rintro e w' ⟨rfl, rfl⟩
    go_wp2_with fail
    go_ret
    exact ⟨rfl, HB1.out⟩
  · have hn' : Nu n := ⟨by omega, hn⟩
    have hpos : 0 < n := by omega
    have HN := hd hn'
    go_wp2_with fail
    refine Calls.mono (make_ok 1 n (.inl rfl) hn' w1) ?_
    rintro e w2 ⟨rfl, hB⟩
    have HB2 := hd (HB1.out.trans (hB.mono HB1.out.size))
    clear hB
    go_wp2_with fail
    refine Calls.mono (pair_is _ _ (Nat.le_trans mk_size (by unfold maxLen; omega))) ?_
    rintro e w3 ⟨rfl, hB⟩
    have HB3 := hd (HB2.out.trans (hB.mono HB2.out.size))
    clear hB
    rw [bl_str (mk_byt 1 n), (pa_seg (prs_mk (.inl rfl) hn')).1, (pa_seg (prs_mk (.inl rfl) hn')).2]
    go_wp2_with fail
    refine Calls.mono (parse_is _ _ (Nat.le_trans mk_size (by unfold maxLen; omega))) ?_
    rintro e w' ⟨rfl, rfl⟩
    rw [bl_str (mk_byt 2 n), prs_mk (.inr (.inl rfl)) hn']
    go_wp2_with fail
    refine Calls.mono (pair_is _ _ (Nat.le_trans mk_size (by unfold maxLen; omega))) ?_
    rintro e w4 ⟨rfl, hB⟩
    have HB4 := hd (HB3.out.trans (hB.mono HB3.out.size))
    clear hB
    rw [bl_str (mk_byt 2 n), (pa_hint (prs_mk (.inr (.inl rfl)) hn')).1, (pa_hint (prs_mk (.inr (.inl rfl)) hn')).2]
    go_wp2_with fail
    refine Calls.mono (make_ok 3 n (.inr (.inr rfl)) hn' _) ?_
    rintro e w5 ⟨rfl, hB⟩
    have HB5 := hd (HB4.out.trans (hB.mono HB4.out.size))
    clear hB
    go_wp2_with fail
    refine Calls.mono (pair_is _ _ (Nat.le_trans mk_size (by unfold maxLen; omega))) ?_
    rintro e w6 ⟨rfl, hB⟩
    have HB6 := hd (HB5.out.trans (hB.mono HB5.out.size))
    clear hB
    have hp3 := prs_mk (c := 3) (.inr (.inr rfl)) hn'
    rw [bl_str (mk_byt 3 n), (pa_no (l := mk 3 n) (by rw [hp3]; simp) (by rw [hp3]; simp)).1, (pa_no (l := mk 3 n) (by rw [hp3]; simp) (by rw [hp3]; simp)).2]
    clear hp3 hn' HN
    go_wp2_with fail
    go_ret
    exact ⟨rfl, HB6.out⟩
theorem walk (a0 : Int) (w : World) (w0 : (Lit.int .u32 a0).wf = true) :
    Calls Try.prog 4 #[.int .u32 a0] w fun e w' => e = .returned (.bool true) ∧ Below w.heap.size w w' := by
  have h1 := bounds_u32 w0
  obtain ⟨n, rfl⟩ : ∃ n : Nat, a0 = (n : Int) := ⟨a0.toNat, by omega⟩
  exact walkB n w (by omega)
set_option linter.unusedVariables false
set_option maxRecDepth 100000 in
theorem lifted (os : Os) (started : os.Started) (H : Type) (enc : TypeId × Value → H) :
    ReturnsInHanded {} Try.checked os 4 .any (Rows.namesPairsSpec.pre6 enc Try.prog Try.f4 Rows.namesPairsRow.domain false) (Rows.namesPairsSpec.post enc Try.prog Try.f4 false true false false) := by
  refine returnsInHanded_of_change (C := Try.checked) own started (by kernel_rfl) Try.func4
    (ChangeSpec.witness6 (enc := enc) (C := Try.checked) false ⟨#[], #[.int .u32 0], []⟩ 8 (by kernel_rfl) (by kernel_rfl) (by kernel_rfl) (by kernel_rfl)) ?_
  intro W base args ds gs before hval0 hW hcnd _
  have hval : ∀ (j : Nat) t v, Try.f4.params[j]? = some t → args[j]? = some v → Value.okWide Try.prog W .any base t v := hval0
  have hW' := hW
  obtain ⟨p, q, hA0, hV, rfl, hfz, hnd⟩ := hW
  have hA : DataW.TrodAll enc Try.prog W 0 (fun _ => true) true Try.f4.params.toList args.toList ds p := hA0
  rw [Try.params4] at hA hval
  obtain ⟨v0, vs0, d0, ds0, p0, q0, hargs, rfl, rfl, h0, r0⟩ := trodAll_cons hA
  obtain ⟨rfl, rfl, rfl⟩ := trodAll_nil r0
  obtain rfl : args = #[v0] := by cases args; simp_all
  obtain ⟨rfl, rfl⟩ := trodVars_none hV
  obtain ⟨a0, rfl, rfl, rfl, w0⟩ := open_int Try.underlying22 (hval 0 22 v0 rfl rfl) h0
  clear hA0 hval0
  refine (walk a0 W w0).mono fun e W' ⟨he, bel⟩ => ?_
  subst he
  exact ⟨_, rfl, _, _, _, [], _, [], hW', trodAll_mk1 (shut_bool Try.underlying4 _), (trodAll_cons_mk (shut_int Try.underlying22 w0) trodAll_mk0), rfl, bel.frame _, fun h => by cases h⟩

theorem over : Rows.namesPairsRow.holds Try.pinned (OpenSpec.ofChange Rows.namesPairsSpec) :=
  OpenClaim.holds_of_wide 4 Try.f4 rfl rfl rfl rfl rfl rfl rfl ⟨rfl, rfl, rfl, rfl, rfl⟩ rfl rfl rfl rfl rfl (by kernel_rfl) Try.func4 (by kernel_rfl)
    (of_decide_eq_true (by kernel_rfl)) (by unfold Func.isWrapper; first | (rw [if_pos (by decide +kernel)]; kernel_rfl) | (rw [if_neg (by decide +kernel)]; exact ⟨rfl, rfl⟩))
    (fun os started H enc _ => lifted os started H enc)

end Npai

theorem namesPairs_holds : Rows.NamesPairsSaid := Npai.over
#print axioms namesPairs_holds
end Go.Proofs.Ytglnhppgoomehaa
