/-
  NamesParses: Parse, Temp and Pair, of any text, are as the document says. Without a condition.
-/
import Derived.Test.YtglnhppgoomehaaNm5
namespace Go.Proofs.Ytglnhppgoomehaa
open Go.ChangeShapes Go.WideShapes Go.ChangeAt Go.RowKit
namespace Npar
open Vt Nam
theorem drew_below {B : Nat} {a b : World} (h : Below B a b) (n : Nat) : Below B a (b.drewN n) := h.trans ⟨rfl, rfl, rfl, Nat.le_refl _, fun _ _ => rfl⟩
set_option maxRecDepth 100000 in
set_option maxHeartbeats 400000 in
theorem lparse_is (s : ByteArray) (w : World) (hs : s.size ≤ 140737488355328) :
    Calls Try.prog 17 #[.string s] w fun e w' => e = .returned (.bool true) ∧ Below w.heap.size w w' := by
  have hm : s.size ≤ maxLen := by unfold maxLen; omega
  have hz : (⟨#[46, 116, 109, 112]⟩ : ByteArray).size = 4 := rfl
  have HA : Hid (s ++ ⟨#[46, 116, 109, 112]⟩ = str (bl s ++ tmpL)) := by
    show s ++ ⟨#[46, 116, 109, 112]⟩ = str (bl s ++ tmpL)
    refine bl_inj ?_
    rw [bl_app, bl_str (byt_app (bl_byt s) tmp_byt)]
    rfl
  go_enter Try.func17, Try.ntmps17
  go_wp2_with fail
  refine Calls.mono (parse_is s _ hm) ?_
  rintro e w0 ⟨rfl, rfl⟩
  go_wp2_with fail
  refine Calls.mono (rparse_is s _ hm) ?_
  rintro e w1 ⟨rfl, q1, hw1⟩
  have HB1 : Hid (Below w0.heap.size w0 w1) := by
    show Below w0.heap.size w0 w1
    rw [hw1]; exact drew_below (Below.refl _ _) _
  clear hw1
  go_wp2_with fail
  refine Calls.mono (temp_is s _ hs) ?_
  rintro e w1 ⟨rfl, rfl⟩
  rw [← HA.out]
  go_wp2_with fail
  refine Calls.mono (pair_is s _ hm) ?_
  rintro e w2 ⟨rfl, hB⟩
  have HB2 := hd (HB1.out.trans (hB.mono HB1.out.size))
  clear hB
  go_wp2_with fail
  refine Calls.mono (rpair_is s _ hm) ?_
  rintro e w3 ⟨rfl, q3, hw3⟩
  have HB3 : Hid (Below w0.heap.size w0 w3) := by
    show Below w0.heap.size w0 w3
    rw [hw3]; exact drew_below HB2.out _
  clear hw3
  have hl := prs_lt (bl s)
  generalize prs (bl s) = x at *
  obtain ⟨x1, x2⟩ := x
  generalize pa (bl s) = y at *
  generalize pb (bl s) = z at *
  go_wp2
  go_ret
  exact ⟨rfl, HB3.out⟩
set_option maxRecDepth 100000 in
set_option maxHeartbeats 400000 in
theorem walkB (s t : ByteArray) (w : World) (hs : s.size ≤ 140737488355328) (ht : t.size ≤ 140737488355328) :
    Calls Try.prog 7 #[.string s, .string t] w fun e w' => e = .returned (.bool true) ∧ Below w.heap.size w w' := by
  go_enter Try.func7, Try.ntmps7
  go_wp2_with fail
  refine Calls.mono (lparse_is s _ hs) ?_
  rintro e w1 ⟨rfl, hB1⟩
  have HB1 := hd hB1
  clear hB1
  go_wp2_with fail
  refine Calls.mono (lparse_is t _ ht) ?_
  rintro e w2 ⟨rfl, hB⟩
  have HB2 := hd (HB1.out.trans (hB.mono HB1.out.size))
  clear hB
  go_wp2_with fail
  refine Calls.mono (lparse_is s _ hs) ?_
  rintro e w3 ⟨rfl, hB⟩
  have HB3 := hd (HB2.out.trans (hB.mono HB2.out.size))
  clear hB
  go_wp2_with fail
  refine Calls.mono (lparse_is _ _ (by decide)) ?_
  rintro e w4 ⟨rfl, hB⟩
  have HB4 := hd (HB3.out.trans (hB.mono HB3.out.size))
  clear hB
  go_wp2_with fail
  refine Calls.mono (lparse_is _ _ (by decide)) ?_
  rintro e w5 ⟨rfl, hB⟩
  have HB5 := hd (HB4.out.trans (hB.mono HB4.out.size))
  clear hB
  go_wp2_with fail
  refine Calls.mono (lparse_is _ _ (by decide)) ?_
  rintro e w6 ⟨rfl, hB⟩
  have HB6 := hd (HB5.out.trans (hB.mono HB5.out.size))
  clear hB
  go_wp2_with fail
  go_ret
  exact ⟨rfl, HB6.out⟩
open Go.ChangeMaps (open_string shut_string)
theorem walk (a0 a1 : ByteArray) (w : World) (_w0 : a0.size ≤ maxLen) (_w1 : a1.size ≤ maxLen) (rc0 : a0.size ≤ 140737488351232) (rc1 : a1.size ≤ 140737488351232) :
    Calls Try.prog 7 #[.string a0, .string a1] w fun e w' => e = .returned (.bool true) ∧ Below w.heap.size w w' := walkB a0 a1 w (by omega) (by omega)
set_option linter.unusedVariables false
set_option maxRecDepth 100000 in
theorem lifted (os : Os) (started : os.Started) (H : Type) (enc : TypeId × Value → H) :
    ReturnsInHanded {} Try.checked os 7 .any (Rows.namesParsesSpec.pre6 enc Try.prog Try.f7 Rows.namesParsesRow.domain false) (Rows.namesParsesSpec.post enc Try.prog Try.f7 false true false false) := by
  refine returnsInHanded_of_change_sized (C := Try.checked) own started (by kernel_rfl) Try.func7
    (ChangeSpec.witness6 (enc := enc) (C := Try.checked) false ⟨#[], #[.string ByteArray.empty, .string ByteArray.empty], []⟩ 8 (by kernel_rfl) (by kernel_rfl) (by kernel_rfl) (by kernel_rfl)) ?_
  intro W base args ds gs before hval0 hW hcnd hsz0 _
  have hsz : (DataW.weightsEach Try.prog (Try.f7.params.toList ++ Rows.namesParsesSpec.plain.varTypes Try.prog) (ds ++ gs)).all (· ≤ reachBytes) = true := hsz0
  clear hsz0
  have hval : ∀ (j : Nat) t v, Try.f7.params[j]? = some t → args[j]? = some v → Value.okWide Try.prog W .any base t v := hval0
  have hW' := hW
  obtain ⟨p, q, hA0, hV, rfl, hfz, hnd⟩ := hW
  have hA : DataW.TrodAll enc Try.prog W 0 (fun _ => true) true Try.f7.params.toList args.toList ds p := hA0
  rw [Try.params7] at hA hval hsz
  obtain ⟨v0, vs0, d0, ds0, p0, q0, hargs, rfl, rfl, h0, r0⟩ := trodAll_cons hA
  obtain ⟨v1, vs1, d1, ds1, p1, q1, rfl, rfl, rfl, h1, r1⟩ := trodAll_cons r0
  obtain ⟨rfl, rfl, rfl⟩ := trodAll_nil r1
  obtain rfl : args = #[v0, v1] := by cases args; simp_all
  obtain ⟨rfl, rfl⟩ := trodVars_none hV
  obtain ⟨a0, rfl, rfl, rfl, w0⟩ := open_string Try.underlying9 (hval 0 9 v0 rfl rfl) h0
  obtain ⟨a1, rfl, rfl, rfl, w1⟩ := open_string Try.underlying9 (hval 1 9 v1 rfl rfl) h1
  have rc0 : a0.size ≤ 140737488351232 := by
    have hs := sized_string hsz (j := 0) rfl rfl
    simp only [reachBytes, Array.length_toList] at hs
    exact hs
  have rc1 : a1.size ≤ 140737488351232 := by
    have hs := sized_string hsz (j := 1) rfl rfl
    simp only [reachBytes, Array.length_toList] at hs
    exact hs
  clear hA0 hval0
  refine (walk a0 a1 W w0 w1 rc0 rc1).mono fun e W' ⟨he, bel⟩ => ?_
  subst he
  exact ⟨_, rfl, _, _, _, [], _, [], hW', trodAll_mk1 (shut_bool Try.underlying4 _), (trodAll_cons_mk (shut_string Try.underlying9 w0) (trodAll_cons_mk (shut_string Try.underlying9 w1) trodAll_mk0)), rfl, bel.frame _, fun h => by cases h⟩

theorem over : Rows.namesParsesRow.holds Try.pinned (OpenSpec.ofChange Rows.namesParsesSpec) :=
  OpenClaim.holds_of_wide 7 Try.f7 rfl rfl rfl rfl rfl rfl rfl ⟨rfl, rfl, rfl, rfl, rfl⟩ rfl rfl rfl rfl rfl (by kernel_rfl) Try.func7 (by kernel_rfl)
    (of_decide_eq_true (by kernel_rfl)) (by unfold Func.isWrapper; first | (rw [if_pos (by decide +kernel)]; kernel_rfl) | (rw [if_neg (by decide +kernel)]; exact ⟨rfl, rfl⟩))
    (fun os started H enc _ => lifted os started H enc)

end Npar

theorem namesParses_holds : Rows.NamesParsesSaid := Npar.over
#print axioms namesParses_holds
end Go.Proofs.Ytglnhppgoomehaa
