/-
  NamesOnly: a name of a class with numbers is the one that Make gives; no other name has a number; whatever ends in .tmp is Temp, and nothing else is. Without a condition.
-/
import Derived.Test.YtglnhppgoomehaaNm4
namespace Go.Proofs.Ytglnhppgoomehaa
open Go.ChangeShapes Go.WideShapes Go.ChangeAt Go.RowKit
namespace Nonl
open Vt Nam
theorem tail_is (s : ByteArray) (h : 4 ≤ s.size) : ((s.extract (s.size - 4) s.size).toList == [46, 116, 109, 112]) = decide (tmpL <:+ bl s) := by
  have h1 := Lib.hasSuffix_raw s ⟨#[46, 116, 109, 112]⟩
  rw [has_suf] at h1
  have h2 : decide ((⟨#[46, 116, 109, 112]⟩ : ByteArray).size ≤ s.size) = true := decide_eq_true h
  rw [h2, Bool.true_and, ByteArray.toList_eq ⟨#[46, 116, 109, 112]⟩] at h1
  exact h1
theorem tail_no (s : ByteArray) (h : ¬ 4 ≤ s.size) : ¬ tmpL <:+ bl s := by
  rintro ⟨t, ht⟩
  have := congrArg List.length ht
  rw [List.length_append, bl_len] at this
  simp [tmpL] at this
  omega
set_option maxRecDepth 100000 in
set_option maxHeartbeats 400000 in
theorem walkB (s : ByteArray) (w : World) (hs : s.size ≤ 140737488355328) :
    Calls Try.prog 6 #[.string s] w fun e w' => e = .returned (.bool true) ∧ Below w.heap.size w w' := by
  have hm : s.size ≤ maxLen := by unfold maxLen; omega
  go_enter Try.func6, Try.ntmps6
  go_wp2_with fail
  refine Calls.mono (awake_is w) ?_
  rintro e w1 ⟨rfl, hB1⟩
  have HB1 := hd hB1
  clear hB1
  go_wp2_with fail
  refine Calls.mono (parse_is s _ hm) ?_
  rintro e w' ⟨rfl, rfl⟩
  go_wp2_with fail
  refine Calls.mono (temp_is s _ hs) ?_
  rintro e w' ⟨rfl, rfl⟩
  have hbt : Byt (bl s ++ tmpL) := byt_app (bl_byt s) tmp_byt
  go_wp2_with fail
  refine Calls.mono (parse_is _ _ (by rw [str_size hbt, List.length_append, bl_len]; show s.size + 4 ≤ maxLen; unfold maxLen; omega)) ?_
  rintro e w' ⟨rfl, rfl⟩
  rw [bl_str hbt, prs_tmp]
  clear hbt
  rcases prs_cases (bl s) with ⟨h, ht⟩ | ⟨h, ht⟩ | ⟨c, n, hc, hn, h, hmk, ht⟩
  · have h4 : 4 ≤ s.size := by
      rcases Nat.lt_or_ge s.size 4 with h4 | h4
      · exact absurd ht (tail_no s (by omega))
      · exact h4
    have HT := hd (tail_is s h4)
    rw [decide_eq_true ht] at HT
    have HP := hd (pa_no (l := bl s) (by rw [h]; simp) (by rw [h]; simp))
    rw [h]
    clear h ht
    have ht := HT.out
    go_wp2_with fail
    refine Calls.mono (pair_is s _ hm) ?_
    rintro e w2 ⟨rfl, hB⟩
    have HB2 := hd (HB1.out.trans (hB.mono HB1.out.size))
    clear hB
    rw [HP.out.1, HP.out.2]
    go_wp2_with fail
    go_ret
    exact ⟨rfl, HB2.out⟩
  · have HP := hd (pa_no (l := bl s) (by rw [h]; simp) (by rw [h]; simp))
    rw [h]
    clear h
    by_cases h4 : 4 ≤ s.size
    · have HT := hd (tail_is s h4)
      rw [decide_eq_false ht] at HT
      clear ht
      have ht := HT.out
      go_wp2_with fail
      refine Calls.mono (pair_is s _ hm) ?_
      rintro e w2 ⟨rfl, hB⟩
      have HB2 := hd (HB1.out.trans (hB.mono HB1.out.size))
      clear hB
      rw [HP.out.1, HP.out.2]
      go_wp2_with fail
      go_ret
      exact ⟨rfl, HB2.out⟩
    · clear ht
      go_wp2_with fail
      refine Calls.mono (pair_is s _ hm) ?_
      rintro e w2 ⟨rfl, hB⟩
      have HB2 := hd (HB1.out.trans (hB.mono HB1.out.size))
      clear hB
      rw [HP.out.1, HP.out.2]
      go_wp2_with fail
      go_ret
      exact ⟨rfl, HB2.out⟩
  · have HM := hd (make_ok c n hc hn w')
    have h4 : 4 ≤ s.size := by
      have := congrArg List.length hmk
      rw [mk_len, bl_len] at this
      omega
    have HT := hd (tail_is s h4)
    rw [decide_eq_false ht] at HT
    have HS : Hid (str (mk c n) = s) := by
      show str (mk c n) = s
      rw [← hmk, str_bl]
    rw [h]
    clear h ht hmk
    have ht := HT.out
    have hc0 : (((c : Nat) : Int) == 0) = false := by rcases hc with rfl | rfl | rfl <;> rfl
    have hc4 : (((c : Nat) : Int) == 4) = false := by rcases hc with rfl | rfl | rfl <;> rfl
    clear hc hn
    go_wp2_with fail
    refine Calls.mono HM.out ?_
    rintro e w2 ⟨rfl, hB⟩
    have HB2 := hd (HB1.out.trans (hB.mono HB1.out.size))
    clear hB
    rw [HS.out]
    go_wp2_with fail
    go_ret
    exact ⟨rfl, HB2.out⟩
open Go.ChangeMaps (open_string shut_string)
theorem walk (a0 : ByteArray) (w : World) (_w0 : a0.size ≤ maxLen) (rc0 : a0.size ≤ 140737488351232) :
    Calls Try.prog 6 #[.string a0] w fun e w' => e = .returned (.bool true) ∧ Below w.heap.size w w' := walkB a0 w (by omega)
set_option linter.unusedVariables false
set_option maxRecDepth 100000 in
theorem lifted (os : Os) (started : os.Started) (H : Type) (enc : TypeId × Value → H) :
    ReturnsInHanded {} Try.checked os 6 .any (Rows.namesOnlySpec.pre6 enc Try.prog Try.f6 Rows.namesOnlyRow.domain false) (Rows.namesOnlySpec.post enc Try.prog Try.f6 false true false false) := by
  refine returnsInHanded_of_change_sized (C := Try.checked) own started (by kernel_rfl) Try.func6
    (ChangeSpec.witness6 (enc := enc) (C := Try.checked) false ⟨#[], #[.string ByteArray.empty], []⟩ 8 (by kernel_rfl) (by kernel_rfl) (by kernel_rfl) (by kernel_rfl)) ?_
  intro W base args ds gs before hval0 hW hcnd hsz0 _
  have hsz : (DataW.weightsEach Try.prog (Try.f6.params.toList ++ Rows.namesOnlySpec.plain.varTypes Try.prog) (ds ++ gs)).all (· ≤ reachBytes) = true := hsz0
  clear hsz0
  have hval : ∀ (j : Nat) t v, Try.f6.params[j]? = some t → args[j]? = some v → Value.okWide Try.prog W .any base t v := hval0
  have hW' := hW
  obtain ⟨p, q, hA0, hV, rfl, hfz, hnd⟩ := hW
  have hA : DataW.TrodAll enc Try.prog W 0 (fun _ => true) true Try.f6.params.toList args.toList ds p := hA0
  rw [Try.params6] at hA hval hsz
  obtain ⟨v0, vs0, d0, ds0, p0, q0, hargs, rfl, rfl, h0, r0⟩ := trodAll_cons hA
  obtain ⟨rfl, rfl, rfl⟩ := trodAll_nil r0
  obtain rfl : args = #[v0] := by cases args; simp_all
  obtain ⟨rfl, rfl⟩ := trodVars_none hV
  obtain ⟨a0, rfl, rfl, rfl, w0⟩ := open_string Try.underlying9 (hval 0 9 v0 rfl rfl) h0
  have rc0 : a0.size ≤ 140737488351232 := by
    have hs := sized_string hsz (j := 0) rfl rfl
    simp only [reachBytes, Array.length_toList] at hs
    exact hs
  clear hA0 hval0
  refine (walk a0 W w0 rc0).mono fun e W' ⟨he, bel⟩ => ?_
  subst he
  exact ⟨_, rfl, _, _, _, [], _, [], hW', trodAll_mk1 (shut_bool Try.underlying4 _), (trodAll_cons_mk (shut_string Try.underlying9 w0) trodAll_mk0), rfl, bel.frame _, fun h => by cases h⟩

theorem over : Rows.namesOnlyRow.holds Try.pinned (OpenSpec.ofChange Rows.namesOnlySpec) :=
  OpenClaim.holds_of_wide 6 Try.f6 rfl rfl rfl rfl rfl rfl rfl ⟨rfl, rfl, rfl, rfl, rfl⟩ rfl rfl rfl rfl rfl (by kernel_rfl) Try.func6 (by kernel_rfl)
    (of_decide_eq_true (by kernel_rfl)) (by unfold Func.isWrapper; first | (rw [if_pos (by decide +kernel)]; kernel_rfl) | (rw [if_neg (by decide +kernel)]; exact ⟨rfl, rfl⟩))
    (fun os started H enc _ => lifted os started H enc)

end Nonl

theorem namesOnly_holds : Rows.NamesOnlySaid := Nonl.over
#print axioms namesOnly_holds
end Go.Proofs.Ytglnhppgoomehaa
