/-
  PROVED: for all scripts and every number of bytes to be kept the Go law DiskCrash answers true and changes nothing that came in: behind a crash each file has what lasted, and of the rest the first bytes that were to be kept; all of it lasts. No condition.
-/
import Derived.Test.YtiooodhgndklkaaDcw
import Derived.Test.YtiooodhgndklkaaDop
namespace Go.Proofs.Ytiooodhgndklkaa
open Go.ChangeShapes Go.WideShapes Go.ChangeAt Go.RowKit Go.Deep
namespace Dcr
open Vt Dk
theorem walk (va : Value) (la : List Op7) (keep : Int) (w : World) (ha : Scr w.heap.size w va la) (_hk : (Lit.int .i64 keep).wf = true) (h1 : la.length ≤ 1600000000000) :
    Calls Try.prog 6 #[va, .int .i64 keep] w fun e w' => e = .returned (.bool true) ∧ Below w.heap.size w w' := Dk.crashLaw_is va la keep w ha h1
set_option linter.unusedVariables false
set_option maxRecDepth 100000 in
theorem lifted (os : Os) (started : os.Started) (H : Type) (enc : TypeId × Value → H) :
    ReturnsInHanded {} Try.checked os 6 .any (Rows.diskCrashSpec.pre6 enc Try.prog Try.f6 Rows.diskCrashRow.domain false) (Rows.diskCrashSpec.post enc Try.prog Try.f6 false true false false) := by
  refine returnsInHanded_of_change_sized (C := Try.checked) own started (by kernel_rfl) Try.func6
    (ChangeSpec.witness6 (enc := enc) (C := Try.checked) false ⟨#[], #[.slice none 0 0, .int .i64 0], []⟩ 8 (by kernel_rfl) (by kernel_rfl) (by kernel_rfl) (by kernel_rfl)) ?_
  intro W base args ds gs before hval0 hW hcnd hsz0 _
  have hsz : (DataW.weightsEach Try.prog (Try.f6.params.toList ++ Rows.diskCrashSpec.plain.varTypes Try.prog) (ds ++ gs)).all (· ≤ reachBytes) = true := hsz0
  clear hsz0
  have hval : ∀ (j : Nat) t v, Try.f6.params[j]? = some t → args[j]? = some v → Value.okWide Try.prog W .any base t v := hval0
  have hW' := hW
  obtain ⟨p, q, hA0, hV, rfl, hfz, hnd⟩ := hW
  have hA : DataW.TrodAll enc Try.prog W 0 (fun _ => true) true Try.f6.params.toList args.toList ds p := hA0
  rw [Try.params6] at hA hval hsz
  obtain ⟨v0, vs0, d0, ds0, p0, q0, hargs, rfl, rfl, h0, r0⟩ := trodAll_cons hA
  obtain ⟨v1, vs1, d1, ds1, p1, q1, rfl, rfl, rfl, h1, r1⟩ := trodAll_cons r0
  obtain ⟨rfl, rfl, rfl⟩ := trodAll_nil r1
  obtain rfl : args = #[v0, v1] := by cases args; simp_all
  obtain ⟨rfl, rfl⟩ := trodVars_none hV
  obtain ⟨a0, len0, cap0, rfl⟩ := okWide_slice Try.underlying38 (hval 0 38 v0 rfl rfl)
  have k0 := h0
  have lt0 : ∀ x ∈ p0, x.block < W.heap.size := by obtain ⟨m, hm⟩ := k0; exact DataW.trod_lt m _ _ _ hm
  obtain ⟨l0, w0, ll0, sd0⟩ : ∃ l : List Op7, Scr W.heap.size W (.slice a0 len0 cap0) l ∧ l.length = len0 ∧ (len0 = 0 ∨ ∃ e s, d0 = .slice e s ∧ e.length = len0) := by
    obtain ⟨fuel, hf⟩ := h0
    obtain ⟨l, h1, h2, h3⟩ := ops_open hf
    exact ⟨l, h2, h1, h3⟩
  have rc0 : l0.length ≤ 1600000000000 := by
    rcases sd0 with hc | ⟨e, s, hd, hes⟩
    · omega
    · have hs := sized_slice hsz (j := 0) rfl (by rw [hd]; rfl) Try.underlying38
      rw [bytes_op] at hs
      simp only [reachBytes] at hs
      omega
  obtain ⟨a1, rfl, rfl, rfl, w1⟩ := open_int Try.underlying3 (hval 1 3 v1 rfl rfl) h1
  clear hA0 hval0
  refine (walk (.slice a0 len0 cap0) l0 a1 W w0 w1 rc0).mono fun e W' ⟨he, bel⟩ => ?_
  subst he
  exact ⟨_, rfl, _, _, _, [], _, [], hW', trodAll_mk1 (shut_bool Try.underlying4 _), (trodAll_cons_mk (Below.trod laidOut (by kernel_rfl) (of_decide_eq_true (by kernel_rfl)) k0 bel lt0) (trodAll_cons_mk (shut_int Try.underlying3 w1) trodAll_mk0)), rfl, bel.frame _, fun h => by cases h⟩

theorem over : Rows.diskCrashRow.holds Try.pinned (OpenSpec.ofChange Rows.diskCrashSpec) :=
  OpenClaim.holds_of_wide 6 Try.f6 rfl rfl rfl rfl rfl rfl rfl ⟨rfl, rfl, rfl, rfl, rfl⟩ rfl rfl rfl rfl rfl (by kernel_rfl) Try.func6 (by kernel_rfl)
    (of_decide_eq_true (by kernel_rfl)) (by unfold Func.isWrapper; first | (rw [if_pos (by decide +kernel)]; kernel_rfl) | (rw [if_neg (by decide +kernel)]; exact ⟨rfl, rfl⟩))
    (fun os started H enc _ => lifted os started H enc)
end Dcr

theorem diskCrash_holds : Rows.DiskCrashSaid := Dcr.over
#print axioms diskCrash_holds
end Go.Proofs.Ytiooodhgndklkaa
