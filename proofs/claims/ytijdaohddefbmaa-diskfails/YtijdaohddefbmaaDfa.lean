/-
  PROVED: for all scripts and every operation the Go law DiskFails answers true and changes nothing that came in: an act that fails changes nothing, and is told; all goes on behind it as if it had not been asked. No condition.
-/
import Derived.Test.YtijdaohddefbmaaDff
namespace Go.Proofs.Ytijdaohddefbmaa
open Go.ChangeShapes Go.WideShapes Go.ChangeAt Go.RowKit Go.Deep
namespace Dfa
open Vt Dk
theorem walk (va : Value) (la : List Op7) (o : Op7) (ua : Option Addr) (uc : Nat) (vb : Value) (lb : List Op7) (w : World) (ha : Scr w.heap.size w va la) (ho : IsB w (.slice ua o.dat.length uc) o.dat) (hb : Scr w.heap.size w vb lb) (h1 : la.length ≤ 1600000000000) (h2 : lb.length ≤ 1600000000000) :
    Calls Try.prog 4 #[va, .agg (opc o ua uc).toArray, vb] w fun e w' => e = .returned (.bool true) ∧ Below w.heap.size w w' := failsLaw_is va vb la lb o ua uc w ha hb ho h1 h2
set_option linter.unusedVariables false
set_option maxRecDepth 100000 in
theorem lifted (os : Os) (started : os.Started) (H : Type) (enc : TypeId × Value → H) :
    ReturnsInHanded {} Try.checked os 4 .any (Rows.diskFailsSpec.pre6 enc Try.prog Try.f4 Rows.diskFailsRow.domain false) (Rows.diskFailsSpec.post enc Try.prog Try.f4 false true false false) := by
  refine returnsInHanded_of_change_sized (C := Try.checked) own started (by kernel_rfl) Try.func4
    (ChangeSpec.witness6 (enc := enc) (C := Try.checked) false ⟨#[], #[.slice none 0 0, .agg #[.int .i64 0, .string ⟨#[]⟩, .string ⟨#[]⟩, .slice none 0 0, .int .i64 0, .int .i64 0, .bool false], .slice none 0 0], []⟩ 8 (by kernel_rfl) (by kernel_rfl) (by kernel_rfl) (by kernel_rfl)) ?_
  intro W base args ds gs before hval0 hW hcnd hsz0 _
  have hsz : (DataW.weightsEach Try.prog (Try.f4.params.toList ++ Rows.diskFailsSpec.plain.varTypes Try.prog) (ds ++ gs)).all (· ≤ reachBytes) = true := hsz0
  clear hsz0
  have hval : ∀ (j : Nat) t v, Try.f4.params[j]? = some t → args[j]? = some v → Value.okWide Try.prog W .any base t v := hval0
  have hW' := hW
  obtain ⟨p, q, hA0, hV, rfl, hfz, hnd⟩ := hW
  have hA : DataW.TrodAll enc Try.prog W 0 (fun _ => true) true Try.f4.params.toList args.toList ds p := hA0
  rw [Try.params4] at hA hval hsz
  obtain ⟨v0, vs0, d0, ds0, p0, q0, hargs, rfl, rfl, h0, r0⟩ := trodAll_cons hA
  obtain ⟨v1, vs1, d1, ds1, p1, q1, rfl, rfl, rfl, h1, r1⟩ := trodAll_cons r0
  obtain ⟨v2, vs2, d2, ds2, p2, q2, rfl, rfl, rfl, h2, r2⟩ := trodAll_cons r1
  obtain ⟨rfl, rfl, rfl⟩ := trodAll_nil r2
  obtain rfl : args = #[v0, v1, v2] := by cases args; simp_all
  obtain ⟨rfl, rfl⟩ := trodVars_none hV
  obtain ⟨a0, len0, cap0, rfl⟩ := okWide_slice Try.underlying22 (hval 0 22 v0 rfl rfl)
  have k0 := h0
  have lt0 : ∀ x ∈ p0, x.block < W.heap.size := by obtain ⟨m, hm⟩ := k0; exact DataW.trod_lt m _ _ _ hm
  obtain ⟨l0, w0, ll0, sd0⟩ : ∃ l : List Op7, Scr W.heap.size W (.slice a0 len0 cap0) l ∧ l.length = len0 ∧ (len0 = 0 ∨ ∃ e s, d0 = .slice e s ∧ e.length = len0) := by
    obtain ⟨fuel, hf⟩ := h0
    obtain ⟨l, h1, h2, h3⟩ := ops_open hf
    exact ⟨l, h2, h1, h3⟩
  have rc0 : l0.length ≤ 1600000000000 := by
    rcases sd0 with hc | ⟨e, s, hd, hes⟩
    · omega
    · have hs := sized_slice hsz (j := 0) rfl (by rw [hd]; rfl) Try.underlying22
      rw [bytes_op] at hs
      simp only [reachBytes] at hs
      omega
  obtain ⟨o1, ua1, uc1, rfl, w1⟩ : ∃ (o : Op7) (ua : Option Addr) (uc : Nat), v1 = .agg (opc o ua uc).toArray ∧ IsB W (.slice ua o.dat.length uc) o.dat := by
    obtain ⟨fuel, hf⟩ := h1
    exact op_arg (hval 1 31 v1 rfl rfl) hf
  have lt1 : ∀ x ∈ p1, x.block < W.heap.size := by obtain ⟨m, hm⟩ := h1; exact DataW.trod_lt m _ _ _ hm
  obtain ⟨a2, len2, cap2, rfl⟩ := okWide_slice Try.underlying22 (hval 2 22 v2 rfl rfl)
  have k2 := h2
  have lt2 : ∀ x ∈ p2, x.block < W.heap.size := by obtain ⟨m, hm⟩ := k2; exact DataW.trod_lt m _ _ _ hm
  obtain ⟨l2, w2, ll2, sd2⟩ : ∃ l : List Op7, Scr W.heap.size W (.slice a2 len2 cap2) l ∧ l.length = len2 ∧ (len2 = 0 ∨ ∃ e s, d2 = .slice e s ∧ e.length = len2) := by
    obtain ⟨fuel, hf⟩ := h2
    obtain ⟨l, h1, h2, h3⟩ := ops_open hf
    exact ⟨l, h2, h1, h3⟩
  have rc2 : l2.length ≤ 1600000000000 := by
    rcases sd2 with hc | ⟨e, s, hd, hes⟩
    · omega
    · have hs := sized_slice hsz (j := 2) rfl (by rw [hd]; rfl) Try.underlying22
      rw [bytes_op] at hs
      simp only [reachBytes] at hs
      omega
  clear hA0 hval0
  refine (walk (.slice a0 len0 cap0) l0 o1 ua1 uc1 (.slice a2 len2 cap2) l2 W w0 w1 w2 rc0 rc2).mono fun e W' ⟨he, bel⟩ => ?_
  subst he
  exact ⟨_, rfl, _, _, _, [], _, [], hW', trodAll_mk1 (shut_bool Try.underlying4 _), (trodAll_cons_mk (Below.trod laidOut (by kernel_rfl) (of_decide_eq_true (by kernel_rfl)) k0 bel lt0) (trodAll_cons_mk (Below.trod laidOut (by kernel_rfl) (of_decide_eq_true (by kernel_rfl)) h1 bel lt1) (trodAll_cons_mk (Below.trod laidOut (by kernel_rfl) (of_decide_eq_true (by kernel_rfl)) k2 bel lt2) trodAll_mk0))), rfl, bel.frame _, fun h => by cases h⟩

theorem over : Rows.diskFailsRow.holds Try.pinned (OpenSpec.ofChange Rows.diskFailsSpec) :=
  OpenClaim.holds_of_wide 4 Try.f4 rfl rfl rfl rfl rfl rfl rfl ⟨rfl, rfl, rfl, rfl, rfl⟩ rfl rfl rfl rfl rfl (by kernel_rfl) Try.func4 (by kernel_rfl)
    (of_decide_eq_true (by kernel_rfl)) (by unfold Func.isWrapper; first | (rw [if_pos (by decide +kernel)]; kernel_rfl) | (rw [if_neg (by decide +kernel)]; exact ⟨rfl, rfl⟩))
    (fun os started H enc _ => lifted os started H enc)
end Dfa

theorem diskFails_holds : Rows.DiskFailsSaid := Dfa.over
#print axioms diskFails_holds
end Go.Proofs.Ytijdaohddefbmaa
