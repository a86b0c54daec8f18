/-
  PROVED: for all scripts, every operation, done or not, and every number of bytes to be kept the Go law DiskEnds answers true and changes nothing that came in: an act that breaks off is done or not; the disk is down then, and nothing is done till the crash. No condition.
-/
import Derived.Test.YtijdaohddefbmaaDfe
namespace Go.Proofs.Ytijdaohddefbmaa
open Go.ChangeShapes Go.WideShapes Go.ChangeAt Go.RowKit Go.Deep
namespace Dea
open Vt Dk
theorem walk (va : Value) (la : List Op7) (o : Op7) (ua : Option Addr) (uc : Nat) (done : Bool) (vb : Value) (lb : List Op7) (keep : Int) (w : World) (ha : Scr w.heap.size w va la) (ho : IsB w (.slice ua o.dat.length uc) o.dat) (hb : Scr w.heap.size w vb lb) (_hk : (Lit.int .i64 keep).wf = true) (h1 : la.length ≤ 1600000000000) (h2 : lb.length ≤ 1600000000000) :
    Calls Try.prog 5 #[va, .agg (opc o ua uc).toArray, .bool done, vb, .int .i64 keep] w fun e w' => e = .returned (.bool true) ∧ Below w.heap.size w w' := endsLaw_is done keep va vb la lb o ua uc w ha hb ho h1 h2
set_option linter.unusedVariables false
set_option maxRecDepth 100000 in
theorem lifted (os : Os) (started : os.Started) (H : Type) (enc : TypeId × Value → H) :
    ReturnsInHanded {} Try.checked os 5 .any (Rows.diskEndsSpec.pre6 enc Try.prog Try.f5 Rows.diskEndsRow.domain false) (Rows.diskEndsSpec.post enc Try.prog Try.f5 false true false false) := by
  refine returnsInHanded_of_change_sized (C := Try.checked) own started (by kernel_rfl) Try.func5
    (ChangeSpec.witness6 (enc := enc) (C := Try.checked) false ⟨#[], #[.slice none 0 0, .agg #[.int .i64 0, .string ⟨#[]⟩, .string ⟨#[]⟩, .slice none 0 0, .int .i64 0, .int .i64 0, .bool false], .bool false, .slice none 0 0, .int .i64 0], []⟩ 8 (by kernel_rfl) (by kernel_rfl) (by kernel_rfl) (by kernel_rfl)) ?_
  intro W base args ds gs before hval0 hW hcnd hsz0 _
  have hsz : (DataW.weightsEach Try.prog (Try.f5.params.toList ++ Rows.diskEndsSpec.plain.varTypes Try.prog) (ds ++ gs)).all (· ≤ reachBytes) = true := hsz0
  clear hsz0
  have hval : ∀ (j : Nat) t v, Try.f5.params[j]? = some t → args[j]? = some v → Value.okWide Try.prog W .any base t v := hval0
  have hW' := hW
  obtain ⟨p, q, hA0, hV, rfl, hfz, hnd⟩ := hW
  have hA : DataW.TrodAll enc Try.prog W 0 (fun _ => true) true Try.f5.params.toList args.toList ds p := hA0
  rw [Try.params5] at hA hval hsz
  obtain ⟨v0, vs0, d0, ds0, p0, q0, hargs, rfl, rfl, h0, r0⟩ := trodAll_cons hA
  obtain ⟨v1, vs1, d1, ds1, p1, q1, rfl, rfl, rfl, h1, r1⟩ := trodAll_cons r0
  obtain ⟨v2, vs2, d2, ds2, p2, q2, rfl, rfl, rfl, h2, r2⟩ := trodAll_cons r1
  obtain ⟨v3, vs3, d3, ds3, p3, q3, rfl, rfl, rfl, h3, r3⟩ := trodAll_cons r2
  obtain ⟨v4, vs4, d4, ds4, p4, q4, rfl, rfl, rfl, h4, r4⟩ := trodAll_cons r3
  obtain ⟨rfl, rfl, rfl⟩ := trodAll_nil r4
  obtain rfl : args = #[v0, v1, v2, v3, v4] := by cases args; simp_all
  obtain ⟨rfl, rfl⟩ := trodVars_none hV
  obtain ⟨a0, len0, cap0, rfl⟩ := okWide_slice Try.underlying22 (hval 0 22 v0 rfl rfl)
  have k0 := h0
  have lt0 : ∀ x ∈ p0, x.block < W.heap.size := by obtain ⟨m, hm⟩ := k0; exact DataW.trod_lt m _ _ _ hm
  obtain ⟨l0, w0, ll0, sd0⟩ : ∃ l : List Op7, Scr W.heap.size W (.slice a0 len0 cap0) l ∧ l.length = len0 ∧ (len0 = 0 ∨ ∃ e s, d0 = .slice e s ∧ e.length = len0) := by
    obtain ⟨fuel, hf⟩ := h0
    obtain ⟨l, h1, h2, h3⟩ := ops_open hf
    exact ⟨l, h2, h1, h3⟩
  have rc0 : l0.length ≤ 1600000000000 := by
    rcases sd0 with hc | ⟨e, s, hd, hes⟩
    · omega
    · have hs := sized_slice hsz (j := 0) rfl (by rw [hd]; rfl) Try.underlying22
      rw [bytes_op] at hs
      simp only [reachBytes] at hs
      omega
  obtain ⟨o1, ua1, uc1, rfl, w1⟩ : ∃ (o : Op7) (ua : Option Addr) (uc : Nat), v1 = .agg (opc o ua uc).toArray ∧ IsB W (.slice ua o.dat.length uc) o.dat := by
    obtain ⟨fuel, hf⟩ := h1
    exact op_arg (hval 1 31 v1 rfl rfl) hf
  have lt1 : ∀ x ∈ p1, x.block < W.heap.size := by obtain ⟨m, hm⟩ := h1; exact DataW.trod_lt m _ _ _ hm
  obtain ⟨a2, rfl, rfl, rfl⟩ := open_bool Try.underlying4 (hval 2 4 v2 rfl rfl) h2
  obtain ⟨a3, len3, cap3, rfl⟩ := okWide_slice Try.underlying22 (hval 3 22 v3 rfl rfl)
  have k3 := h3
  have lt3 : ∀ x ∈ p3, x.block < W.heap.size := by obtain ⟨m, hm⟩ := k3; exact DataW.trod_lt m _ _ _ hm
  obtain ⟨l3, w3, ll3, sd3⟩ : ∃ l : List Op7, Scr W.heap.size W (.slice a3 len3 cap3) l ∧ l.length = len3 ∧ (len3 = 0 ∨ ∃ e s, d3 = .slice e s ∧ e.length = len3) := by
    obtain ⟨fuel, hf⟩ := h3
    obtain ⟨l, h1, h2, h3⟩ := ops_open hf
    exact ⟨l, h2, h1, h3⟩
  have rc3 : l3.length ≤ 1600000000000 := by
    rcases sd3 with hc | ⟨e, s, hd, hes⟩
    · omega
    · have hs := sized_slice hsz (j := 3) rfl (by rw [hd]; rfl) Try.underlying22
      rw [bytes_op] at hs
      simp only [reachBytes] at hs
      omega
  obtain ⟨a4, rfl, rfl, rfl, w4⟩ := open_int Try.underlying3 (hval 4 3 v4 rfl rfl) h4
  clear hA0 hval0
  refine (walk (.slice a0 len0 cap0) l0 o1 ua1 uc1 a2 (.slice a3 len3 cap3) l3 a4 W w0 w1 w3 w4 rc0 rc3).mono fun e W' ⟨he, bel⟩ => ?_
  subst he
  exact ⟨_, rfl, _, _, _, [], _, [], hW', trodAll_mk1 (shut_bool Try.underlying4 _), (trodAll_cons_mk (Below.trod laidOut (by kernel_rfl) (of_decide_eq_true (by kernel_rfl)) k0 bel lt0) (trodAll_cons_mk (Below.trod laidOut (by kernel_rfl) (of_decide_eq_true (by kernel_rfl)) h1 bel lt1) (trodAll_cons_mk (shut_bool Try.underlying4 _) (trodAll_cons_mk (Below.trod laidOut (by kernel_rfl) (of_decide_eq_true (by kernel_rfl)) k3 bel lt3) (trodAll_cons_mk (shut_int Try.underlying3 w4) trodAll_mk0))))), rfl, bel.frame _, fun h => by cases h⟩

theorem over : Rows.diskEndsRow.holds Try.pinned (OpenSpec.ofChange Rows.diskEndsSpec) :=
  OpenClaim.holds_of_wide 5 Try.f5 rfl rfl rfl rfl rfl rfl rfl ⟨rfl, rfl, rfl, rfl, rfl⟩ rfl rfl rfl rfl rfl (by kernel_rfl) Try.func5 (by kernel_rfl)
    (of_decide_eq_true (by kernel_rfl)) (by unfold Func.isWrapper; first | (rw [if_pos (by decide +kernel)]; kernel_rfl) | (rw [if_neg (by decide +kernel)]; exact ⟨rfl, rfl⟩))
    (fun os started H enc _ => lifted os started H enc)
end Dea

theorem diskEnds_holds : Rows.DiskEndsSaid := Dea.over
#print axioms diskEnds_holds
end Go.Proofs.Ytijdaohddefbmaa
