/-
  PROVED: for every text b the Go law EscapeOnly answers true and changes nothing that came in: what is opened comes, wrapped, to what was opened; else the byte that cannot stand is told. No condition.
-/
import Derived.Test.YtojogadklhmkbaaE4
namespace Go.Proofs.Ytojogadklhmkbaa
open Go.ChangeShapes Go.WideShapes Go.ChangeAt Go.RowKit
namespace Eonly
open Vt
set_option maxRecDepth 100000 in
set_option maxHeartbeats 1000000 in
theorem walkB (v : Value) (l : List Nat) (w : World) (hI : IsB w v l) (hm : l.length ≤ 140737488355328) :
    Calls Try.prog 6 #[v] w fun e w' => e = .returned (.bool true) ∧ Below w.heap.size w w' := by
  obtain ⟨a, c, rfl⟩ := hI.shape
  have HI := hd hI
  clear hI
  go_enter Try.func6, Try.ntmps6
  go_wp2_with fail
  refine Calls.mono (awake_is w) ?_
  rintro e w1 ⟨rfl, hb1⟩
  have HB1 := hd hb1
  have HI1 := hd (HI.out.below hb1)
  clear hb1 HI
  go_wp2_with fail
  refine Calls.mono (open_is _ l w1 HI1.out (by omega)) ?_
  rintro e w2 ⟨u, rfl, hj2, hb2⟩
  have HB2 := hd (HB1.out.trans (hb2.mono HB1.out.size))
  have HI2 := hd (HI1.out.below hb2)
  have HJ2 := hd hj2.isB
  clear hb2 hj2 HB1 HI1
  by_cases hz : (badB 0 l).1 = 0
  · have hbz := badB_zero hz
    have HON := hd (only hz)
    have ho : opn l = plain l := by unfold opn; rw [if_pos hz]
    have hpl := plain_len l
    rw [hbz]
    rw [ho] at HJ2
    obtain ⟨ua, uc, rfl⟩ := HJ2.out.shape
    clear hbz hz ho
    go_wp2_with fail
    refine Calls.mono (wrap_is _ (plain l) w2 HJ2.out (by omega)) ?_
    rintro e w3 ⟨rfl, hj3, hb3⟩
    rw [HON.out] at hj3 ⊢
    have HJ3 := hd hj3.isB
    have HI3 := hd (HI2.out.below hb3)
    have HB3 := hd (HB2.out.trans (hb3.mono HB2.out.size))
    clear hj3 hb3
    go_wp2_with fail
    refine Calls.mono (esame_is _ _ l l w3 HJ3.out HI3.out) ?_
    rw [decide_eq_true rfl]
    rintro e w4 ⟨rfl, rfl⟩
    go_wp2_with fail
    go_ret
    exact ⟨rfl, HB3.out⟩
  · have ho : opn l = [] := by unfold opn; rw [if_neg hz]
    obtain ⟨hlt, hpl⟩ := badB_place hz
    rw [ho] at HJ2
    obtain ⟨ua, uc, rfl⟩ := HJ2.out.shape
    clear HJ2 ho
    rw [List.length_nil]
    obtain ⟨_, _, ⟨rfl, _⟩ | ⟨bb, oo, cc, e, hlc, _, hbb, hrow⟩⟩ := HI2.out
    · simp at hlt
    · injection e with e1 e2 e3
      subst e1 e3
      have hcell := hrow _ hlt
      generalize badB 0 l = d at *
      obtain ⟨d1, d2⟩ := d
      simp only at hlt hpl hz hcell
      clear hrow HI2
      generalize l.getD d2 0 = x at *
      rcases hpl with ⟨rfl, rfl⟩ | ⟨rfl, rfl⟩
      · go_wp2_with fail
        go_ret
        exact ⟨rfl, HB2.out⟩
      · go_wp2_with fail
        go_ret
        exact ⟨rfl, HB2.out⟩
theorem walk (a0 : Option Addr) (len0 cap0 : Nat) (z0 : List Int) (w : World) (w0 : IsRow .u8 w a0 len0 cap0 z0) (rc0 : cap0 ≤ 140737488351232) (hlc0 : len0 ≤ cap0) :
    Calls Try.prog 6 #[.slice a0 len0 cap0] w fun e w' => e = .returned (.bool true) ∧ Below w.heap.size w w' := by
  obtain ⟨l, hl, hI⟩ := w0.isB
  exact walkB _ l w hI (by omega)
set_option linter.unusedVariables false
set_option maxRecDepth 100000 in
theorem lifted (os : Os) (started : os.Started) (H : Type) (enc : TypeId × Value → H) :
    ReturnsInHanded {} Try.checked os 6 .any (Rows.escapeOnlySpec.pre6 enc Try.prog Try.f6 Rows.escapeOnlyRow.domain false) (Rows.escapeOnlySpec.post enc Try.prog Try.f6 false true false false) := by
  refine returnsInHanded_of_change_sized (C := Try.checked) own started (by kernel_rfl) Try.func6
    (ChangeSpec.witness6 (enc := enc) (C := Try.checked) false ⟨#[], #[.slice none 0 0], []⟩ 8 (by kernel_rfl) (by kernel_rfl) (by kernel_rfl) (by kernel_rfl)) ?_
  intro W base args ds gs before hval0 hW hcnd hsz0 _
  have hsz : (DataW.weightsEach Try.prog (Try.f6.params.toList ++ Rows.escapeOnlySpec.plain.varTypes Try.prog) (ds ++ gs)).all (· ≤ reachBytes) = true := hsz0
  clear hsz0
  have hval : ∀ (j : Nat) t v, Try.f6.params[j]? = some t → args[j]? = some v → Value.okWide Try.prog W .any base t v := hval0
  have hW' := hW
  obtain ⟨p, q, hA0, hV, rfl, hfz, hnd⟩ := hW
  have hA : DataW.TrodAll enc Try.prog W 0 (fun _ => true) true Try.f6.params.toList args.toList ds p := hA0
  rw [Try.params6] at hA hval hsz
  obtain ⟨v0, vs0, d0, ds0, p0, q0, hargs, rfl, rfl, h0, r0⟩ := trodAll_cons hA
  obtain ⟨rfl, rfl, rfl⟩ := trodAll_nil r0
  obtain rfl : args = #[v0] := by cases args; simp_all
  obtain ⟨rfl, rfl⟩ := trodVars_none hV
  obtain ⟨a0, len0, cap0, rfl⟩ := okWide_slice Try.underlying22 (hval 0 22 v0 rfl rfl)
  have k0 := h0
  have lt0 : ∀ x ∈ p0, x.block < W.heap.size := by obtain ⟨m, hm⟩ := k0; exact DataW.trod_lt m _ _ _ hm
  obtain ⟨z0, w0, rc0, hlc0⟩ : ∃ zs, IsRow .u8 W a0 len0 cap0 zs ∧ cap0 ≤ 140737488351232 ∧ len0 ≤ cap0 := by
    obtain ⟨fuel, hf⟩ := h0
    rcases open_ints Try.underlying22 Try.underlying5 (by kernel_rfl) hf with ⟨hcs, _⟩ | ⟨x, l, c, zs, hcs, _, hl, hm, hz, hx, hcell, hwz⟩
    · simp [Value.cells] at hcs
      obtain ⟨rfl, rfl, rfl⟩ := hcs
      exact ⟨[], .inl ⟨rfl, rfl, rfl, rfl⟩, by omega, by omega⟩
    · simp [Value.cells] at hcs
      obtain ⟨rfl, rfl, rfl⟩ := hcs
      have hz2 : zs.length = cap0 := by simpa using hz
      simp only [Prod.mk.injEq] at hx
      have hs := sized_slice hsz (j := 0) rfl (by rw [hx.1]; rfl) Try.underlying22
      rw [bytes_u8] at hs
      simp only [lits, List.length_map, List.length_take, List.length_drop, reachBytes] at hs
      exact ⟨zs, .inr ⟨_, rfl, hl, hm, hz2, hcell, hwz⟩, by omega, hl⟩
  clear hA0 hval0
  refine (walk a0 len0 cap0 z0 W w0 rc0 hlc0).mono fun e W' ⟨he, bel⟩ => ?_
  subst he
  exact ⟨_, rfl, _, _, _, [], _, [], hW', trodAll_mk1 (shut_bool Try.underlying4 _), (trodAll_cons_mk (Below.trod laidOut (by kernel_rfl) (of_decide_eq_true (by kernel_rfl)) k0 bel lt0) trodAll_mk0), rfl, bel.frame _, fun h => by cases h⟩

theorem over : Rows.escapeOnlyRow.holds Try.pinned (OpenSpec.ofChange Rows.escapeOnlySpec) :=
  OpenClaim.holds_of_wide 6 Try.f6 rfl rfl rfl rfl rfl rfl rfl ⟨rfl, rfl, rfl, rfl, rfl⟩ rfl rfl rfl rfl rfl (by kernel_rfl) Try.func6 (by kernel_rfl)
    (of_decide_eq_true (by kernel_rfl)) (by unfold Func.isWrapper; first | (rw [if_pos (by decide +kernel)]; kernel_rfl) | (rw [if_neg (by decide +kernel)]; exact ⟨rfl, rfl⟩))
    (fun os started H enc _ => lifted os started H enc)

end Eonly

theorem escapeOnly_holds : Rows.EscapeOnlySaid := Eonly.over
#print axioms escapeOnly_holds
end Go.Proofs.Ytojogadklhmkbaa
