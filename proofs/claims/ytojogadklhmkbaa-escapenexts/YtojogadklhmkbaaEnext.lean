/-
  PROVED: for every text s and all places the Go law EscapeNexts answers true and changes nothing that came in: every Next is the document's own. No condition.
-/
import Derived.Test.YtojogadklhmkbaaE6
namespace Go.Proofs.Ytojogadklhmkbaa
open Go.ChangeShapes Go.WideShapes Go.ChangeAt Go.RowKit
namespace Enext
open Vt
set_option maxRecDepth 100000 in
set_option maxHeartbeats 1000000 in
theorem walkB (v : Value) (l : List Nat) (z y : Int) (w : World) (hI : IsB w v l) (hm : l.length ≤ 140737488355328) :
    Calls Try.prog 3 #[v, .int .i64 z, .int .i64 y] w fun e w' => e = .returned (.bool true) ∧ Below w.heap.size w w' := by
  obtain ⟨a, c, rfl⟩ := hI.shape
  have HI := hd hI
  clear hI
  go_enter Try.func3, Try.ntmps3
  go_wp2_with fail
  refine Calls.mono (room_is _ l w HI.out hm) ?_
  rintro e w1 ⟨rfl, hj1, hb1⟩
  have HB1 := hd hb1
  have HI1 := hd (HI.out.below hb1)
  have HF1 := hd hj1.buf
  have HL1 := hd (lent_isB hj1.buf)
  clear hb1 hj1 HI
  go_wp2_with fail
  refine Calls.mono (next_row w.heap.size 0 _ l z w1 HL1.out.1 HL1.out.row (by omega) (by unfold maxLen; omega)) ?_
  rintro e w2 ⟨rfl, rfl⟩
  go_wp2_with fail
  refine Calls.mono (next_row w.heap.size 0 _ l y w2 HL1.out.1 HL1.out.row (by omega) (by unfold maxLen; omega)) ?_
  rintro e w3 ⟨rfl, rfl⟩
  go_wp2_with fail
  have hlit := lit_isK .u8 256 w3 #[.int .u8 0, .int .u8 167, .int .u8 167] 5 [0, 167, 167] 3 rfl rfl (by decide) (by decide)
  refine Calls.mono (next_row w3.heap.size 0 3 [0, 167, 167] 2 _ hlit.1 hlit.row (by decide) (by decide)) ?_
  rw [show nxt [0, 167, 167] 2 = 2 by decide]
  rintro e w4 ⟨rfl, hw4⟩
  have HB4 : Hid (Below w.heap.size w w4) := by rw [hw4]; exact HB1.out.alloc HB1.out.size _
  have HF4 : Hid (Buf w4 w.heap.size (l.length + 8) (mk8 l)) := by rw [hw4]; exact HF1.out.below HF1.out.2.2.1 ((Below.refl _ _).alloc (Nat.le_refl _) _)
  have HI4 : Hid (IsB w4 (.slice a l.length c) l) := by rw [hw4]; exact HI1.out.below ((Below.refl _ _).alloc (Nat.le_refl _) _)
  clear hw4 hlit HB1 HI1 HF1 HL1
  go_wp2_with fail
  refine Calls.mono (whole_is _ _ _ l w4 HF4.out HI4.out) ?_
  rintro e w5 ⟨rfl, n5, hw5⟩
  have HB5 : Hid (Below w.heap.size w w5) := by rw [hw5]; exact below_drewN HB4.out n5
  have HI5 : Hid (IsB w5 (.slice a l.length c) l) := by rw [hw5]; exact HI4.out.drewN n5
  clear hw5 HB4 HI4 HF4
  go_wp2_with fail
  refine Calls.mono (rnext_is _ l z w5 HI5.out) ?_
  rintro e w6 ⟨rfl, n6, hw6⟩
  have HB6 : Hid (Below w.heap.size w w6) := by rw [hw6]; exact below_drewN HB5.out n6
  have HI6 : Hid (IsB w6 (.slice a l.length c) l) := by rw [hw6]; exact HI5.out.drewN n6
  clear hw6 HB5 HI5
  go_wp2_with fail
  refine Calls.mono (rnext_is _ l y w6 HI6.out) ?_
  rintro e w7 ⟨rfl, n7, hw7⟩
  have HB7 : Hid (Below w.heap.size w w7) := by rw [hw7]; exact below_drewN HB6.out n7
  clear hw7 HB6 HI6
  go_wp2_with fail
  go_ret
  exact ⟨rfl, HB7.out⟩
theorem walk (a0 : Option Addr) (len0 cap0 : Nat) (z0 : List Int) (a1 a2 : Int) (w : World) (w0 : IsRow .u8 w a0 len0 cap0 z0) (_ : (Lit.int .i64 a1).wf = true) (_ : (Lit.int .i64 a2).wf = true) (rc0 : cap0 ≤ 140737488351232) (hlc0 : len0 ≤ cap0) :
    Calls Try.prog 3 #[.slice a0 len0 cap0, .int .i64 a1, .int .i64 a2] w fun e w' => e = .returned (.bool true) ∧ Below w.heap.size w w' := by
  obtain ⟨l, hl, hI⟩ := w0.isB
  exact walkB _ l a1 a2 w hI (by omega)
set_option linter.unusedVariables false
set_option maxRecDepth 100000 in
theorem lifted (os : Os) (started : os.Started) (H : Type) (enc : TypeId × Value → H) :
    ReturnsInHanded {} Try.checked os 3 .any (Rows.escapeNextsSpec.pre6 enc Try.prog Try.f3 Rows.escapeNextsRow.domain false) (Rows.escapeNextsSpec.post enc Try.prog Try.f3 false true false false) := by
  refine returnsInHanded_of_change_sized (C := Try.checked) own started (by kernel_rfl) Try.func3
    (ChangeSpec.witness6 (enc := enc) (C := Try.checked) false ⟨#[], #[.slice none 0 0, .int .i64 0, .int .i64 0], []⟩ 8 (by kernel_rfl) (by kernel_rfl) (by kernel_rfl) (by kernel_rfl)) ?_
  intro W base args ds gs before hval0 hW hcnd hsz0 _
  have hsz : (DataW.weightsEach Try.prog (Try.f3.params.toList ++ Rows.escapeNextsSpec.plain.varTypes Try.prog) (ds ++ gs)).all (· ≤ reachBytes) = true := hsz0
  clear hsz0
  have hval : ∀ (j : Nat) t v, Try.f3.params[j]? = some t → args[j]? = some v → Value.okWide Try.prog W .any base t v := hval0
  have hW' := hW
  obtain ⟨p, q, hA0, hV, rfl, hfz, hnd⟩ := hW
  have hA : DataW.TrodAll enc Try.prog W 0 (fun _ => true) true Try.f3.params.toList args.toList ds p := hA0
  rw [Try.params3] at hA hval hsz
  obtain ⟨v0, vs0, d0, ds0, p0, q0, hargs, rfl, rfl, h0, r0⟩ := trodAll_cons hA
  obtain ⟨v1, vs1, d1, ds1, p1, q1, rfl, rfl, rfl, h1, r1⟩ := trodAll_cons r0
  obtain ⟨v2, vs2, d2, ds2, p2, q2, rfl, rfl, rfl, h2, r2⟩ := trodAll_cons r1
  obtain ⟨rfl, rfl, rfl⟩ := trodAll_nil r2
  obtain rfl : args = #[v0, v1, v2] := by cases args; simp_all
  obtain ⟨rfl, rfl⟩ := trodVars_none hV
  obtain ⟨a0, len0, cap0, rfl⟩ := okWide_slice Try.underlying22 (hval 0 22 v0 rfl rfl)
  have k0 := h0
  have lt0 : ∀ x ∈ p0, x.block < W.heap.size := by obtain ⟨m, hm⟩ := k0; exact DataW.trod_lt m _ _ _ hm
  obtain ⟨z0, w0, rc0, hlc0⟩ : ∃ zs, IsRow .u8 W a0 len0 cap0 zs ∧ cap0 ≤ 140737488351232 ∧ len0 ≤ cap0 := by
    obtain ⟨fuel, hf⟩ := h0
    rcases open_ints Try.underlying22 Try.underlying5 (by kernel_rfl) hf with ⟨hcs, _⟩ | ⟨x, l, c, zs, hcs, _, hl, hm, hz, hx, hcell, hwz⟩
    · simp [Value.cells] at hcs
      obtain ⟨rfl, rfl, rfl⟩ := hcs
      exact ⟨[], .inl ⟨rfl, rfl, rfl, rfl⟩, by omega, by omega⟩
    · simp [Value.cells] at hcs
      obtain ⟨rfl, rfl, rfl⟩ := hcs
      have hz2 : zs.length = cap0 := by simpa using hz
      simp only [Prod.mk.injEq] at hx
      have hs := sized_slice hsz (j := 0) rfl (by rw [hx.1]; rfl) Try.underlying22
      rw [bytes_u8] at hs
      simp only [lits, List.length_map, List.length_take, List.length_drop, reachBytes] at hs
      exact ⟨zs, .inr ⟨_, rfl, hl, hm, hz2, hcell, hwz⟩, by omega, hl⟩
  obtain ⟨a1, rfl, rfl, rfl, w1⟩ := open_int Try.underlying3 (hval 1 3 v1 rfl rfl) h1
  obtain ⟨a2, rfl, rfl, rfl, w2⟩ := open_int Try.underlying3 (hval 2 3 v2 rfl rfl) h2
  clear hA0 hval0
  refine (walk a0 len0 cap0 z0 a1 a2 W w0 w1 w2 rc0 hlc0).mono fun e W' ⟨he, bel⟩ => ?_
  subst he
  exact ⟨_, rfl, _, _, _, [], _, [], hW', trodAll_mk1 (shut_bool Try.underlying4 _), (trodAll_cons_mk (Below.trod laidOut (by kernel_rfl) (of_decide_eq_true (by kernel_rfl)) k0 bel lt0) (trodAll_cons_mk (shut_int Try.underlying3 w1) (trodAll_cons_mk (shut_int Try.underlying3 w2) trodAll_mk0))), rfl, bel.frame _, fun h => by cases h⟩

theorem over : Rows.escapeNextsRow.holds Try.pinned (OpenSpec.ofChange Rows.escapeNextsSpec) :=
  OpenClaim.holds_of_wide 3 Try.f3 rfl rfl rfl rfl rfl rfl rfl ⟨rfl, rfl, rfl, rfl, rfl⟩ rfl rfl rfl rfl rfl (by kernel_rfl) Try.func3 (by kernel_rfl)
    (of_decide_eq_true (by kernel_rfl)) (by unfold Func.isWrapper; first | (rw [if_pos (by decide +kernel)]; kernel_rfl) | (rw [if_neg (by decide +kernel)]; exact ⟨rfl, rfl⟩))
    (fun os started H enc _ => lifted os started H enc)

end Enext

theorem escapeNexts_holds : Rows.EscapeNextsSaid := Enext.over
#print axioms escapeNexts_holds
end Go.Proofs.Ytojogadklhmkbaa
