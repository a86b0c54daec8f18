/-
  PROVED: for every text b the Go law VintDecode answers true and changes nothing that came in: every Decode is the document's own. No condition.
-/
import Derived.Test.YthlmbojeiffkkabD0
import Derived.Test.YthlmbojeiffkkabD1
namespace Go.Proofs.Ythlmbojeiffkkab
open Go.ChangeShapes Go.WideShapes Go.ChangeAt Go.RowKit
namespace Decode
open Vt
set_option maxRecDepth 100000 in
set_option maxHeartbeats 1000000 in
theorem walkB (v : Value) (l : List Nat) (w : World) (hI : IsB w v l) (hm : l.length ≤ 140737488351232) :
    Calls Try.prog 3 #[v] w fun e w' => e = .returned (.bool true) ∧ Below w.heap.size w w' := by
  have HI := hd hI
  obtain ⟨a, c, rfl⟩ := hI.shape
  clear hI
  go_enter Try.func3, Try.ntmps3
  go_wp2_with fail
  refine Calls.mono (lent_is _ l w HI.out hm) ?_
  rintro e w1 ⟨rfl, hj1, hb1⟩
  have HB1 := hd hb1
  have HF1 := hd hj1.buf
  have HI1 := hd (HI.out.below hb1)
  clear hj1 hb1 HI
  go_wp2_with fail
  refine Calls.mono (decode_is (.slice none 0 0) [] w1 (isK_nil _ _ _ _ _)) ?_
  rw [show dec [] = (0, 0, 21) by decide]
  unfold ans
  rintro e w2 ⟨rfl, rfl⟩
  go_wp2_with fail
  refine Calls.mono (decode_is _ l w2 (lent_isB HF1.out)) ?_
  obtain ⟨n, k, f, hdd⟩ : ∃ n k f, dec l = (n, k, f) := ⟨_, _, _, rfl⟩
  rw [hdd]
  have HD := hd hdd
  clear hdd
  unfold ans
  rintro e w3 ⟨rfl, rfl⟩
  go_wp2_with fail
  refine Calls.mono (ref_is _ l w3 HI1.out) ?_
  rw [HD.out]
  unfold ans
  rintro e w4 ⟨rfl, rfl⟩
  go_wp2_with fail
  refine Calls.mono (kept_is _ _ _ l w4 HF1.out HI1.out) ?_
  rintro e w5 ⟨rfl, q5, hw5⟩
  have HB5 : Hid (Below w.heap.size w w5) := by rw [hw5]; exact below_drewN HB1.out q5
  have HF5 : Hid (Buf w5 w.heap.size (l.length + 8) (mk8 l)) := by rw [hw5]; exact HF1.out
  clear hw5 HF1 HB1 HI1 HD
  go_wp2_with fail
  refine Calls.mono (turned_is _ _ l.length w.heap.size _ w5 HF5.out (by rw [mk8_len]; omega) (Nat.le_refl _)) ?_
  rintro e w6 ⟨⟨v6, rfl⟩, ⟨F6, hF6, hB6⟩, hb6⟩
  rw [mk8_len] at hF6
  have HB6 : Hid (Below w.heap.size w w6) := HB5.out.trans hb6
  have HI6 : Hid (IsB w6 (.slice (some ⟨w.heap.size, 0, none⟩) l.length (l.length + 8)) (F6.take l.length)) := (hB6.isB rfl).take l.length (by omega)
  clear hB6 hb6 hF6 HF5 HB5
  generalize F6.take l.length = l6 at *
  go_wp2_with fail
  refine Calls.mono (decode_is _ l6 w6 HI6.out) ?_
  obtain ⟨n6, k6, f6, hdd⟩ : ∃ n k f, dec l6 = (n, k, f) := ⟨_, _, _, rfl⟩
  rw [hdd]
  have HD := hd hdd
  clear hdd
  unfold ans
  rintro e w7 ⟨rfl, rfl⟩
  go_wp2_with fail
  refine Calls.mono (ref_is _ l6 w7 HI6.out) ?_
  rw [HD.out]
  unfold ans
  rintro e w8 ⟨rfl, rfl⟩
  go_wp2_with fail
  refine Calls.mono (works_any w8) ?_
  rintro e w9 ⟨rfl, hb9⟩
  have HB9 : Hid (Below w.heap.size w w9) := HB6.out.trans (hb9.mono HB6.out.size)
  clear hb9
  go_wp2_with fail
  go_ret
  exact ⟨rfl, HB9.out⟩
theorem walk (a0 : Option Addr) (len0 cap0 : Nat) (z0 : List Int) (w : World) (w0 : IsRow .u8 w a0 len0 cap0 z0) (rc0 : cap0 ≤ 140737488351232) (hlc : len0 ≤ cap0) :
    Calls Try.prog 3 #[.slice a0 len0 cap0] w fun e w' => e = .returned (.bool true) ∧ Below w.heap.size w w' := by
  obtain ⟨l, hl, hI⟩ := w0.isB
  exact walkB _ l w hI (by omega)
set_option linter.unusedVariables false
set_option maxRecDepth 100000 in
theorem lifted (os : Os) (started : os.Started) (H : Type) (enc : TypeId × Value → H) :
    ReturnsInHanded {} Try.checked os 3 .any (Rows.vintDecodeSpec.pre6 enc Try.prog Try.f3 Rows.vintDecodeRow.domain false) (Rows.vintDecodeSpec.post enc Try.prog Try.f3 false true false false) := by
  refine returnsInHanded_of_change_sized (C := Try.checked) own started (by kernel_rfl) Try.func3
    (ChangeSpec.witness6 (enc := enc) (C := Try.checked) false ⟨#[], #[.slice none 0 0], []⟩ 8 (by kernel_rfl) (by kernel_rfl) (by kernel_rfl) (by kernel_rfl)) ?_
  intro W base args ds gs before hval0 hW hcnd hsz0 _
  have hsz : (DataW.weightsEach Try.prog (Try.f3.params.toList ++ Rows.vintDecodeSpec.plain.varTypes Try.prog) (ds ++ gs)).all (· ≤ reachBytes) = true := hsz0
  clear hsz0
  have hval : ∀ (j : Nat) t v, Try.f3.params[j]? = some t → args[j]? = some v → Value.okWide Try.prog W .any base t v := hval0
  have hW' := hW
  obtain ⟨p, q, hA0, hV, rfl, hfz, hnd⟩ := hW
  have hA : DataW.TrodAll enc Try.prog W 0 (fun _ => true) true Try.f3.params.toList args.toList ds p := hA0
  rw [Try.params3] at hA hval hsz
  obtain ⟨v0, vs0, d0, ds0, p0, q0, hargs, rfl, rfl, h0, r0⟩ := trodAll_cons hA
  obtain ⟨rfl, rfl, rfl⟩ := trodAll_nil r0
  obtain rfl : args = #[v0] := by cases args; simp_all
  obtain ⟨rfl, rfl⟩ := trodVars_none hV
  obtain ⟨a0, len0, cap0, rfl⟩ := okWide_slice Try.underlying22 (hval 0 22 v0 rfl rfl)
  have k0 := h0
  have lt0 : ∀ x ∈ p0, x.block < W.heap.size := by obtain ⟨m, hm⟩ := k0; exact DataW.trod_lt m _ _ _ hm
  obtain ⟨z0, w0, rc0, hlc0⟩ : ∃ zs, IsRow .u8 W a0 len0 cap0 zs ∧ cap0 ≤ 140737488351232 ∧ len0 ≤ cap0 := by
    obtain ⟨fuel, hf⟩ := h0
    rcases open_ints Try.underlying22 Try.underlying5 (by kernel_rfl) hf with ⟨hcs, _⟩ | ⟨x, l, c, zs, hcs, _, hl, hm, hz, hx, hcell, hwz⟩
    · simp [Value.cells] at hcs
      obtain ⟨rfl, rfl, rfl⟩ := hcs
      exact ⟨[], .inl ⟨rfl, rfl, rfl, rfl⟩, by omega, by omega⟩
    · simp [Value.cells] at hcs
      obtain ⟨rfl, rfl, rfl⟩ := hcs
      have hz2 : zs.length = cap0 := by simpa using hz
      simp only [Prod.mk.injEq] at hx
      have hs := sized_slice hsz (j := 0) rfl (by rw [hx.1]; rfl) Try.underlying22
      rw [bytes_u8] at hs
      simp only [lits, List.length_map, List.length_take, List.length_drop, reachBytes] at hs
      exact ⟨zs, .inr ⟨_, rfl, hl, hm, hz2, hcell, hwz⟩, by omega, hl⟩
  clear hA0 hval0
  refine (walk a0 len0 cap0 z0 W w0 rc0 hlc0).mono fun e W' ⟨he, bel⟩ => ?_
  subst he
  exact ⟨_, rfl, _, _, _, [], _, [], hW', trodAll_mk1 (shut_bool Try.underlying4 _), (trodAll_cons_mk (Below.trod laidOut (by kernel_rfl) (of_decide_eq_true (by kernel_rfl)) k0 bel lt0) trodAll_mk0), rfl, bel.frame _, fun h => by cases h⟩

theorem over : Rows.vintDecodeRow.holds Try.pinned (OpenSpec.ofChange Rows.vintDecodeSpec) :=
  OpenClaim.holds_of_wide 3 Try.f3 rfl rfl rfl rfl rfl rfl rfl ⟨rfl, rfl, rfl, rfl, rfl⟩ rfl rfl rfl rfl rfl (by kernel_rfl) Try.func3 (by kernel_rfl)
    (of_decide_eq_true (by kernel_rfl)) (by unfold Func.isWrapper; first | (rw [if_pos (by decide +kernel)]; kernel_rfl) | (rw [if_neg (by decide +kernel)]; exact ⟨rfl, rfl⟩))
    (fun os started H enc _ => lifted os started H enc)

end Decode

theorem vintDecode_holds : Rows.VintDecodeSaid := Decode.over
#print axioms vintDecode_holds
end Go.Proofs.Ythlmbojeiffkkab
