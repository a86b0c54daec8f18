/-
  PROVED: for every text s the Go law EscapeBack answers true and changes nothing that came in: what is wrapped is opened as it was, and no lead byte stands in it. No condition.
-/
import Derived.Test.YtojogadklhmkbaaE5
namespace Go.Proofs.Ytojogadklhmkbaa
open Go.ChangeShapes Go.WideShapes Go.ChangeAt Go.RowKit
namespace Eback
open Vt
theorem nxt_wr (l : List Nat) : nxt (wr l) 0 = (wr l).length := by
  unfold nxt frm nx
  simp only [Int.toNat_zero, Nat.zero_min, List.drop_zero, Nat.zero_add]
  rw [List.findIdx_eq_length]
  intro x hx
  rw [beq_eq_false_iff_ne]; exact wr_no l x hx
set_option maxRecDepth 100000 in
set_option maxHeartbeats 1000000 in
theorem walkB (v : Value) (l : List Nat) (w : World) (hI : IsB w v l) (hm : l.length ≤ 140737488355328) :
    Calls Try.prog 9 #[v] w fun e w' => e = .returned (.bool true) ∧ Below w.heap.size w w' := by
  obtain ⟨a, c, rfl⟩ := hI.shape
  have HI := hd hI
  have hwl := wr_len l
  clear hI
  go_enter Try.func9, Try.ntmps9
  go_wp2_with fail
  refine Calls.mono (awake_is w) ?_
  rintro e w1 ⟨rfl, hb1⟩
  have HB1 := hd hb1
  have HI1 := hd (HI.out.below hb1)
  clear hb1 HI
  go_wp2_with fail
  refine Calls.mono (wrap_is _ l w1 HI1.out hm) ?_
  rintro e w2 ⟨rfl, hj2, hb2⟩
  have HB2 := hd (HB1.out.trans (hb2.mono HB1.out.size))
  have HI2 := hd (HI1.out.below hb2)
  have HJ2 := hd hj2
  clear hb2 hj2 HB1 HI1
  go_wp2_with fail
  refine Calls.mono (esize_is _ l w2 HI2.out (by omega)) ?_
  rintro e w3 ⟨rfl, rfl⟩
  go_wp2_with fail
  have HF2 := hd HJ2.out.buf
  refine Calls.mono (next_row w1.heap.size 0 _ (wr l) 0 w3 HJ2.out.1 HF2.out.2.2.2.2.1 (Nat.le_refl _) HF2.out.2.1) ?_
  rintro e w4 ⟨rfl, hw4⟩
  subst hw4
  rw [nxt_wr]
  go_wp2_with fail
  refine Calls.mono (open_is _ (wr l) w4 HJ2.out.isB (by omega)) ?_
  rintro e w5 ⟨u, rfl, hj5, hb5⟩
  rw [badB_wr]
  have HJ5 : Hid (IsB w5 u l) := by
    have := hj5.isB
    unfold opn at this
    rwa [badB_wr, if_pos rfl, plain_wr] at this
  have HB5 := hd (HB2.out.trans (hb5.mono HB2.out.size))
  have HI5 := hd (HI2.out.below hb5)
  have HF5 := hd (HF2.out.below HF2.out.2.2.1 hb5)
  clear hj5 hb5 HB2 HI2 HJ2 HF2
  go_wp2_with fail
  refine Calls.mono (esame_is _ _ l l w5 HJ5.out HI5.out) ?_
  rw [decide_eq_true rfl]
  rintro e w6 ⟨rfl, rfl⟩
  have HN : Hid (∀ k, k < (wr l).length → (wr l).getD k 0 ≠ 167) := fun k hk => wr_no_at hk
  generalize hG : wr l = G at *
  clear hG
  go_wp2_with fail
  go_loop [10, 11] (fun o i => ∃ k : Nat, k ≤ G.length ∧ i = .int .i64 (k : Int) ∧ o = .bool true) (fun _ i => G.length - (intOf i).toNat)
  case atStart => exact ⟨0, by omega, rfl, rfl⟩
  case round =>
    obtain ⟨k, hk, rfl, rfl⟩ := hrel
    by_cases hlt : k < G.length
    · have hc := HF5.out.cell hlt
      have hn := HN.out k hlt
      generalize G.getD k 0 = x at *
      have hn2 : ((x : Int) != 167) = true := by simp; omega
      go_wp2_with fail
      go_round
      case rel => exact ⟨k + 1, by omega, by go_num, rfl⟩
      case measure => simp [intOf]; omega
    · obtain rfl : k = G.length := by omega
      go_wp2_with fail
      go_ret
      exact ⟨by show Ending.returned (.bool (decide ((G.length : Int) ≤ 2 * (l.length : Int)))) = _; rw [decide_eq_true (by omega)], HB5.out⟩
theorem walk (a0 : Option Addr) (len0 cap0 : Nat) (z0 : List Int) (w : World) (w0 : IsRow .u8 w a0 len0 cap0 z0) (rc0 : cap0 ≤ 140737488351232) (hlc0 : len0 ≤ cap0) :
    Calls Try.prog 9 #[.slice a0 len0 cap0] w fun e w' => e = .returned (.bool true) ∧ Below w.heap.size w w' := by
  obtain ⟨l, hl, hI⟩ := w0.isB
  exact walkB _ l w hI (by omega)
set_option linter.unusedVariables false
set_option maxRecDepth 100000 in
theorem lifted (os : Os) (started : os.Started) (H : Type) (enc : TypeId × Value → H) :
    ReturnsInHanded {} Try.checked os 9 .any (Rows.escapeBackSpec.pre6 enc Try.prog Try.f9 Rows.escapeBackRow.domain false) (Rows.escapeBackSpec.post enc Try.prog Try.f9 false true false false) := by
  refine returnsInHanded_of_change_sized (C := Try.checked) own started (by kernel_rfl) Try.func9
    (ChangeSpec.witness6 (enc := enc) (C := Try.checked) false ⟨#[], #[.slice none 0 0], []⟩ 8 (by kernel_rfl) (by kernel_rfl) (by kernel_rfl) (by kernel_rfl)) ?_
  intro W base args ds gs before hval0 hW hcnd hsz0 _
  have hsz : (DataW.weightsEach Try.prog (Try.f9.params.toList ++ Rows.escapeBackSpec.plain.varTypes Try.prog) (ds ++ gs)).all (· ≤ reachBytes) = true := hsz0
  clear hsz0
  have hval : ∀ (j : Nat) t v, Try.f9.params[j]? = some t → args[j]? = some v → Value.okWide Try.prog W .any base t v := hval0
  have hW' := hW
  obtain ⟨p, q, hA0, hV, rfl, hfz, hnd⟩ := hW
  have hA : DataW.TrodAll enc Try.prog W 0 (fun _ => true) true Try.f9.params.toList args.toList ds p := hA0
  rw [Try.params9] at hA hval hsz
  obtain ⟨v0, vs0, d0, ds0, p0, q0, hargs, rfl, rfl, h0, r0⟩ := trodAll_cons hA
  obtain ⟨rfl, rfl, rfl⟩ := trodAll_nil r0
  obtain rfl : args = #[v0] := by cases args; simp_all
  obtain ⟨rfl, rfl⟩ := trodVars_none hV
  obtain ⟨a0, len0, cap0, rfl⟩ := okWide_slice Try.underlying22 (hval 0 22 v0 rfl rfl)
  have k0 := h0
  have lt0 : ∀ x ∈ p0, x.block < W.heap.size := by obtain ⟨m, hm⟩ := k0; exact DataW.trod_lt m _ _ _ hm
  obtain ⟨z0, w0, rc0, hlc0⟩ : ∃ zs, IsRow .u8 W a0 len0 cap0 zs ∧ cap0 ≤ 140737488351232 ∧ len0 ≤ cap0 := by
    obtain ⟨fuel, hf⟩ := h0
    rcases open_ints Try.underlying22 Try.underlying5 (by kernel_rfl) hf with ⟨hcs, _⟩ | ⟨x, l, c, zs, hcs, _, hl, hm, hz, hx, hcell, hwz⟩
    · simp [Value.cells] at hcs
      obtain ⟨rfl, rfl, rfl⟩ := hcs
      exact ⟨[], .inl ⟨rfl, rfl, rfl, rfl⟩, by omega, by omega⟩
    · simp [Value.cells] at hcs
      obtain ⟨rfl, rfl, rfl⟩ := hcs
      have hz2 : zs.length = cap0 := by simpa using hz
      simp only [Prod.mk.injEq] at hx
      have hs := sized_slice hsz (j := 0) rfl (by rw [hx.1]; rfl) Try.underlying22
      rw [bytes_u8] at hs
      simp only [lits, List.length_map, List.length_take, List.length_drop, reachBytes] at hs
      exact ⟨zs, .inr ⟨_, rfl, hl, hm, hz2, hcell, hwz⟩, by omega, hl⟩
  clear hA0 hval0
  refine (walk a0 len0 cap0 z0 W w0 rc0 hlc0).mono fun e W' ⟨he, bel⟩ => ?_
  subst he
  exact ⟨_, rfl, _, _, _, [], _, [], hW', trodAll_mk1 (shut_bool Try.underlying4 _), (trodAll_cons_mk (Below.trod laidOut (by kernel_rfl) (of_decide_eq_true (by kernel_rfl)) k0 bel lt0) trodAll_mk0), rfl, bel.frame _, fun h => by cases h⟩

theorem over : Rows.escapeBackRow.holds Try.pinned (OpenSpec.ofChange Rows.escapeBackSpec) :=
  OpenClaim.holds_of_wide 9 Try.f9 rfl rfl rfl rfl rfl rfl rfl ⟨rfl, rfl, rfl, rfl, rfl⟩ rfl rfl rfl rfl rfl (by kernel_rfl) Try.func9 (by kernel_rfl)
    (of_decide_eq_true (by kernel_rfl)) (by unfold Func.isWrapper; first | (rw [if_pos (by decide +kernel)]; kernel_rfl) | (rw [if_neg (by decide +kernel)]; exact ⟨rfl, rfl⟩))
    (fun os started H enc _ => lifted os started H enc)

end Eback

theorem escapeBack_holds : Rows.EscapeBackSaid := Eback.over
#print axioms escapeBack_holds
end Go.Proofs.Ytojogadklhmkbaa
