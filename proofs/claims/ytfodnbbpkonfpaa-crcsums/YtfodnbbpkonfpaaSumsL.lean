/-
  PROVED: for every sum and all lists of bytes the Go law CrcSums answers true and changes nothing that came in: bit by bit, by a table, by eight tables and of all parts together the sum is the one of the parts one behind the other, by one Tables and by another. No condition.
-/
import Derived.Test.YtfodnbbpkonfpaaSums
import Derived.Test.YtfodnbbpkonfpaaL1
import Derived.Deep.Matrix
namespace Go.Proofs.Ytfodnbbpkonfpaa
open Go.ChangeShapes Go.WideShapes Go.ChangeAt Go.RowKit Go.Deep
namespace SumsL
theorem bytes_sl : Try.prog.bytesOf 22 = 24 := by kernel_rfl
/-- where all weights of the parts are bounded, a part's are: here for a row of bytes among the parts -/
theorem part_far {H : Type} {B : Nat} (a' : Addr) (L : Nat) (Z : List Int) : ∀ (ps : List (DataW H)), (∀ n ∈ DataW.weightsAll Try.prog 22 ps, n ≤ B) → intRow .u8 (some a') L Z ∈ ps → Z.length ≤ B := by
  intro ps
  induction ps with
  | nil => intro _ hx; cases hx
  | cons y r ih =>
    intro hB hx
    rw [DataW.weightsAll] at hB
    cases hx with
    | tail _ hr => exact ih (fun n hn => hB n (List.mem_append_right _ hn)) hr
    | head =>
      have h := hB _ (List.mem_append_left _ (by rw [intRow, DataW.weights, Try.underlying22]; exact List.mem_cons_self))
      rw [bytes_u8] at h
      simp only [lits, List.length_map, List.length_take, List.length_drop] at h
      omega
theorem rows {W : World} {a : Addr} {len cap : Nat} {A : Nat → Option Addr} {L C : Nat → Nat} {Z : Nat → List Int} (hm : len ≤ 140737488351232)
    (h : ∀ r, r < len → W.cell? (a.add r) = some (.slice (A r) (L r) (C r)) ∧ IsRow .u8 W (A r) (L r) (C r) (Z r) ∧ L r ≤ 140737488351232) :
    ∃ ls : List (List Nat), IsP W (.slice (some a) len cap) ls ∧ ls.length ≤ 140737488351232 ∧ ∀ i, (ls.getD i []).length ≤ 140737488351232 := by
  by_cases h0 : len = 0
  · subst h0
    exact ⟨[], ⟨by simp, .inl ⟨rfl, _, _, rfl⟩⟩, by simp, by simp⟩
  · obtain ⟨F, hF⟩ := choose_lt (fun r (hr : r < len) => (h r hr).2.1.isB)
    obtain ⟨b, off, spot⟩ := a
    have hc := (h 0 (by omega)).1
    have hspot : spot = none := by simpa [Addr.add] using World.cell?_spot hc
    subst hspot
    have hbl : b < W.heap.size := by
      have := lt_of_cell hc
      unfold Addr.add at this
      split at this <;> exact this
    have hg : ∀ i, i < len → ((List.range len).map F).getD i [] = F i := fun i hi => by
      rw [List.getD_eq_getElem?_getD, List.getElem?_map, List.getElem?_range hi]; rfl
    refine ⟨(List.range len).map F, ⟨?_, .inr ⟨b, off, cap, ?_, hbl, ?_⟩⟩, ?_, ?_⟩
    · simp [maxLen]; omega
    · simp
    · intro i hi
      simp at hi
      have hA : Addr.add ⟨b, off, none⟩ i = ⟨b, off + i, none⟩ := by
        unfold Addr.add; split
        · subst_vars; rfl
        · rfl
      refine ⟨_, by rw [← hA]; exact (h i hi).1, ?_⟩
      rw [hg i hi]; exact (hF i hi).2
    · simpa using hm
    · intro i
      by_cases hi : i < len
      · rw [hg i hi, (hF i hi).1]; exact (h i hi).2.2
      · rw [List.getD_eq_getElem?_getD, List.getElem?_eq_none (by simpa using hi)]; simp
theorem walk (a0 : Int) (v : Value) (ls : List (List Nat)) (w : World) (w0 : (Lit.int .u32 a0).wf = true) (hP : IsP w v ls) (hm : ls.length ≤ 140737488351232) (hR : ∀ i, (ls.getD i []).length ≤ 140737488351232) :
    Calls Try.prog 8 #[.int .u32 a0, v] w fun e w' => e = .returned (.bool true) ∧ Below w.heap.size w w' := by
  obtain ⟨s, rfl, hs⟩ := wf_u32 w0
  exact Sums.law_is s v ls w hs hP hm hR
set_option linter.unusedVariables false
set_option maxRecDepth 100000 in
theorem lifted (os : Os) (started : os.Started) (H : Type) (enc : TypeId × Value → H) :
    ReturnsInHanded {} Try.checked os 8 .any (Rows.crcSumsSpec.pre6 enc Try.prog Try.f8 Rows.crcSumsRow.domain false) (Rows.crcSumsSpec.post enc Try.prog Try.f8 false true false false) := by
  refine returnsInHanded_of_change_sized (C := Try.checked) own started (by kernel_rfl) Try.func8
    (ChangeSpec.witness6 (enc := enc) (C := Try.checked) false ⟨#[], #[.int .u32 0, .slice none 0 0], []⟩ 8 (by kernel_rfl) (by kernel_rfl) (by kernel_rfl) (by kernel_rfl)) ?_
  intro W base args ds gs before hval0 hW hcnd hsz0 _
  have hsz : (DataW.weightsEach Try.prog (Try.f8.params.toList ++ Rows.crcSumsSpec.plain.varTypes Try.prog) (ds ++ gs)).all (· ≤ reachBytes) = true := hsz0
  clear hsz0
  have hval : ∀ (j : Nat) t v, Try.f8.params[j]? = some t → args[j]? = some v → Value.okWide Try.prog W .any base t v := hval0
  have hW' := hW
  obtain ⟨p, q, hA0, hV, rfl, hfz, hnd⟩ := hW
  have hA : DataW.TrodAll enc Try.prog W 0 (fun _ => true) true Try.f8.params.toList args.toList ds p := hA0
  rw [Try.params8] at hA hval hsz
  obtain ⟨v0, vs0, d0, ds0, p0, q0, hargs, rfl, rfl, h0, r0⟩ := trodAll_cons hA
  obtain ⟨v1, vs1, d1, ds1, p1, q1, rfl, rfl, rfl, h1, r1⟩ := trodAll_cons r0
  obtain ⟨rfl, rfl, rfl⟩ := trodAll_nil r1
  obtain rfl : args = #[v0, v1] := by cases args; simp_all
  obtain ⟨rfl, rfl⟩ := trodVars_none hV
  obtain ⟨a0, rfl, rfl, rfl, w0⟩ := open_int Try.underlying23 (hval 0 23 v0 rfl rfl) h0
  obtain ⟨a1, len1, cap1, rfl⟩ := okWide_slice Try.underlying38 (hval 1 38 v1 rfl rfl)
  have k1 := h1
  have lt1 : ∀ x ∈ p1, x.block < W.heap.size := by obtain ⟨m, hm⟩ := k1; exact DataW.trod_lt m _ _ _ hm
  obtain ⟨ls, hP, hlm, hlr⟩ : ∃ ls : List (List Nat), IsP W (.slice a1 len1 cap1) ls ∧ ls.length ≤ 140737488351232 ∧ ∀ i, (ls.getD i []).length ≤ 140737488351232 := by
    obtain ⟨fuel, hf⟩ := h1
    rcases open_int_rows Try.underlying38 Try.underlying22 Try.underlying5 (by kernel_rfl) (by kernel_rfl) hf with ⟨hcs, _⟩ | ⟨a, len, cap, A, L, C, Z, hcs, _, hl, hm, hx, hrows⟩
    · simp [Value.cells] at hcs
      obtain ⟨rfl, rfl, rfl⟩ := hcs
      exact ⟨[], ⟨by simp, .inl ⟨rfl, _, _, rfl⟩⟩, by simp, by simp⟩
    · simp [Value.cells] at hcs
      obtain ⟨rfl, rfl, rfl⟩ := hcs
      simp only [Prod.mk.injEq] at hx
      have hs := sized_slice hsz (j := 1) rfl (by rw [hx.1]; rfl) Try.underlying38
      rw [bytes_sl] at hs
      simp only [List.length_map, List.length_range, reachBytes] at hs
      refine rows (A := A) (L := L) (C := C) (Z := Z) (by omega) fun r hr => ?_
      obtain ⟨c1, c2, c3, c4, c5, c6, c7⟩ := hrows r (by omega)
      refine ⟨c1, ?_, ?_⟩
      · cases hA : A r with
        | none =>
          have hC := c6 hA
          refine .inl ⟨rfl, by omega, hC, List.eq_nil_of_length_eq_zero (by omega)⟩
        | some a' => exact .inr ⟨a', rfl, c2, c3, c4, fun i hi => (c7 a' hA).2 i (by omega), c5⟩
      · cases hA : A r with
        | none => have hC := c6 hA; omega
        | some a' =>
          have hin : intRow (H := H) .u8 (A r) (L r) (Z r) ∈ (List.range len1).map fun r => intRow (H := H) .u8 (A r) (L r) (Z r) := List.mem_map.2 ⟨r, List.mem_range.2 hr, rfl⟩
          rw [hA] at hin
          have hi := part_far (B := reachBytes) a' (L r) (Z r) _ (fun n hn => by
            refine of_decide_eq_true (List.all_eq_true.1 hsz n (DataW.weights_mem_each (j := 1) rfl (by rw [hx.1]; rfl) n ?_))
            rw [DataW.weights, Try.underlying38]
            exact List.mem_cons_of_mem _ (List.mem_append_left _ hn)) hin
          simp only [reachBytes] at hi
          omega
  clear hA0 hval0
  refine (walk a0 (.slice a1 len1 cap1) ls W w0 hP hlm hlr).mono fun e W' ⟨he, bel⟩ => ?_
  subst he
  exact ⟨_, rfl, _, _, _, [], _, [], hW', trodAll_mk1 (shut_bool Try.underlying4 _), (trodAll_cons_mk (shut_int Try.underlying23 w0) (trodAll_cons_mk (Below.trod laidOut (by kernel_rfl) (of_decide_eq_true (by kernel_rfl)) k1 bel lt1) trodAll_mk0)), rfl, bel.frame _, fun h => by cases h⟩

theorem over : Rows.crcSumsRow.holds Try.pinned (OpenSpec.ofChange Rows.crcSumsSpec) :=
  OpenClaim.holds_of_wide 8 Try.f8 rfl rfl rfl rfl rfl rfl rfl ⟨rfl, rfl, rfl, rfl, rfl⟩ rfl rfl rfl rfl rfl (by kernel_rfl) Try.func8 (by kernel_rfl)
    (of_decide_eq_true (by kernel_rfl)) (by unfold Func.isWrapper; first | (rw [if_pos (by decide +kernel)]; kernel_rfl) | (rw [if_neg (by decide +kernel)]; exact ⟨rfl, rfl⟩))
    (fun os started H enc _ => lifted os started H enc)

end SumsL

theorem crcSums_holds : Rows.CrcSumsSaid := SumsL.over
#print axioms crcSums_holds
end Go.Proofs.Ytfodnbbpkonfpaa
