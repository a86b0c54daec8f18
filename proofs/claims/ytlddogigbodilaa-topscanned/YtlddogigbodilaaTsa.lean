/-
  PROVED: for all raw records and all lists of bytes the Go law TopScanned answers true and changes nothing that came in: frames are found among junk, just those, at their places. No condition.
-/
import Derived.Test.YtlddogigbodilaaTsc
import Derived.Test.YtlddogigbodilaaNbs
import Derived.Deep.Matrix
namespace Go.Proofs.Ytlddogigbodilaa
open Go.ChangeShapes Go.WideShapes Go.ChangeAt Go.RowKit Go.Deep
namespace Tsa
open Vt
theorem list4 {α : Type} {l : List α} (h : l.length = 4) : ∃ a b c d, l = [a, b, c, d] := by
  match l, h with
  | [a, b, c, d], _ => exact ⟨a, b, c, d, rfl⟩
theorem cells_raw : Try.prog.cellTypes Try.prog.depth 82 = some [3, 3, 3, 3] := by kernel_rfl
theorem size_raw : Try.prog.cellsOf 82 = 4 := by kernel_rfl
theorem has_i64 {n : Int} (h : IntKind.i64.has n) : (Lit.int .i64 n).wf = true := by
  have e1 : IntKind.i64.min = -9223372036854775808 := rfl
  have e2 : IntKind.i64.max = 9223372036854775807 := rfl
  unfold IntKind.has at h
  rw [e1, e2] at h
  exact Go.WalkArith.wf_i64 h
theorem cell_raw : Try.prog.cellsOf 82 = 4 := by kernel_rfl
theorem cell_int1 : Try.prog.cellsOf 3 = 1 := by kernel_rfl
theorem add_off (b off i : Nat) : Addr.add ⟨b, off, none⟩ i = ⟨b, off + i, none⟩ := by
  unfold Addr.add; split
  · subst_vars; rfl
  · rfl
theorem raw_open {H : Type} {enc : TypeId × Value → H} {W : World} {fuel : Nat} {cs : List Value} {y : DataW H × List MemPlace} (h : DataW.trod enc Try.prog W 0 (fun _ => true) true fuel 82 cs = some y) (hl : cs.length = 4) : ∃ x : Rw4, cs = wcl x ∧ x.Ok := by
  obtain ⟨xs, k, hk, hxy, _, hxl, hf⟩ := DataW.trod_struct Try.underlying82 h
  obtain ⟨y0, y1, y2, y3, rfl⟩ := list4 (l := xs) hxl
  obtain ⟨v0, v1, v2, v3, rfl⟩ := list4 hl
  have g0 := hf 0 ⟨ "Kind", 3, 0, false, "", "", 0⟩ rfl
  have g1 := hf 1 ⟨ "Key", 3, 1, false, "", "", 8⟩ rfl
  have g2 := hf 2 ⟨ "Value", 3, 2, false, "", "", 16⟩ rfl
  have g3 := hf 3 ⟨ "N", 3, 3, false, "", "", 24⟩ rfl
  simp only [cell_int1, List.drop_zero, List.take_succ_cons, List.take_zero, List.getElem?_cons_zero] at g0
  simp only [cell_int1, List.drop_succ_cons, List.drop_zero, List.take_succ_cons, List.take_zero, List.getElem?_cons_succ, List.getElem?_cons_zero] at g1 g2 g3
  obtain ⟨n0, e0, h00, h01⟩ := DataW.trod_int Try.underlying3 g0
  obtain ⟨n1, e1, h10, h11⟩ := DataW.trod_int Try.underlying3 g1
  obtain ⟨n2, e2, h20, h21⟩ := DataW.trod_int Try.underlying3 g2
  obtain ⟨n3, e3, h30, h31⟩ := DataW.trod_int Try.underlying3 g3
  simp only [List.cons.injEq, and_true] at e0 e1 e2 e3
  subst e0 e1 e2 e3
  exact ⟨⟨n0, n1, n2, n3⟩, rfl, h01, h11, h21, h31⟩
theorem raws_open {H : Type} {enc : TypeId × Value → H} {W : World} {fuel : Nat} {y : DataW H × List MemPlace} {a0 : Option Addr} {len0 cap0 : Nat} (h : DataW.trod enc Try.prog W 0 (fun _ => true) true fuel 75 [.slice a0 len0 cap0] = some y) :
    ∃ l : List Rw4, l.length = len0 ∧ IsRw W (.slice a0 len0 cap0) l ∧ (len0 = 0 ∨ ∃ e s, y.1 = .slice e s ∧ e.length = len0) := by
  rcases open_slice Try.underlying75 h with ⟨hcs, _⟩ | ⟨a, len, cap, m, n, D, Pl, hcs, _, hl, hm, hmm, hyy, hx⟩
  · simp at hcs
    obtain ⟨rfl, rfl, rfl⟩ := hcs
    exact ⟨[], rfl, ⟨(fun x hx => by cases hx), .inl ⟨rfl, _, _, rfl⟩⟩, .inl rfl⟩
  · simp at hcs
    obtain ⟨rfl, rfl, rfl⟩ := hcs
    simp only [if_true] at hmm
    subst hmm
    by_cases h0 : len0 = 0
    · subst h0
      exact ⟨[], rfl, ⟨(fun x hx => by cases hx), .inl ⟨rfl, _, _, rfl⟩⟩, .inl rfl⟩
    · have hel : ∀ i, i < len0 → ∃ t : Rw4, (∀ j u, (wcl t)[j]? = some u → W.cell? (a.add (i * 4) |>.add j) = some u) ∧ t.Ok := by
        intro i hi
        obtain ⟨cs', h1, h2⟩ := hx i (by omega)
        rw [cell_raw] at h1
        obtain ⟨_, hlen, hcell⟩ := World.cells?_some h1
        obtain ⟨o, rfl, hok⟩ := raw_open h2 hlen
        refine ⟨o, fun j u hu => ?_, hok⟩
        have hj : j < 4 := by
          have := (List.getElem?_eq_some_iff.1 hu).1
          simpa [wcl] using this
        rw [hcell j hj]
        exact hu
      haveI : Inhabited Rw4 := ⟨⟨0, 0, 0, 0⟩⟩
      obtain ⟨F, hF⟩ := choose_lt hel
      obtain ⟨b, off, spot⟩ := a
      have hc := (hF 0 (by omega)).1 0 _ rfl
      have hspot : spot = none := by simpa [Addr.add] using World.cell?_spot hc
      subst hspot
      have hbl : b < W.heap.size := by
        have := lt_of_cell hc
        rw [add_off, add_off] at this
        exact this
      refine ⟨(List.range len0).map F, by simp, ⟨fun x hx => ?_, .inr ⟨b, off, m, by simp, by simp; omega, hm, hbl, fun i x hi j u hu => ?_⟩⟩, .inr ⟨_, _, by rw [hyy], by simp⟩⟩
      · obtain ⟨i, hi, rfl⟩ := List.mem_map.1 hx
        exact (hF i (List.mem_range.1 hi)).2
      · have hil : i < len0 := by have := (List.getElem?_eq_some_iff.1 hi).1; simpa using this
        rw [List.getElem?_map, List.getElem?_range hil] at hi
        obtain rfl := Option.some.inj hi
        have := (hF i hil).1 j u hu
        rwa [add_off, add_off] at this
theorem rows {W : World} {a : Addr} {len cap : Nat} {A : Nat → Option Addr} {L C : Nat → Nat} {Z : Nat → List Int} (hm : len ≤ maxLen)
    (h : ∀ r, r < len → W.cell? (a.add r) = some (.slice (A r) (L r) (C r)) ∧ IsRow .u8 W (A r) (L r) (C r) (Z r)) :
    ∃ ls : List (List Nat), IsP W (.slice (some a) len cap) ls := by
  by_cases h0 : len = 0
  · subst h0
    exact ⟨[], by simp, .inl ⟨rfl, _, _, rfl⟩⟩
  · obtain ⟨F, hF⟩ := choose_lt (fun r (hr : r < len) => (h r hr).2.isB)
    obtain ⟨b, off, spot⟩ := a
    have hc := (h 0 (by omega)).1
    have hspot : spot = none := by simpa [Addr.add] using World.cell?_spot hc
    subst hspot
    have hbl : b < W.heap.size := by
      have := lt_of_cell hc
      rw [add_off] at this
      exact this
    have hg : ∀ i, i < len → ((List.range len).map F).getD i [] = F i := fun i hi => by
      rw [List.getD_eq_getElem?_getD, List.getElem?_map, List.getElem?_range hi]; rfl
    refine ⟨(List.range len).map F, ?_, .inr ⟨b, off, cap, ?_, hbl, ?_⟩⟩
    · simpa using hm
    · simp
    · intro i hi
      simp at hi
      refine ⟨_, by rw [← add_off]; exact (h i hi).1, ?_⟩
      rw [hg i hi]; exact (hF i hi).2
theorem walk (va : Value) (l : List Rw4) (vb : Value) (js : List (List Nat)) (w : World) (h1 : IsRw w va l) (h2 : IsP w vb js) :
    Calls Try.prog 7 #[va, vb] w fun e w' => e = .returned (.bool true) ∧ Below w.heap.size w w' := scanned_walk va vb l js w h1 h2
set_option linter.unusedVariables false
set_option maxRecDepth 100000 in
theorem lifted (os : Os) (started : os.Started) (H : Type) (enc : TypeId × Value → H) :
    ReturnsInHanded {} Try.checked os 7 .any (Rows.topScannedSpec.pre6 enc Try.prog Try.f7 Rows.topScannedRow.domain false) (Rows.topScannedSpec.post enc Try.prog Try.f7 false true false false) := by
  refine returnsInHanded_of_change (C := Try.checked) own started (by kernel_rfl) Try.func7
    (ChangeSpec.witness6 (enc := enc) (C := Try.checked) false ⟨#[], #[.slice none 0 0, .slice none 0 0], []⟩ 8 (by kernel_rfl) (by kernel_rfl) (by kernel_rfl) (by kernel_rfl)) ?_
  intro W base args ds gs before hval0 hW hcnd _
  have hval : ∀ (j : Nat) t v, Try.f7.params[j]? = some t → args[j]? = some v → Value.okWide Try.prog W .any base t v := hval0
  have hW' := hW
  obtain ⟨p, q, hA0, hV, rfl, hfz, hnd⟩ := hW
  have hA : DataW.TrodAll enc Try.prog W 0 (fun _ => true) true Try.f7.params.toList args.toList ds p := hA0
  rw [Try.params7] at hA hval
  obtain ⟨v0, vs0, d0, ds0, p0, q0, hargs, rfl, rfl, h0, r0⟩ := trodAll_cons hA
  obtain ⟨v1, vs1, d1, ds1, p1, q1, rfl, rfl, rfl, h1, r1⟩ := trodAll_cons r0
  obtain ⟨rfl, rfl, rfl⟩ := trodAll_nil r1
  obtain rfl : args = #[v0, v1] := by cases args; simp_all
  obtain ⟨rfl, rfl⟩ := trodVars_none hV
  obtain ⟨a0, len0, cap0, rfl⟩ := okWide_slice Try.underlying75 (hval 0 75 v0 rfl rfl)
  have k0 := h0
  have lt0 : ∀ x ∈ p0, x.block < W.heap.size := by obtain ⟨m, hm⟩ := k0; exact DataW.trod_lt m _ _ _ hm
  obtain ⟨l0, w0⟩ : ∃ l, IsRw W (.slice a0 len0 cap0) l := by
    obtain ⟨fuel, hf⟩ := h0
    obtain ⟨l, h1, h2, h3⟩ := raws_open hf
    exact ⟨l, h2⟩
  obtain ⟨a1, len1, cap1, rfl⟩ := okWide_slice Try.underlying76 (hval 1 76 v1 rfl rfl)
  have k1 := h1
  have lt1 : ∀ x ∈ p1, x.block < W.heap.size := by obtain ⟨m, hm⟩ := k1; exact DataW.trod_lt m _ _ _ hm
  obtain ⟨l1, w1⟩ : ∃ ls : List (List Nat), IsP W (.slice a1 len1 cap1) ls := by
    obtain ⟨fuel, hf⟩ := h1
    rcases open_int_rows Try.underlying76 Try.underlying22 Try.underlying5 (by kernel_rfl) (by kernel_rfl) hf with ⟨hcs, _⟩ | ⟨a, len, cap, A, L, C, Z, hcs, _, hl, hm, hx, hrows⟩
    · simp [Value.cells] at hcs
      obtain ⟨rfl, rfl, rfl⟩ := hcs
      exact ⟨[], by simp, .inl ⟨rfl, _, _, rfl⟩⟩
    · simp [Value.cells] at hcs
      obtain ⟨rfl, rfl, rfl⟩ := hcs
      refine rows (A := A) (L := L) (C := C) (Z := Z) (by omega) fun r hr => ?_
      obtain ⟨c1, c2, c3, c4, c5, c6, c7⟩ := hrows r (by omega)
      refine ⟨c1, ?_⟩
      cases hA : A r with
      | none =>
        have hC := c6 hA
        exact .inl ⟨rfl, by omega, hC, List.eq_nil_of_length_eq_zero (by omega)⟩
      | some a' => exact .inr ⟨a', rfl, c2, c3, c4, fun i hi => (c7 a' hA).2 i (by omega), c5⟩
  clear hA0 hval0
  refine (walk (.slice a0 len0 cap0) l0 (.slice a1 len1 cap1) l1 W w0 w1).mono fun e W' ⟨he, bel⟩ => ?_
  subst he
  exact ⟨_, rfl, _, _, _, [], _, [], hW', trodAll_mk1 (shut_bool Try.underlying4 _), (trodAll_cons_mk (Below.trod laidOut (by kernel_rfl) (of_decide_eq_true (by kernel_rfl)) k0 bel lt0) (trodAll_cons_mk (Below.trod laidOut (by kernel_rfl) (of_decide_eq_true (by kernel_rfl)) k1 bel lt1) trodAll_mk0)), rfl, bel.frame _, fun h => by cases h⟩

theorem over : Rows.topScannedRow.holds Try.pinned (OpenSpec.ofChange Rows.topScannedSpec) :=
  OpenClaim.holds_of_wide 7 Try.f7 rfl rfl rfl rfl rfl rfl rfl ⟨rfl, rfl, rfl, rfl, rfl⟩ rfl rfl rfl rfl rfl (by kernel_rfl) Try.func7 (by kernel_rfl)
    (of_decide_eq_true (by kernel_rfl)) (by unfold Func.isWrapper; first | (rw [if_pos (by decide +kernel)]; kernel_rfl) | (rw [if_neg (by decide +kernel)]; exact ⟨rfl, rfl⟩))
    (fun os started H enc _ => lifted os started H enc)
end Tsa

theorem topScanned_holds : Rows.TopScannedSaid := Tsa.over
#print axioms topScanned_holds
end Go.Proofs.Ytlddogigbodilaa
