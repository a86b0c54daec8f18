/-
  PROVED: for all records and all junk the Go law ScanMade answers true and changes nothing that came in: what was written is found, whatever junk without a lead byte lies between. No condition.
-/
import Derived.Test.YtbcibgjphjlffaaSmd
import Derived.Deep.Matrix
namespace Go.Proofs.Ytbcibgjphjlffaa
open Go.ChangeShapes Go.WideShapes Go.ChangeAt Go.RowKit Go.Deep
namespace Vt
theorem cell_rec : Try.prog.cellsOf 27 = 4 := by kernel_rfl
theorem cell_u64 : Try.prog.cellsOf 25 = 1 := by kernel_rfl
theorem cell_kind : Try.prog.cellsOf 24 = 1 := by kernel_rfl
theorem cell_str : Try.prog.cellsOf 9 = 1 := by kernel_rfl
theorem list_four {α : Type} {l : List α} (h : l.length = 4) : ∃ a b c d, l = [a, b, c, d] := by
  match l, h with
  | [a, b, c, d], _ => exact ⟨a, b, c, d, rfl⟩
theorem rec_open {H : Type} {enc : TypeId × Value → H} {W : World} {base : Nat} {sp : Nat → Bool} {held : Bool} {fuel : Nat} {cs : List Value} {y : DataW H × List MemPlace} (h : DataW.trod enc Try.prog W base sp held fuel 27 cs = some y) (hl : cs.length = 4) :
    ∃ r : Rec, r.lsn < 18446744073709551616 ∧ cs = (rv r).toList := by
  obtain ⟨xs, k, hk, hxy, _, hxl, hf⟩ := DataW.trod_struct Try.underlying27 h
  obtain ⟨y0, y1, y2, y3, rfl⟩ := list_four (l := xs) hxl
  obtain ⟨v0, v1, v2, v3, rfl⟩ := list_four hl
  have g0 := hf 0 ⟨ "LSN", 25, 0, false, "", "", 0⟩ rfl
  have g1 := hf 1 ⟨ "Kind", 24, 1, false, "", "", 8⟩ rfl
  have g2 := hf 2 ⟨ "Key", 9, 2, false, "", "", 16⟩ rfl
  have g3 := hf 3 ⟨ "Value", 9, 3, false, "", "", 32⟩ rfl
  simp only [cell_u64, List.drop_zero, List.take_succ_cons, List.take_zero, List.getElem?_cons_zero] at g0
  simp only [cell_kind, List.drop_succ_cons, List.drop_zero, List.take_succ_cons, List.take_zero, List.getElem?_cons_succ, List.getElem?_cons_zero] at g1
  simp only [cell_str, List.drop_succ_cons, List.drop_zero, List.take_succ_cons, List.take_zero, List.getElem?_cons_succ, List.getElem?_cons_zero] at g2 g3
  obtain ⟨n0, e0, _, w0⟩ := DataW.trod_int Try.underlying25 g0
  obtain ⟨n1, e1, _, w1⟩ := DataW.trod_int Try.underlying24 g1
  obtain ⟨s2, e2, _, _⟩ := DataW.trod_string Try.underlying9 g2
  obtain ⟨s3, e3, _, _⟩ := DataW.trod_string Try.underlying9 g3
  have hb := wf_u64 w0
  refine ⟨⟨n0.toNat, n1, s2, s3⟩, by show n0.toNat < _; omega, ?_⟩
  simp only [List.cons.injEq, and_true] at e0 e1 e2 e3
  subst e0 e1 e2 e3
  show _ = [Value.int .u64 ((n0.toNat : Nat) : Int), _, _, _]
  rw [show ((n0.toNat : Nat) : Int) = n0 by omega]
theorem add_off (b off i : Nat) : Addr.add ⟨b, off, none⟩ i = ⟨b, off + i, none⟩ := by
  unfold Addr.add; split
  · subst_vars; rfl
  · rfl
theorem recs_open {H : Type} {enc : TypeId × Value → H} {W : World} {fuel : Nat} {y : DataW H × List MemPlace} {a0 : Option Addr} {len0 cap0 : Nat} (h : DataW.trod enc Try.prog W 0 (fun _ => true) true fuel 72 [.slice a0 len0 cap0] = some y) :
    ∃ rs : List Rec, IsRc W (.slice a0 len0 cap0) rs ∧ rs.length ≤ maxLen := by
  rcases open_slice Try.underlying72 h with ⟨hcs, _⟩ | ⟨a, len, cap, m, n, D, Pl, hcs, _, hl, hm, hmm, _, hx⟩
  · simp at hcs
    obtain ⟨rfl, rfl, rfl⟩ := hcs
    exact ⟨[], ⟨by simp, .inl ⟨rfl, _, _, rfl⟩⟩, by simp⟩
  · simp at hcs
    obtain ⟨rfl, rfl, rfl⟩ := hcs
    simp only [if_true] at hmm
    subst hmm
    by_cases h0 : len0 = 0
    · subst h0
      exact ⟨[], ⟨by simp, .inl ⟨rfl, _, _, rfl⟩⟩, by simp⟩
    · have hel : ∀ i, i < len0 → ∃ r : Rec, r.lsn < 18446744073709551616 ∧ ∀ j u, (rv r)[j]? = some u → W.cell? (a.add (i * 4) |>.add j) = some u := by
        intro i hi
        obtain ⟨cs', h1, h2⟩ := hx i (by omega)
        rw [cell_rec] at h1
        obtain ⟨_, hlen, hcell⟩ := World.cells?_some h1
        obtain ⟨r, hr, rfl⟩ := rec_open h2 hlen
        refine ⟨r, hr, fun j u hu => ?_⟩
        have hj : j < 4 := by
          have := (Array.getElem?_eq_some_iff.1 hu).1
          simpa [rv] using this
        rw [hcell j hj, Array.getElem?_toList]
        exact hu
      haveI : Inhabited Rec := ⟨zr⟩
      obtain ⟨F, hF⟩ := choose_lt hel
      obtain ⟨b, off, spot⟩ := a
      have hc := (hF 0 (by omega)).2 0 _ rfl
      have hspot : spot = none := by simpa [Addr.add] using World.cell?_spot hc
      subst hspot
      have hbl : b < W.heap.size := by
        have := lt_of_cell hc
        rw [add_off, add_off] at this
        exact this
      have hg : ∀ i, i < len0 → ((List.range len0).map F).getD i zr = F i := fun i hi => by
        rw [List.getD_eq_getElem?_getD, List.getElem?_map, List.getElem?_range hi]; rfl
      refine ⟨(List.range len0).map F, ⟨?_, .inr ⟨b, off, m, by simp, hbl, ?_⟩⟩, by simp; omega⟩
      · intro r hr
        obtain ⟨i, hi, rfl⟩ := List.mem_map.1 hr
        exact (hF i (List.mem_range.1 hi)).1
      · intro i hi j u hu
        simp only [List.length_map, List.length_range] at hi
        rw [hg i hi] at hu
        have := (hF i hi).2 j u hu
        rwa [add_off, add_off] at this
end Vt
end Go.Proofs.Ytbcibgjphjlffaa
namespace Go.Proofs.Ytbcibgjphjlffaa
open Go.ChangeShapes Go.WideShapes Go.ChangeAt Go.RowKit Go.Deep
namespace Sme
open Vt
theorem rows {W : World} {a : Addr} {len cap : Nat} {A : Nat → Option Addr} {L C : Nat → Nat} {Z : Nat → List Int} (hm : len ≤ maxLen)
    (h : ∀ r, r < len → W.cell? (a.add r) = some (.slice (A r) (L r) (C r)) ∧ IsRow .u8 W (A r) (L r) (C r) (Z r)) :
    ∃ ls : List (List Nat), IsP W (.slice (some a) len cap) ls := by
  by_cases h0 : len = 0
  · subst h0
    exact ⟨[], by simp, .inl ⟨rfl, _, _, rfl⟩⟩
  · obtain ⟨F, hF⟩ := choose_lt (fun r (hr : r < len) => (h r hr).2.isB)
    obtain ⟨b, off, spot⟩ := a
    have hc := (h 0 (by omega)).1
    have hspot : spot = none := by simpa [Addr.add] using World.cell?_spot hc
    subst hspot
    have hbl : b < W.heap.size := by
      have := lt_of_cell hc
      rw [add_off] at this
      exact this
    have hg : ∀ i, i < len → ((List.range len).map F).getD i [] = F i := fun i hi => by
      rw [List.getD_eq_getElem?_getD, List.getElem?_map, List.getElem?_range hi]; rfl
    refine ⟨(List.range len).map F, ?_, .inr ⟨b, off, cap, ?_, hbl, ?_⟩⟩
    · simpa using hm
    · simp
    · intro i hi
      simp at hi
      refine ⟨_, by rw [← add_off]; exact (h i hi).1, ?_⟩
      rw [hg i hi]; exact (hF i hi).2
theorem walk (a0 : Option Addr) (len0 cap0 : Nat) (v : Value) (rs : List Rec) (ls : List (List Nat)) (w : World) (hR : IsRc w (.slice a0 len0 cap0) rs) (hm : rs.length ≤ maxLen) (hP : IsP w v ls) :
    Calls Try.prog 10 #[.slice a0 len0 cap0, v] w fun e w' => e = .returned (.bool true) ∧ Below w.heap.size w w' := by
  obtain ⟨h1, ⟨rfl, a, c, e⟩ | ⟨b, off, c, e, hb, hr⟩⟩ := hR
  · injection e with e1 e2 e3
    subst e2
    exact made_all a0 cap0 [] v ls w h1 (.inl rfl) hP hm
  · injection e with e1 e2 e3
    subst e1 e2
    exact made_all _ cap0 rs v ls w h1 (.inr ⟨b, off, rfl, hb, hr⟩) hP hm
set_option linter.unusedVariables false
set_option maxRecDepth 100000 in
theorem lifted (os : Os) (started : os.Started) (H : Type) (enc : TypeId × Value → H) :
    ReturnsInHanded {} Try.checked os 10 .any (Rows.scanMadeSpec.pre6 enc Try.prog Try.f10 Rows.scanMadeRow.domain false) (Rows.scanMadeSpec.post enc Try.prog Try.f10 false true false false) := by
  refine returnsInHanded_of_change (C := Try.checked) own started (by kernel_rfl) Try.func10
    (ChangeSpec.witness6 (enc := enc) (C := Try.checked) false ⟨#[], #[.slice none 0 0, .slice none 0 0], []⟩ 8 (by kernel_rfl) (by kernel_rfl) (by kernel_rfl) (by kernel_rfl)) ?_
  intro W base args ds gs before hval0 hW hcnd _
  have hval : ∀ (j : Nat) t v, Try.f10.params[j]? = some t → args[j]? = some v → Value.okWide Try.prog W .any base t v := hval0
  have hW' := hW
  obtain ⟨p, q, hA0, hV, rfl, hfz, hnd⟩ := hW
  have hA : DataW.TrodAll enc Try.prog W 0 (fun _ => true) true Try.f10.params.toList args.toList ds p := hA0
  rw [Try.params10] at hA hval
  obtain ⟨v0, vs0, d0, ds0, p0, q0, hargs, rfl, rfl, h0, r0⟩ := trodAll_cons hA
  obtain ⟨v1, vs1, d1, ds1, p1, q1, rfl, rfl, rfl, h1, r1⟩ := trodAll_cons r0
  obtain ⟨rfl, rfl, rfl⟩ := trodAll_nil r1
  obtain rfl : args = #[v0, v1] := by cases args; simp_all
  obtain ⟨rfl, rfl⟩ := trodVars_none hV
  obtain ⟨a0, len0, cap0, rfl⟩ := okWide_slice Try.underlying72 (hval 0 72 v0 rfl rfl)
  obtain ⟨a1, len1, cap1, rfl⟩ := okWide_slice Try.underlying49 (hval 1 49 v1 rfl rfl)
  have k0 := h0
  have k1 := h1
  have lt0 : ∀ x ∈ p0, x.block < W.heap.size := by obtain ⟨m, hm⟩ := k0; exact DataW.trod_lt m _ _ _ hm
  have lt1 : ∀ x ∈ p1, x.block < W.heap.size := by obtain ⟨m, hm⟩ := k1; exact DataW.trod_lt m _ _ _ hm
  obtain ⟨rs, hR, hrm⟩ : ∃ rs : List Rec, IsRc W (.slice a0 len0 cap0) rs ∧ rs.length ≤ maxLen := by
    obtain ⟨fuel, hf⟩ := h0
    exact recs_open hf
  obtain ⟨ls, hP⟩ : ∃ ls : List (List Nat), IsP W (.slice a1 len1 cap1) ls := by
    obtain ⟨fuel, hf⟩ := h1
    rcases open_int_rows Try.underlying49 Try.underlying22 Try.underlying5 (by kernel_rfl) (by kernel_rfl) hf with ⟨hcs, _⟩ | ⟨a, len, cap, A, L, C, Z, hcs, _, hl, hm, hx, hrows⟩
    · simp [Value.cells] at hcs
      obtain ⟨rfl, rfl, rfl⟩ := hcs
      exact ⟨[], by simp, .inl ⟨rfl, _, _, rfl⟩⟩
    · simp [Value.cells] at hcs
      obtain ⟨rfl, rfl, rfl⟩ := hcs
      refine rows (A := A) (L := L) (C := C) (Z := Z) (by omega) fun r hr => ?_
      obtain ⟨c1, c2, c3, c4, c5, c6, c7⟩ := hrows r (by omega)
      refine ⟨c1, ?_⟩
      cases hA : A r with
      | none =>
        have hC := c6 hA
        exact .inl ⟨rfl, by omega, hC, List.eq_nil_of_length_eq_zero (by omega)⟩
      | some a' => exact .inr ⟨a', rfl, c2, c3, c4, fun i hi => (c7 a' hA).2 i (by omega), c5⟩
  clear hA0 hval0
  refine (walk a0 len0 cap0 (.slice a1 len1 cap1) rs ls W hR hrm hP).mono fun e W' ⟨he, bel⟩ => ?_
  subst he
  exact ⟨_, rfl, _, _, _, [], _, [], hW', trodAll_mk1 (shut_bool Try.underlying4 _), (trodAll_cons_mk (Below.trod laidOut (by kernel_rfl) (of_decide_eq_true (by kernel_rfl)) k0 bel lt0) (trodAll_cons_mk (Below.trod laidOut (by kernel_rfl) (of_decide_eq_true (by kernel_rfl)) k1 bel lt1) trodAll_mk0)), rfl, bel.frame _, fun h => by cases h⟩
theorem over : Rows.scanMadeRow.holds Try.pinned (OpenSpec.ofChange Rows.scanMadeSpec) :=
  OpenClaim.holds_of_wide 10 Try.f10 rfl rfl rfl rfl rfl rfl rfl ⟨rfl, rfl, rfl, rfl, rfl⟩ rfl rfl rfl rfl rfl (by kernel_rfl) Try.func10 (by kernel_rfl)
    (of_decide_eq_true (by kernel_rfl)) (by unfold Func.isWrapper; first | (rw [if_pos (by decide +kernel)]; kernel_rfl) | (rw [if_neg (by decide +kernel)]; exact ⟨rfl, rfl⟩))
    (fun os started H enc _ => lifted os started H enc)
end Sme

theorem scanMade_holds : Rows.ScanMadeSaid := Sme.over
#print axioms scanMade_holds
end Go.Proofs.Ytbcibgjphjlffaa
