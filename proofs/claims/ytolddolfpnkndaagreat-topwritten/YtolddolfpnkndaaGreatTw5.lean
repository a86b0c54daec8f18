/-
  PROVED: for all raw records, every limit, every number of records between two syncs and every number of bytes kept the Go law TopWritten answers true and changes nothing that came in: what is written is read, and a crash leaves a beginning of it, with all that was synced. No condition.
-/
import Derived.Test.YtolddolfpnkndaaGreatTw4
import Derived.Test.YtolddolfpnkndaaGreatXtca
import Derived.Deep.Matrix
namespace Go.Proofs.YtolddolfpnkndaaGreat
open Go.ChangeShapes Go.WideShapes Go.ChangeAt Go.RowKit Go.Deep
namespace Tw5
open Vt Sg
theorem list4 {α : Type} {l : List α} (h : l.length = 4) : ∃ a b c d, l = [a, b, c, d] := by
  match l, h with
  | [a, b, c, d], _ => exact ⟨a, b, c, d, rfl⟩
theorem cell_raw : Tryz.prog.cellsOf 75 = 4 := by kernel_rfl
theorem cell_int1 : Tryz.prog.cellsOf 3 = 1 := by kernel_rfl
theorem add_off (b off i : Nat) : Addr.add ⟨b, off, none⟩ i = ⟨b, off + i, none⟩ := by
  unfold Addr.add; split
  · subst_vars; rfl
  · rfl
theorem raw_open {H : Type} {enc : TypeId × Value → H} {W : World} {fuel : Nat} {cs : List Value} {y : DataW H × List MemPlace} (h : DataW.trod enc Tryz.prog W 0 (fun _ => true) true fuel 75 cs = some y) (hl : cs.length = 4) : ∃ x : Rw4, cs = wcl x ∧ x.Ok := by
  obtain ⟨xs, k, hk, hxy, _, hxl, hf⟩ := DataW.trod_struct Tryz.underlying75 h
  obtain ⟨y0, y1, y2, y3, rfl⟩ := list4 (l := xs) hxl
  obtain ⟨v0, v1, v2, v3, rfl⟩ := list4 hl
  have g0 := hf 0 ⟨ "Kind", 3, 0, false, "", "", 0⟩ rfl
  have g1 := hf 1 ⟨ "Key", 3, 1, false, "", "", 8⟩ rfl
  have g2 := hf 2 ⟨ "Value", 3, 2, false, "", "", 16⟩ rfl
  have g3 := hf 3 ⟨ "N", 3, 3, false, "", "", 24⟩ rfl
  simp only [cell_int1, List.drop_zero, List.take_succ_cons, List.take_zero, List.getElem?_cons_zero] at g0
  simp only [cell_int1, List.drop_succ_cons, List.drop_zero, List.take_succ_cons, List.take_zero, List.getElem?_cons_succ, List.getElem?_cons_zero] at g1 g2 g3
  obtain ⟨n0, e0, h00, h01⟩ := DataW.trod_int Tryz.underlying3 g0
  obtain ⟨n1, e1, h10, h11⟩ := DataW.trod_int Tryz.underlying3 g1
  obtain ⟨n2, e2, h20, h21⟩ := DataW.trod_int Tryz.underlying3 g2
  obtain ⟨n3, e3, h30, h31⟩ := DataW.trod_int Tryz.underlying3 g3
  simp only [List.cons.injEq, and_true] at e0 e1 e2 e3
  subst e0 e1 e2 e3
  exact ⟨⟨n0, n1, n2, n3⟩, rfl, h01, h11, h21, h31⟩
theorem raws_open {H : Type} {enc : TypeId × Value → H} {W : World} {fuel : Nat} {y : DataW H × List MemPlace} {a0 : Option Addr} {len0 cap0 : Nat} (h : DataW.trod enc Tryz.prog W 0 (fun _ => true) true fuel 71 [.slice a0 len0 cap0] = some y) :
    ∃ l : List Rw4, l.length = len0 ∧ IsRw W (.slice a0 len0 cap0) l ∧ (len0 = 0 ∨ ∃ e s, y.1 = .slice e s ∧ e.length = len0) := by
  rcases open_slice Tryz.underlying71 h with ⟨hcs, _⟩ | ⟨a, len, cap, m, n, D, Pl, hcs, _, hl, hm, hmm, hyy, hx⟩
  · simp at hcs
    obtain ⟨rfl, rfl, rfl⟩ := hcs
    exact ⟨[], rfl, ⟨(fun x hx => by cases hx), .inl ⟨rfl, _, _, rfl⟩⟩, .inl rfl⟩
  · simp at hcs
    obtain ⟨rfl, rfl, rfl⟩ := hcs
    simp only [if_true] at hmm
    subst hmm
    by_cases h0 : len0 = 0
    · subst h0
      exact ⟨[], rfl, ⟨(fun x hx => by cases hx), .inl ⟨rfl, _, _, rfl⟩⟩, .inl rfl⟩
    · have hel : ∀ i, i < len0 → ∃ t : Rw4, (∀ j u, (wcl t)[j]? = some u → W.cell? (a.add (i * 4) |>.add j) = some u) ∧ t.Ok := by
        intro i hi
        obtain ⟨cs', h1, h2⟩ := hx i (by omega)
        rw [cell_raw] at h1
        obtain ⟨_, hlen, hcell⟩ := World.cells?_some h1
        obtain ⟨o, rfl, hok⟩ := raw_open h2 hlen
        refine ⟨o, fun j u hu => ?_, hok⟩
        have hj : j < 4 := by
          have := (List.getElem?_eq_some_iff.1 hu).1
          simpa [wcl] using this
        rw [hcell j hj]
        exact hu
      haveI : Inhabited Rw4 := ⟨⟨0, 0, 0, 0⟩⟩
      obtain ⟨F, hF⟩ := choose_lt hel
      obtain ⟨b, off, spot⟩ := a
      have hc := (hF 0 (by omega)).1 0 _ rfl
      have hspot : spot = none := by simpa [Addr.add] using World.cell?_spot hc
      subst hspot
      have hbl : b < W.heap.size := by
        have := lt_of_cell hc
        rw [add_off, add_off] at this
        exact this
      refine ⟨(List.range len0).map F, by simp, ⟨fun x hx => ?_, .inr ⟨b, off, m, by simp, by simp; omega, hm, hbl, fun i x hi j u hu => ?_⟩⟩, .inr ⟨_, _, by rw [hyy], by simp⟩⟩
      · obtain ⟨i, hi, rfl⟩ := List.mem_map.1 hx
        exact (hF i (List.mem_range.1 hi)).2
      · have hil : i < len0 := by have := (List.getElem?_eq_some_iff.1 hi).1; simpa using this
        rw [List.getElem?_map, List.getElem?_range hil] at hi
        obtain rfl := Option.some.inj hi
        have := (hF i hil).1 j u hu
        rwa [add_off, add_off] at this
theorem walk (v : Value) (l : List Rw4) (lim evy keep : Int) (w : World) (hI : IsRw w v l) (h1 : (Lit.int .i64 lim).wf = true) (h2 : (Lit.int .i64 evy).wf = true) (h3 : (Lit.int .i64 keep).wf = true) :
    Calls Tryz.prog 5 #[v, .int .i64 lim, .int .i64 evy, .int .i64 keep] w fun e w' => e = .returned (.bool true) ∧ Below w.heap.size w w' := topw_walk v l lim evy keep w hI h1 h2 h3
set_option linter.unusedVariables false
set_option maxRecDepth 100000 in
theorem lifted (os : Os) (started : os.Started) (H : Type) (enc : TypeId × Value → H) :
    ReturnsInHanded {} Tryz.checked os 5 .any (Rows.topWrittenSpec.pre6 enc Tryz.prog Tryz.f5 Rows.topWrittenRow.domain false) (Rows.topWrittenSpec.post enc Tryz.prog Tryz.f5 false true false false) := by
  refine returnsInHanded_of_change (C := Tryz.checked) own started (by kernel_rfl) Tryz.func5
    (ChangeSpec.witness6 (enc := enc) (C := Tryz.checked) false ⟨#[], #[.slice none 0 0, .int .i64 0, .int .i64 0, .int .i64 0], []⟩ 8 (by kernel_rfl) (by kernel_rfl) (by kernel_rfl) (by kernel_rfl)) ?_
  intro W base args ds gs before hval0 hW hcnd _
  have hval : ∀ (j : Nat) t v, Tryz.f5.params[j]? = some t → args[j]? = some v → Value.okWide Tryz.prog W .any base t v := hval0
  have hW' := hW
  obtain ⟨p, q, hA0, hV, rfl, hfz, hnd⟩ := hW
  have hA : DataW.TrodAll enc Tryz.prog W 0 (fun _ => true) true Tryz.f5.params.toList args.toList ds p := hA0
  rw [Tryz.params5] at hA hval
  obtain ⟨v0, vs0, d0, ds0, p0, q0, hargs, rfl, rfl, h0, r0⟩ := trodAll_cons hA
  obtain ⟨v1, vs1, d1, ds1, p1, q1, rfl, rfl, rfl, h1, r1⟩ := trodAll_cons r0
  obtain ⟨v2, vs2, d2, ds2, p2, q2, rfl, rfl, rfl, h2, r2⟩ := trodAll_cons r1
  obtain ⟨v3, vs3, d3, ds3, p3, q3, rfl, rfl, rfl, h3, r3⟩ := trodAll_cons r2
  obtain ⟨rfl, rfl, rfl⟩ := trodAll_nil r3
  obtain rfl : args = #[v0, v1, v2, v3] := by cases args; simp_all
  obtain ⟨rfl, rfl⟩ := trodVars_none hV
  obtain ⟨a0, len0, cap0, rfl⟩ := okWide_slice Tryz.underlying71 (hval 0 71 v0 rfl rfl)
  have k0 := h0
  have lt0 : ∀ x ∈ p0, x.block < W.heap.size := by obtain ⟨m, hm⟩ := k0; exact DataW.trod_lt m _ _ _ hm
  obtain ⟨l0, w0⟩ : ∃ l, IsRw W (.slice a0 len0 cap0) l := by
    obtain ⟨fuel, hf⟩ := h0
    obtain ⟨l, h1, h2, h3⟩ := raws_open hf
    exact ⟨l, h2⟩
  obtain ⟨a1, rfl, rfl, rfl, w1⟩ := open_int Tryz.underlying3 (hval 1 3 v1 rfl rfl) h1
  obtain ⟨a2, rfl, rfl, rfl, w2⟩ := open_int Tryz.underlying3 (hval 2 3 v2 rfl rfl) h2
  obtain ⟨a3, rfl, rfl, rfl, w3⟩ := open_int Tryz.underlying3 (hval 3 3 v3 rfl rfl) h3
  clear hA0 hval0
  refine (walk (.slice a0 len0 cap0) l0 a1 a2 a3 W w0 w1 w2 w3).mono fun e W' ⟨he, bel⟩ => ?_
  subst he
  exact ⟨_, rfl, _, _, _, [], _, [], hW', trodAll_mk1 (shut_bool Tryz.underlying4 _), (trodAll_cons_mk (Below.trod laidOut (by kernel_rfl) (of_decide_eq_true (by kernel_rfl)) k0 bel lt0) (trodAll_cons_mk (shut_int Tryz.underlying3 w1) (trodAll_cons_mk (shut_int Tryz.underlying3 w2) (trodAll_cons_mk (shut_int Tryz.underlying3 w3) trodAll_mk0)))), rfl, bel.frame _, fun h => by cases h⟩

theorem over : Rows.topWrittenRow.holds Tryz.pinned (OpenSpec.ofChange Rows.topWrittenSpec) :=
  OpenClaim.holds_of_wide 5 Tryz.f5 rfl rfl rfl rfl rfl rfl rfl ⟨rfl, rfl, rfl, rfl, rfl⟩ rfl rfl rfl rfl rfl (by kernel_rfl) Tryz.func5 (by kernel_rfl)
    (of_decide_eq_true (by kernel_rfl)) (by unfold Func.isWrapper; first | (rw [if_pos (by decide +kernel)]; kernel_rfl) | (rw [if_neg (by decide +kernel)]; exact ⟨rfl, rfl⟩))
    (fun os started H enc _ => lifted os started H enc)
end Tw5

theorem topWritten_holds : Rows.TopWrittenSaid := Tw5.over
#print axioms topWritten_holds
end Go.Proofs.YtolddolfpnkndaaGreat
