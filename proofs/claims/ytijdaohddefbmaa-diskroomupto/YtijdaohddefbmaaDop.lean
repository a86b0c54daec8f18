/-
  A SCRIPT AS A PARAMETER: a slice of the law's operations that came in is a script in memory.
-/
import Derived.Test.YtijdaohddefbmaaDki
import Derived.Deep.Matrix
namespace Go.Proofs.Ytijdaohddefbmaa
open Go.ChangeShapes Go.WideShapes Go.ChangeAt Go.RowKit Go.Deep
namespace Dk
open Vt
theorem cell_op : Try.prog.cellsOf 31 = 7 := by kernel_rfl
theorem cell_int : Try.prog.cellsOf 3 = 1 := by kernel_rfl
theorem cell_str : Try.prog.cellsOf 9 = 1 := by kernel_rfl
theorem cell_sl : Try.prog.cellsOf 29 = 1 := by kernel_rfl
theorem cell_bool : Try.prog.cellsOf 4 = 1 := by kernel_rfl
theorem bytes_op : Try.prog.bytesOf 31 = 88 := by kernel_rfl
theorem list_seven {α : Type} {l : List α} (h : l.length = 7) : ∃ a b c d e f g, l = [a, b, c, d, e, f, g] := by
  match l, h with
  | [a, b, c, d, e, f, g], _ => exact ⟨a, b, c, d, e, f, g, rfl⟩
theorem add_off (b off i : Nat) : Addr.add ⟨b, off, none⟩ i = ⟨b, off + i, none⟩ := by
  unfold Addr.add; split
  · subst_vars; rfl
  · rfl
theorem op_open {H : Type} {enc : TypeId × Value → H} {W : World} {fuel : Nat} {cs : List Value} {y : DataW H × List MemPlace} (h : DataW.trod enc Try.prog W 0 (fun _ => true) true fuel 31 cs = some y) (hl : cs.length = 7) :
    ∃ (o : Op7) (ua : Option Addr) (uc : Nat), cs = opc o ua uc ∧ IsB W (.slice ua o.dat.length uc) o.dat := by
  obtain ⟨xs, k, hk, hxy, _, hxl, hf⟩ := DataW.trod_struct Try.underlying31 h
  obtain ⟨y0, y1, y2, y3, y4, y5, y6, rfl⟩ := list_seven (l := xs) hxl
  obtain ⟨v0, v1, v2, v3, v4, v5, v6, rfl⟩ := list_seven hl
  have g0 := hf 0 ⟨ "Kind", 3, 0, false, "", "", 0⟩ rfl
  have g1 := hf 1 ⟨ "Name", 9, 1, false, "", "", 8⟩ rfl
  have g2 := hf 2 ⟨ "To", 9, 2, false, "", "", 24⟩ rfl
  have g3 := hf 3 ⟨ "Data", 29, 3, false, "", "", 40⟩ rfl
  have g4 := hf 4 ⟨ "N", 3, 4, false, "", "", 64⟩ rfl
  have g5 := hf 5 ⟨ "M", 3, 5, false, "", "", 72⟩ rfl
  have g6 := hf 6 ⟨ "Done", 4, 6, false, "", "", 80⟩ rfl
  simp only [cell_int, List.drop_zero, List.take_succ_cons, List.take_zero, List.getElem?_cons_zero] at g0
  simp only [cell_str, List.drop_succ_cons, List.drop_zero, List.take_succ_cons, List.take_zero, List.getElem?_cons_succ, List.getElem?_cons_zero] at g1 g2
  simp only [cell_sl, List.drop_succ_cons, List.drop_zero, List.take_succ_cons, List.take_zero, List.getElem?_cons_succ, List.getElem?_cons_zero] at g3
  simp only [cell_int, List.drop_succ_cons, List.drop_zero, List.take_succ_cons, List.take_zero, List.getElem?_cons_succ, List.getElem?_cons_zero] at g4 g5
  simp only [cell_bool, List.drop_succ_cons, List.drop_zero, List.take_succ_cons, List.take_zero, List.getElem?_cons_succ, List.getElem?_cons_zero] at g6
  obtain ⟨n0, e0, _, _⟩ := DataW.trod_int Try.underlying3 g0
  obtain ⟨s1, e1, _, _⟩ := DataW.trod_string Try.underlying9 g1
  obtain ⟨s2, e2, _, _⟩ := DataW.trod_string Try.underlying9 g2
  obtain ⟨n4, e4, _, _⟩ := DataW.trod_int Try.underlying3 g4
  obtain ⟨n5, e5, _, _⟩ := DataW.trod_int Try.underlying3 g5
  obtain ⟨b6, e6, _⟩ := DataW.trod_bool Try.underlying4 g6
  obtain ⟨ua, un, uc, l, e3, hln, hI⟩ : ∃ ua un uc l, [v3] = [Value.slice ua un uc] ∧ l.length = un ∧ IsB W (.slice ua un uc) l := by
    rcases open_ints Try.underlying29 Try.underlying5 (by kernel_rfl) g3 with ⟨hcs, _⟩ | ⟨a, len, cap, zs, hcs, _, hl', hm, hz, _, hcell, hwz⟩
    · exact ⟨none, 0, 0, [], hcs, rfl, isK_nil _ _ _ _ _⟩
    · obtain ⟨l, h1, h2⟩ := IsRow.isB (w := W) (a := some a) (len := len) (cap := cap) (zs := zs) (.inr ⟨a, rfl, hl', hm, by simpa using hz, hcell, hwz⟩)
      exact ⟨some a, len, cap, l, hcs, h1, h2⟩
  simp only [List.cons.injEq, and_true] at e0 e1 e2 e3 e4 e5 e6
  subst e0 e1 e2 e3 e4 e5 e6 hln
  exact ⟨⟨n0, s1, s2, l, n4, n5, b6⟩, ua, uc, rfl, hI⟩
theorem ops_open {H : Type} {enc : TypeId × Value → H} {W : World} {fuel : Nat} {y : DataW H × List MemPlace} {a0 : Option Addr} {len0 cap0 : Nat} (h : DataW.trod enc Try.prog W 0 (fun _ => true) true fuel 22 [.slice a0 len0 cap0] = some y) :
    ∃ l : List Op7, l.length = len0 ∧ Scr W.heap.size W (.slice a0 len0 cap0) l ∧ (len0 = 0 ∨ ∃ e s, y.1 = .slice e s ∧ e.length = len0) := by
  rcases open_slice Try.underlying22 h with ⟨hcs, _⟩ | ⟨a, len, cap, m, n, D, Pl, hcs, _, hl, hm, hmm, hyy, hx⟩
  · simp at hcs
    obtain ⟨rfl, rfl, rfl⟩ := hcs
    exact ⟨[], rfl, .inl ⟨rfl, _, _, rfl⟩, .inl rfl⟩
  · simp at hcs
    obtain ⟨rfl, rfl, rfl⟩ := hcs
    simp only [if_true] at hmm
    subst hmm
    by_cases h0 : len0 = 0
    · subst h0
      exact ⟨[], rfl, .inl ⟨rfl, _, _, rfl⟩, .inl rfl⟩
    · have hel : ∀ i, i < len0 → ∃ t : Op7 × Option Addr × Nat, (∀ j u, (opc t.1 t.2.1 t.2.2)[j]? = some u → W.cell? (a.add (i * 7) |>.add j) = some u) ∧ IsB W (.slice t.2.1 t.1.dat.length t.2.2) t.1.dat := by
        intro i hi
        obtain ⟨cs', h1, h2⟩ := hx i (by omega)
        rw [cell_op] at h1
        obtain ⟨_, hlen, hcell⟩ := World.cells?_some h1
        obtain ⟨o, ua, uc, rfl, hI⟩ := op_open h2 hlen
        refine ⟨(o, ua, uc), fun j u hu => ?_, hI⟩
        have hj : j < 7 := by
          have := (List.getElem?_eq_some_iff.1 hu).1
          simpa [opc] using this
        rw [hcell j hj]
        exact hu
      haveI : Inhabited (Op7 × Option Addr × Nat) := ⟨(op0, none, 0)⟩
      obtain ⟨F, hF⟩ := choose_lt hel
      obtain ⟨b, off, spot⟩ := a
      have hc := (hF 0 (by omega)).1 0 _ rfl
      have hspot : spot = none := by simpa [Addr.add] using World.cell?_spot hc
      subst hspot
      have hbl : b < W.heap.size := by
        have := lt_of_cell hc
        rw [add_off, add_off] at this
        exact this
      have hg : ∀ i, i < len0 → ((List.range len0).map fun i => (F i).1).getD i op0 = (F i).1 := fun i hi => by
        rw [List.getD_eq_getElem?_getD, List.getElem?_map, List.getElem?_range hi]; rfl
      refine ⟨(List.range len0).map fun i => (F i).1, by simp, .inr ⟨b, off, m, by simp, by simp; omega, hm, hbl, ?_⟩, .inr ⟨_, _, by rw [hyy], by simp⟩⟩
      intro i hi
      simp only [List.length_map, List.length_range] at hi
      rw [hg i hi]
      refine ⟨(F i).2.1, (F i).2.2, ⟨fun j u hu => ?_, (hF i hi).2, fun h0' b' of n' c' q => ?_⟩⟩
      · have := (hF i hi).1 j u hu
        rwa [add_off, add_off] at this
      · obtain ⟨_, _, ⟨q1, _⟩ | ⟨b2, o2, c2, q2, _, _, q3, _⟩⟩ := (hF i hi).2
        · exact absurd q1 h0'
        · rw [q2] at q
          injection q with q
          injection q with q
          injection q with q
          rw [← q]; exact q3
end Dk
end Go.Proofs.Ytijdaohddefbmaa
