/-
  A frame behind a region whose operations write neighbouring slots, told at once. No condition beyond those that the theorem bears.
  A SLICE OF LINES AS A PARAMETER.
-/
import Derived.Test.YtolddolfpnkndaaGreatXsap
import Derived.Test.YtolddolfpnkndaaGreatXsbl
import Derived.Deep.Matrix
namespace Go.Proofs.YtolddolfpnkndaaGreat
open Go Go.RowKit
/-- all that the region writes lies from lo on, below hi -/
def dstsIn (ops : Array Oper) (lo hi : Nat) : Bool := (List.range ops.size).all fun j => match dstOf ops j with
  | none => true
  | some d => decide (lo ≤ d) && decide (d < hi)
theorem dstsIn_spec {ops : Array Oper} {lo hi k : Nat} (h : dstsIn ops lo hi = true) (hk : k < lo ∨ hi ≤ k) : ∀ j, j < ops.size → dstOf ops j ≠ some k := by
  intro j hj e
  have := List.all_eq_true.1 h j (by simpa using hj)
  rw [e] at this
  simp only [Bool.and_eq_true, decide_eq_true_eq] at this
  omega
theorem tmps_of {ops : Array Oper} {t t0 : Array Value} {lo : Nat} {vs : List Value} (hs : t.size = t0.size) (hd : dstsIn ops lo (lo + vs.length) = true) (hlo : lo + vs.length ≤ t0.size)
    (hout : ∀ k, (∀ j, j < ops.size → dstOf ops j ≠ some k) → t.getD k undef = t0.getD k undef) (hin : ∀ i, i < vs.length → t.getD (lo + i) undef = vs.getD i undef) :
    t = (t0.toList.take lo ++ (vs ++ t0.toList.drop (lo + vs.length))).toArray := by
  have hl0 : t0.toList.length = t0.size := Array.length_toList
  refine arr_one (by simp only [List.size_toArray, List.length_append, List.length_take, List.length_drop, hl0]; omega) fun k hk => ?_
  have e : ∀ X : List Value, X.toArray.getD k undef = X[k]?.getD undef := fun X => by rw [Array.getD_eq_getD_getElem?]; simp
  refine Eq.trans ?_ (e _).symm
  rw [Array.getD_eq_getD_getElem?]
  clear e
  by_cases h1 : k < lo
  · have := hout k (dstsIn_spec hd (.inl h1))
    rw [Array.getD_eq_getD_getElem?, Array.getD_eq_getD_getElem?] at this
    rw [this, List.getElem?_append_left (by rw [List.length_take, hl0]; omega), List.getElem?_take_of_lt h1, Array.getElem?_toList]
  · rw [List.getElem?_append_right (by rw [List.length_take, hl0]; omega), List.length_take, hl0, Nat.min_eq_left (by omega)]
    by_cases h2 : k < lo + vs.length
    · have := hin (k - lo) (by omega)
      rw [Array.getD_eq_getD_getElem?, List.getD_eq_getElem?_getD, show lo + (k - lo) = k by omega] at this
      rw [this, List.getElem?_append_left (by omega)]
    · have := hout k (dstsIn_spec hd (.inr (by omega)))
      rw [Array.getD_eq_getD_getElem?, Array.getD_eq_getD_getElem?] at this
      rw [this, List.getElem?_append_right (by omega), List.getElem?_drop, Array.getElem?_toList]
      congr 2
      omega
end Go.Proofs.YtolddolfpnkndaaGreat
namespace Go.Proofs.YtolddolfpnkndaaGreat
open Go.ChangeShapes Go.WideShapes Go.ChangeAt Go.RowKit Go.Deep
namespace Sg
open Vt Dk
theorem cell_ln : Tryz.prog.cellsOf TLn = 4 := by kernel_rfl
theorem cell_st : Tryz.prog.cellsOf 9 = 1 := by kernel_rfl
theorem cell_bo : Tryz.prog.cellsOf 4 = 1 := by kernel_rfl
theorem bytes_ln : Tryz.prog.bytesOf TLn = 40 := by kernel_rfl
theorem four {α : Type} {l : List α} (h : l.length = 4) : ∃ a b c d, l = [a, b, c, d] := by
  match l, h with
  | [a, b, c, d], _ => exact ⟨a, b, c, d, rfl⟩
theorem line_open {H : Type} {enc : TypeId × Value → H} {W : World} {base : Nat} {sp : Nat → Bool} {held : Bool} {fuel : Nat} {cs : List Value} {y : DataW H × List MemPlace} (h : DataW.trod enc Tryz.prog W base sp held fuel TLn cs = some y) (hl : cs.length = 4) :
    ∃ l : Ln, cs = lnv l ∧ l.val.size ≤ maxLen ∧ l.key.size ∈ y.1.weights Tryz.prog TLn := by
  obtain ⟨xs, k, hk, hxy, _, hxl, hf⟩ := DataW.trod_struct Tryz.underlying40 h
  obtain ⟨y0, y1, y2, y3, rfl⟩ := four (l := xs) hxl
  obtain ⟨v0, v1, v2, v3, rfl⟩ := four hl
  have g0 := hf 0 ⟨ "Key", 9, 0, false, "", "", 0⟩ rfl
  have g1 := hf 1 ⟨ "Value", 9, 1, false, "", "", 16⟩ rfl
  have g2 := hf 2 ⟨ "Gone", 4, 2, false, "", "", 32⟩ rfl
  have g3 := hf 3 ⟨ "Sync", 4, 3, false, "", "", 33⟩ rfl
  simp only [cell_st, List.drop_zero, List.take_succ_cons, List.take_zero, List.getElem?_cons_zero] at g0
  simp only [cell_st, List.drop_succ_cons, List.drop_zero, List.take_succ_cons, List.take_zero, List.getElem?_cons_succ, List.getElem?_cons_zero] at g1
  simp only [cell_bo, List.drop_succ_cons, List.drop_zero, List.take_succ_cons, List.take_zero, List.getElem?_cons_succ, List.getElem?_cons_zero] at g2 g3
  obtain ⟨s0, e0, x0, _⟩ := DataW.trod_string Tryz.underlying9 g0
  obtain ⟨s1, e1, _, z1⟩ := DataW.trod_string Tryz.underlying9 g1
  obtain ⟨b2, e2, _⟩ := DataW.trod_bool Tryz.underlying4 g2
  obtain ⟨b3, e3, _⟩ := DataW.trod_bool Tryz.underlying4 g3
  refine ⟨⟨s0, s1, b2, b3⟩, ?_, z1, ?_⟩
  · simp only [List.cons.injEq, and_true] at e0 e1 e2 e3
    subst e0 e1 e2 e3
    rfl
  · rw [hxy]
    show _ ∈ DataW.weights Tryz.prog TLn (.agg _)
    unfold DataW.weights
    rw [Tryz.underlying40]
    refine DataW.weights_mem_each (j := 0) (t := 9) (d := y0.1) rfl rfl _ ?_
    rw [x0]
    show s0.size ∈ [s0.data.toList.length]
    simp
theorem add_of (b off i : Nat) : Addr.add ⟨b, off, none⟩ i = ⟨b, off + i, none⟩ := by
  unfold Addr.add; split
  · subst_vars; rfl
  · rfl
theorem weights_all {H : Type} {P : Program} {e : TypeId} {ds : List (DataW H)} {d : DataW H} (h : d ∈ ds) {n : Nat} (hn : n ∈ d.weights P e) : n ∈ DataW.weightsAll P e ds := by
  induction ds with
  | nil => cases h
  | cons a r ih =>
    simp only [DataW.weightsAll, List.mem_append]
    rcases List.mem_cons.1 h with rfl | h
    · exact .inl hn
    · exact .inr (ih h)
theorem lines_open {H : Type} {enc : TypeId × Value → H} {W : World} {fuel : Nat} {y : DataW H × List MemPlace} {a0 : Option Addr} {len0 cap0 : Nat} (h : DataW.trod enc Tryz.prog W 0 (fun _ => true) true fuel 22 [.slice a0 len0 cap0] = some y)
    (hw : ∀ n ∈ y.1.weights Tryz.prog 22, n ≤ reachBytes) : ∃ ls : List Ln, IsL W.heap.size W (.slice a0 len0 cap0) ls := by
  rcases open_slice Tryz.underlying22 h with ⟨hcs, _⟩ | ⟨a, len, cap, m, n, D, Pl, hcs, _, hl, hm, hmm, hy, hx⟩
  · simp at hcs
    obtain ⟨rfl, rfl, rfl⟩ := hcs
    exact ⟨[], ⟨by simp, by simp, .inl ⟨rfl, _, _, rfl⟩⟩⟩
  · simp at hcs
    obtain ⟨rfl, rfl, rfl⟩ := hcs
    simp only [if_true] at hmm
    subst hmm
    rw [hy] at hw
    simp only [DataW.weights, Tryz.underlying22, List.length_map, List.length_range, bytes_ln] at hw
    have hlen : len0 ≤ 140737488355328 := by
      have := hw _ List.mem_cons_self
      unfold reachBytes at this
      omega
    by_cases h0 : len0 = 0
    · subst h0
      exact ⟨[], ⟨by simp, by simp, .inl ⟨rfl, _, _, rfl⟩⟩⟩
    · have hel : ∀ i, i < len0 → ∃ l : Ln, (l.key.size ≤ 140737488355328 ∧ l.val.size ≤ maxLen) ∧ ∀ j u, (lnv l)[j]? = some u → W.cell? (a.add (i * 4) |>.add j) = some u := by
        intro i hi
        obtain ⟨cs', h1, h2⟩ := hx i (by omega)
        rw [show Tryz.prog.cellsOf TLn = 4 from cell_ln] at h1
        obtain ⟨_, hlen', hcell⟩ := World.cells?_some h1
        obtain ⟨l, rfl, hv, hk⟩ := line_open h2 hlen'
        have hkb : l.key.size ≤ reachBytes := hw _ (List.mem_cons_of_mem _ (List.mem_append_left _ (weights_all (d := D i) (List.mem_map_of_mem (List.mem_range.2 hi)) hk)))
        refine ⟨l, ⟨by unfold reachBytes at hkb; omega, hv⟩, fun j u hu => ?_⟩
        have hj : j < 4 := (List.getElem?_eq_some_iff.1 hu).1
        rw [hcell j hj]
        exact hu
      haveI : Inhabited Ln := ⟨zl⟩
      obtain ⟨F, hF⟩ := choose_lt hel
      obtain ⟨b, off, spot⟩ := a
      have hc := (hF 0 (by omega)).2 0 _ rfl
      have hspot : spot = none := by simpa [Addr.add] using World.cell?_spot hc
      subst hspot
      have hbl : b < W.heap.size := by
        have := lt_of_cell hc
        rw [add_of, add_of] at this
        exact this
      refine ⟨(List.range len0).map F, ⟨?_, by simpa using hlen, .inr ⟨b, off, m, by simp, hbl, ?_⟩⟩⟩
      · intro r hr
        obtain ⟨i, hi, rfl⟩ := List.mem_map.1 hr
        exact (hF i (List.mem_range.1 hi)).1
      · intro i l hl j u hu
        rw [List.getElem?_map] at hl
        have hi : i < len0 := by
          rcases Nat.lt_or_ge i len0 with q | q
          · exact q
          · rw [List.getElem?_eq_none (by simpa using q)] at hl; cases hl
        rw [List.getElem?_range hi] at hl
        have : F i = l := by injection hl
        subst this
        have := (hF i hi).2 j u hu
        rwa [add_of, add_of] at this
end Sg
end Go.Proofs.YtolddolfpnkndaaGreat
