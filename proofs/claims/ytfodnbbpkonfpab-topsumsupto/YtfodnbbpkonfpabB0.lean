/-
  A ROW OF BYTES THAT THE CALL ITSELF HAS MADE (by append onto nil, by make): what it holds, behind a store, as a slice that is read.
-/
import Derived.Test.YtfodnbbpkonfpabL0
import Derived.Deep.AppendLies
namespace Go.Proofs.Ytfodnbbpkonfpab
open Go.RowKit
def bs (l : List Nat) : List Value := l.map fun x => Value.int .u8 ((x : Nat) : Int)
/-- The block g holds the bytes l, and they may be written. -/
def Buf (w : World) (g cap : Nat) (l : List Nat) : Prop := l.length ≤ cap ∧ cap ≤ maxLen ∧ g < w.heap.size ∧ Crc.Byt l ∧ Row w g 0 l ∧ ∀ j, j < l.length → w.frozen? ⟨g, j, none⟩ = false
theorem Buf.isB {w : World} {g cap n : Nat} {l : List Nat} (h : Buf w g cap l) (hn : n = l.length) : IsB w (.slice (some ⟨g, 0, none⟩) n cap) l := by
  subst hn
  obtain ⟨h1, h2, h3, h4, h5, _⟩ := h
  exact ⟨h4, by omega, .inr ⟨g, 0, cap, rfl, h1, h2, h3, h5⟩⟩
theorem Buf.drew {w : World} {g cap : Nat} {l : List Nat} (h : Buf w g cap l) : Buf w.drew g cap l := h
theorem Buf.cell {w : World} {g cap : Nat} {l : List Nat} (h : Buf w g cap l) {j : Nat} (hj : j < l.length) : w.cell? ⟨g, j, none⟩ = some (.int .u8 ((l.getD j 0 : Nat) : Int)) := by
  have := h.2.2.2.2.1 j hj
  rwa [Nat.zero_add] at this
theorem Buf.set {w : World} {g cap : Nat} {l : List Nat} (h : Buf w g cap l) {j y : Nat} (hj : j < l.length) (hy : y < 256) : Buf (w.setCell ⟨g, j, none⟩ (.int .u8 (y : Int))) g cap (l.set j y) := by
  have hcj := h.cell hj
  obtain ⟨h1, h2, h3, h4, h5, h6⟩ := h
  refine ⟨by rw [List.length_set]; exact h1, h2, ?_, ?_, ?_, ?_⟩
  · have : (w.setCell ⟨g, j, none⟩ (.int .u8 (y : Int))).heap.size = w.heap.size := by simp [World.setCell]
    omega
  · intro x hx
    rcases List.mem_or_eq_of_mem_set hx with hx | hx
    · exact h4 x hx
    · omega
  · intro k hk
    rw [List.length_set] at hk
    rw [Nat.zero_add]
    by_cases e : k = j
    · subst e
      rw [World.cell?_setCell_same _ _ _ hcj, List.getD_eq_getElem?_getD, List.getElem?_set_self hj]; rfl
    · rw [World.cell?_setCell_other _ _ _ _ (by intro he; injection he; omega)]
      have := h5 k hk
      rw [Nat.zero_add] at this
      rw [this, List.getD_eq_getElem?_getD, List.getD_eq_getElem?_getD, List.getElem?_set_ne (by omega)]
  · intro k hk
    rw [List.length_set] at hk
    rw [World.frozen?_setCell]; exact h6 k hk
theorem Buf.below {w w' : World} {g cap n : Nat} {l : List Nat} (h : Buf w g cap l) (hg : g < n) (hb : Below n w w') : Buf w' g cap l := by
  obtain ⟨h1, h2, h3, h4, h5, h6⟩ := h
  refine ⟨h1, h2, Nat.lt_of_lt_of_le h3 hb.size, h4, fun k hk => ?_, fun k hk => ?_⟩
  · rw [hb.cell hg]; exact h5 k hk
  · rw [hb.frozen hg]; exact h6 k hk
theorem bs_at (l : List Nat) (j : Nat) (hj : j < l.length) : (bs l)[j]? = some (.int .u8 ((l.getD j 0 : Nat) : Int)) := by
  unfold bs
  rw [List.getElem?_map, List.getElem?_eq_getElem hj, List.getD_eq_getElem?_getD, List.getElem?_eq_getElem hj]; rfl
theorem buf_of_own {w : World} {base g n cap : Nat} {l : List Nat} (hb : Crc.Byt l) (hn : n = l.length) (hg : g < w.heap.size) (h : w.ownsRow base 5 1 (.slice (some ⟨g, 0, none⟩) n cap) n (bs l)) : Buf w g cap l := by
  obtain ⟨h0, ⟨e, _⟩ | ⟨g', cap', cur, e, _, hh, hl, hm, hc, ht⟩⟩ := h
  · simp at e
  · injection e with e1 e2 e3
    injection e1 with e1
    injection e1 with e4 _
    subst e4 e3 hn
    have hat : ∀ j, j < l.length → cur[j]? = some (.int .u8 ((l.getD j 0 : Nat) : Int)) := by
      intro j hj
      have := bs_at l j hj
      rw [← ht, List.getElem?_take_of_lt (by omega)] at this
      simpa using this
    refine ⟨hl, hm, hg, hb, fun k hk => ?_, fun k hk => ?_⟩
    · rw [Nat.zero_add]
      simp only [World.cell?, hh]
      simpa using hat k hk
    · simp [World.frozen?, hh]
theorem news_of_row {w : World} {b off : Nat} {l : List Nat} (h : Row w b off l) : ∀ j u, (bs l)[j]? = some u → w.cell? (Addr.add ⟨b, off, none⟩ j) = some u := by
  intro j u hu
  have hj : j < l.length := by
    have := (List.getElem?_eq_some_iff.1 hu).1
    simpa [bs] using this
  have hA : Addr.add ⟨b, off, none⟩ j = ⟨b, off + j, none⟩ := by
    unfold Addr.add; split
    · subst_vars; rfl
    · rfl
  rw [hA, h j hj]
  rw [bs_at l j hj] at hu
  exact hu
theorem bs_one (l : List Nat) : ∀ u ∈ bs l, u.oneCell' = true := by
  intro u hu
  obtain ⟨x, _, rfl⟩ := List.mem_map.1 hu
  rfl
theorem info_u8 : (Try.prog.info? 5).map (fun i => (i.zero, i.size, i.bytes)) = some (some (.int .u8 0), 1, 1) := by kernel_rfl
theorem own_nil (w : World) (base : Nat) : w.ownsRow base 5 1 (.slice none 0 0) 0 (bs []) := ⟨rfl, .inl ⟨rfl, rfl⟩⟩
end Go.Proofs.Ytfodnbbpkonfpab
