/-
  WHAT THE PROOF OF CrcForges SHARES: Forge's answer as a row of the call's own; a store into another row.
-/
import Derived.Test.YtfodnbbpkonfpaaB0
import Derived.Test.YtfodnbbpkonfpaaR2
import Derived.Laws.OwnMore
import Derived.Deep.Onto
namespace Go.Proofs.Ytfodnbbpkonfpaa
open Go.RowKit
theorem forge_buf (s t : Nat) (w : World) (hs : s < 4294967296) (ht : t < 4294967296) :
    Calls Try.prog 11 #[.int .u32 (s : Int), .int .u32 (t : Int)] w fun e w' => e = .returned (.slice (some ⟨w.heap.size, 0, none⟩) 4 4) ∧ Buf w' w.heap.size 4 (Crc.by4 (Crc.fg s t)) ∧ Below w.heap.size w w' := by
  refine (forge_any s t w hs ht).mono ?_
  rintro e w' ⟨rfl, rfl⟩
  refine ⟨rfl, ⟨by simp [Crc.by4], by simp [maxLen], by simp, Crc.by4_byt _, cs_row w _ _, fun j _ => ?_⟩, (Below.refl _ _).alloc (Nat.le_refl _) _⟩
  rw [World.frozen?_alloc_new]
theorem Buf.other {w : World} {g cap : Nat} {l : List Nat} (h : Buf w g cap l) {p : Addr} (hp : p.block ≠ g) (v : Value) : Buf (w.setCell p v) g cap l := by
  obtain ⟨h1, h2, h3, h4, h5, h6⟩ := h
  refine ⟨h1, h2, ?_, h4, fun k hk => ?_, fun k hk => ?_⟩
  · have : (w.setCell p v).heap.size = w.heap.size := by simp [World.setCell]
    omega
  · rw [World.cell?_setCell_other _ _ _ _ (by intro e; exact hp (by rw [e]))]; exact h5 k hk
  · rw [World.frozen?_setCell]; exact h6 k hk
/-- a row of four of which the first k hold the byte c -/
def Four (w : World) (g k c : Nat) : Prop := ∃ l : List Nat, l.length = 4 ∧ Buf w g 4 l ∧ ∀ j, j < k → l.getD j 0 = c
theorem Four.set {w : World} {g k c : Nat} (h : Four w g k c) (hk : k < 4) (hc : c < 256) : Four (w.setCell ⟨g, k, none⟩ (.int .u8 (c : Int))) g (k + 1) c := by
  obtain ⟨l, hl, hb, he⟩ := h
  refine ⟨l.set k c, by rw [List.length_set]; exact hl, hb.set (by omega) hc, fun j hj => ?_⟩
  rw [List.getD_eq_getElem?_getD]
  by_cases e : j = k
  · subst e; rw [List.getElem?_set_self (by omega)]; rfl
  · rw [List.getElem?_set_ne (by omega), ← List.getD_eq_getElem?_getD]; exact he j (by omega)
theorem Four.other {w : World} {g k c : Nat} (h : Four w g k c) {p : Addr} (hp : p.block ≠ g) (v : Value) : Four (w.setCell p v) g k c := by
  obtain ⟨l, hl, hb, he⟩ := h
  exact ⟨l, hl, hb.other hp v, he⟩
theorem Four.below {w w' : World} {g k c n : Nat} (h : Four w g k c) (hg : g < n) (hb : Below n w w') : Four w' g k c := by
  obtain ⟨l, hl, hB, he⟩ := h
  exact ⟨l, hl, hB.below hg hb, he⟩
theorem Four.cell {w : World} {g k c : Nat} (h : Four w g k c) {j : Nat} (hj : j < k) (h4 : j < 4) : w.cell? ⟨g, j, none⟩ = some (.int .u8 (c : Int)) := by
  obtain ⟨l, hl, hB, he⟩ := h
  rw [hB.cell (by omega), he j hj]
theorem Four.old {w : World} {g k c : Nat} (h : Four w g k c) {j : Nat} (h4 : j < 4) : ∃ x : Nat, w.cell? ⟨g, j, none⟩ = some (.int .u8 (x : Int)) ∧ w.frozen? ⟨g, j, none⟩ = false := by
  obtain ⟨l, hl, hB, he⟩ := h
  exact ⟨_, hB.cell (by omega), hB.2.2.2.2.2 j (by omega)⟩
theorem Four.lt {w : World} {g k c : Nat} (h : Four w g k c) : g < w.heap.size := by
  obtain ⟨l, hl, hB, he⟩ := h
  exact hB.2.2.1
theorem Four.drewN {w : World} {g k c : Nat} (h : Four w g k c) (n : Nat) : Four (w.drewN n) g k c := h
theorem bs_rep (n c : Nat) : bs (List.replicate n c) ++ [.int .u8 (c : Int)] = bs (List.replicate (n + 1) c) := by
  unfold bs
  rw [List.replicate_succ', List.map_append]; rfl
theorem four_holds {W : World} {g c : Nat} (h : Four W g 4 c) : ∀ b, some (⟨g, 0, none⟩ : Addr) = some b → ∀ j u, (bs (List.replicate 4 c))[j]? = some u → W.cell? (b.add j) = some u := by
  intro b hb j u hu
  injection hb with hb
  subst hb
  have hj : j < 4 := by
    have := (List.getElem?_eq_some_iff.1 hu).1
    simpa [bs] using this
  have hu2 := bs_at (List.replicate 4 c) j (by simpa using hj)
  rw [hu2] at hu
  have hA : Addr.add ⟨g, 0, none⟩ j = ⟨g, j, none⟩ := by
    unfold Addr.add; split
    · subst_vars; rfl
    · simp
  rw [hA, h.cell hj hj, ← hu]
  rw [List.getD_eq_getElem?_getD, List.getElem?_replicate, if_pos hj]; rfl
theorem one_u8 (c : Int) : ∀ u ∈ [Value.int .u8 c], u.oneCell' = true := by
  intro u hu
  rw [List.mem_singleton] at hu
  subst hu; rfl
/-- a row of the call's own, of n bytes c, at the head of block g -/
def Many (w : World) (base g cap n c : Nat) : Prop := w.ownsRow base 5 1 (.slice (some ⟨g, 0, none⟩) n cap) n (bs (List.replicate n c))
theorem Many.lt {w : World} {base g cap n c : Nat} (h : Many w base g cap n c) : base ≤ g ∧ g < w.heap.size := World.ownsRow.lt h g rfl
theorem Many.cell {w : World} {base g cap n c : Nat} (h : Many w base g cap n c) {j : Nat} (hj : j < n) : w.cell? ⟨g, j, none⟩ = some (.int .u8 (c : Int)) := by
  rw [World.ownsRow.cellAt h j (by omega), bs_at _ j (by simpa using hj), List.getD_eq_getElem?_getD, List.getElem?_replicate, if_pos hj]; rfl
theorem Many.alloc {w : World} {base g cap n c : Nat} (h : Many w base g cap n c) (o : Obj) : Many (w.alloc o) base g cap n c := World.ownsRow.alloc h o
theorem Many.grown {w w' : World} {base g cap n c : Nat} {row : Option Nat} (h : Many w base g cap n c) (hg : w.grownBy w' row) (hne : some g ≠ row) : Many w' base g cap n c := World.ownsRow.kept h hg (.inr hne)
theorem many_of {w : World} {base b g cap m n c : Nat} {v : Value} (h : w.ownsRow b 5 1 v n (bs (List.replicate m c) ++ [.int .u8 (c : Int)])) (hn : n = m + 1) (hv : v = .slice (some ⟨g, 0, none⟩) n cap) (hb : base ≤ b) : Many w base g cap n c := by
  subst hv hn
  rw [bs_rep] at h
  exact World.ownsRow.mono h hb
theorem Many.below {w w' : World} {base g cap n c : Nat} (h : Many w base g cap n c) (hb : Below w.heap.size w w') : Many w' base g cap n c := by
  obtain ⟨h1, h2⟩ := h
  refine ⟨h1, ?_⟩
  rcases h2 with ⟨e, _⟩ | ⟨g', cap', cur, e, hg, hh, r⟩
  · simp at e
  · refine .inr ⟨g', cap', cur, e, hg, ?_, r⟩
    have hlt : g' < w.heap.size := by
      rcases Nat.lt_or_ge g' w.heap.size with h' | h'
      · exact h'
      · rw [Array.getElem?_eq_none h'] at hh; simp at hh
    rw [hb.block g' hlt]; exact hh
end Go.Proofs.Ytfodnbbpkonfpaa
