/-
  WHAT THE PROOF OF CrcPut SHARES: noughts that were made; two rows put together bit by bit, element by element.
-/
import Derived.Test.YtfodnbbpkonfpaaB0
import Derived.Test.YtfodnbbpkonfpaaInv
namespace Go.Proofs.Ytfodnbbpkonfpaa
open Go.RowKit
theorem IsB.blk {w : World} {b off n c : Nat} {l : List Nat} (h : IsB w (.slice (some ⟨b, off, none⟩) n c) l) (hn : 0 < l.length) : b < w.heap.size := lt_of_cell (h.row 0 hn)
namespace Put
theorem made_bs (n : Nat) : (madeCells (Value.int .u8 0).cells (n * 1)).toList = bs (List.replicate n 0) := by
  unfold bs madeCells
  simp [Value.cells, Nat.mod_one]
  exact List.eq_replicate_iff.2 ⟨by simp, fun b hb => by obtain ⟨_, _, rfl⟩ := List.mem_map.1 hb; rfl⟩
theorem own_lt {w : World} {base g n cap : Nat} {e : TypeId} {xs : List Value} (h : w.ownsRow base e 1 (.slice (some ⟨g, 0, none⟩) n cap) n xs) : g < w.heap.size := by
  obtain ⟨_, ⟨h, _⟩ | ⟨g', cap', cur, h, _, hh, _⟩⟩ := h
  · simp at h
  · injection h with e1 e2 e3
    injection e1 with e1
    injection e1 with e4 _
    subst e4
    rcases Nat.lt_or_ge g w.heap.size with h' | h'
    · exact h'
    · rw [Array.getElem?_eq_none h'] at hh; simp at hh
/-- the first k put together, the rest noughts -/
def mix (la lb : List Nat) (n k : Nat) : List Nat := Crc.zx (la.take k) (lb.take k) ++ List.replicate (n - k) 0
theorem mix_zero (la lb : List Nat) (n : Nat) : mix la lb n 0 = List.replicate n 0 := by simp [mix, Crc.zx]
theorem mix_length {la lb : List Nat} {n k : Nat} (ha : n ≤ la.length) (hb : n ≤ lb.length) (hk : k ≤ n) : (mix la lb n k).length = n := by
  simp [mix, Crc.zx]; omega
theorem mix_set {la lb : List Nat} {n k : Nat} (ha : n ≤ la.length) (hb : n ≤ lb.length) (hk : k < n) : (mix la lb n k).set k (la.getD k 0 ^^^ lb.getD k 0) = mix la lb n (k + 1) := by
  have h1 : (Crc.zx (la.take k) (lb.take k)).length = k := by simp [Crc.zx]; omega
  unfold mix
  rw [List.set_append_right _ _ (by omega), h1, Nat.sub_self, show n - k = (n - (k + 1)) + 1 by omega, List.replicate_succ, List.set_cons_zero]
  rw [List.take_succ_eq_append_getElem (by omega : k < la.length), List.take_succ_eq_append_getElem (by omega : k < lb.length)]
  unfold Crc.zx
  rw [List.zipWith_append (by simp; omega), List.append_assoc]
  simp [List.getD_eq_getElem?_getD, List.getElem?_eq_getElem (by omega : k < la.length), List.getElem?_eq_getElem (by omega : k < lb.length)]
theorem mix_end {la lb : List Nat} {n : Nat} : mix la lb n n = Crc.zx (la.take n) (lb.take n) := by simp [mix]
end Put
end Go.Proofs.Ytfodnbbpkonfpaa
