/-
  WHAT Read TELLS of a disk on which the law's lines stand, plainly.
-/
import Derived.Test.YtnakaomgceoobaaGreatSgn
namespace Go.Proofs.YtnakaomgceoobaaGreat
open Go.RowKit
namespace Sg
open Vt Dk
theorem mem_split {s : List Nat} {i : Nat} (h : i ∈ s) : ∃ a b, s = a ++ i :: b := List.append_of_mem h
/-- each line stands in some segment, at its place -/
theorem Sx.seg {ls : List Ln} {X : Ws × Ds} {n : Nat} {segs : List (List Nat)} (h : Sx ls X n segs) {i : Nat} (hi : i < n) : ∃ j s a b, segs[j]? = some s ∧ s = a ++ i :: b ∧ plc (ls.getD i zl) i (sat ls X i) = (j + 1, (dat ls a).length, (fA ls i).length) := by
  have hm : i ∈ segs.flatten := by rw [h.flat]; exact List.mem_range.2 hi
  obtain ⟨s, hs, his⟩ := List.mem_flatten.1 hm
  obtain ⟨a, b, e⟩ := mem_split his
  obtain ⟨j, hj⟩ := List.mem_iff_getElem?.1 hs
  exact ⟨j, s, a, b, hj, e, h.pl j s hj a i b e⟩
theorem Sx.lt {ls : List Ln} {X : Ws × Ds} {n : Nat} {segs : List (List Nat)} (h : Sx ls X n segs) {j i : Nat} {s : List Nat} (hj : segs[j]? = some s) (hi : i ∈ s) : i < n := by
  have : i ∈ segs.flatten := List.mem_flatten.2 ⟨s, List.mem_of_getElem? hj, hi⟩
  rw [h.flat] at this
  exact List.mem_range.1 this
theorem narrow_read {ls : List Ln} {X : Ws × Ds} {n : Nat} {segs : List (List Nat)} (h : Sx ls X n segs) (hn : n ≤ 60) (hac : (sat ls X n).2.acts ≤ 300) {i0 sg : Nat} (hi0 : i0 < n) (hsg : (plc (ls.getD i0 zl) i0 (sat ls X i0)).1 = sg) (A N : Nat) :
    (Dk.read (sat ls X n).2 (nmS sg) (A : Int) (N : Int)).1 = 0 ∧ Nam.Nu sg ∧
    (∀ i, i < n → plc (ls.getD i zl) i (sat ls X i) = (sg, A, N) → rdX (sat ls X n).2 sg (A : Int) (N : Int) = (lnR (ls.getD i zl) i, 0)) ∧
    ((∀ i, i < n → plc (ls.getD i zl) i (sat ls X i) ≠ (sg, A, N)) → rdX (sat ls X n).2 sg (A : Int) (N : Int) = (zr, 91)) := by
  obtain ⟨j, s, a0, b0, hj, es, hp0⟩ := h.seg hi0
  rw [hp0] at hsg
  have hsg' : sg = j + 1 := hsg.symm
  subst hsg'
  obtain ⟨las, hg⟩ := h.file hj
  have hnf : Nf (sat ls X n).2 ∧ j < 4000000 := by
    rcases h.iv with ⟨rfl, _⟩ | ⟨init, last, l9, e, hi⟩
    · omega
    · refine ⟨hi.nf, ?_⟩
      have hjl : j < segs.length := (List.getElem?_eq_some_iff.1 hj).1
      have hc := hi.good.cnt
      have hfs : (sat ls X n).2.fs.length = segs.length := by rw [hi.fs, e]; simp [files_len]
      omega
  have hby : Dk.bytes (sat ls X n).2 (nmS (j + 1)) (A : Int) (N : Int) = ((dat ls s).drop A).take N := by
    unfold Dk.bytes; rw [hg]; simp
  refine ⟨?_, ⟨by omega, by omega⟩, ?_, ?_⟩
  · unfold Dk.read
    have : Dk.look (sat ls X n).2 (nmS (j + 1)) (decide ((0 : Int) ≤ (A : Int)) && decide ((0 : Int) ≤ (N : Int))) = 0 := by
      rw [show (decide ((0 : Int) ≤ (A : Int)) && decide ((0 : Int) ≤ (N : Int))) = true by simp]
      exact look_nf hnf.1 (nmS_isNm _) hg
    rw [this, act_nf hnf.1]
  · intro i hi hp
    obtain ⟨j', s', a, b, hj', e', hp'⟩ := h.seg hi
    rw [hp'] at hp
    injection hp with q1 q2
    injection q2 with q2 q3
    obtain rfl : j' = j := by omega
    rw [hj] at hj'
    injection hj' with hj'
    subst hj'
    unfold rdX
    rw [hby, e', ← q2, ← q3, dec_own ls a i b (by omega)]
    simp only
    have hkd : (lnR (ls.getD i zl) i).kind = 1 ∨ (lnR (ls.getD i zl) i).kind = 2 := by unfold lnR; cases (ls.getD i zl).gone <;> simp
    rw [if_neg]
    · rfl
    · rintro (q | q | ⟨q, q'⟩)
      · exact q rfl
      · exact q rfl
      · exact hkd.elim q q'
  · intro hno
    unfold rdX
    rw [hby]
    by_cases hc : (decF (((dat ls s).drop A).take N) 0).2.2 ≠ 0 ∨ (((decF (((dat ls s).drop A).take N) 0).2.1 : Nat) : Int) ≠ (N : Int) ∨ ((decF (((dat ls s).drop A).take N) 0).1.kind ≠ 1 ∧ (decF (((dat ls s).drop A).take N) 0).1.kind ≠ 2)
    · rw [if_pos hc]
    · exfalso
      have c1 : (decF (((dat ls s).drop A).take N) 0).2.2 = 0 := Classical.byContradiction fun q => hc (.inl q)
      have c2 : (((decF (((dat ls s).drop A).take N) 0).2.1 : Nat) : Int) = (N : Int) := Classical.byContradiction fun q => hc (.inr (.inl q))
      obtain ⟨a, i, b, e, hA, hN⟩ := dec_only ls s (fun i hi => by have := h.lt hj hi; omega) A N c1 (by omega)
      refine hno i (h.lt hj (by rw [e]; simp)) ?_
      rw [h.pl j s hj a i b e, ← hA, ← hN]
/-- a place that may not be is no line's -/
theorem plc_pos (ls : List Ln) (X : Ws × Ds) (i : Nat) : 9 ≤ (plc (ls.getD i zl) i (sat ls X i)).2.2 := by unfold plc; show 9 ≤ (fB _ _).length; unfold fB; rw [en_len]; omega
end Sg
end Go.Proofs.YtnakaomgceoobaaGreat
