/-
  A slice of strings as a parameter: what a walk is told of it. No condition.
-/
import Derived.Test.YtglnhppgoomehabNm7
import Derived.SliceStrings
namespace Go.Proofs.Ytglnhppgoomehab
open Go.ChangeShapes Go.WideShapes Go.ChangeAt Go.RowKit
namespace Nam
open Vt
theorem add_off (b off i : Nat) : Addr.add ⟨b, off, none⟩ i = ⟨b, off + i, none⟩ := by
  unfold Addr.add; split
  · subst_vars; rfl
  · rfl
theorem strs_open {H : Type} {enc : TypeId × Value → H} {W : World} {fuel : Nat} {y : DataW H × List MemPlace} {a0 : Option Addr} {len0 cap0 : Nat} (h : DataW.trod enc Try.prog W 0 (fun _ => true) true fuel 22 [.slice a0 len0 cap0] = some y) :
    ∃ ss : List ByteArray, IsS W (.slice a0 len0 cap0) ss ∧ ss.length = len0 ∧ len0 ≤ cap0 ∧ (cap0 = 0 ∨ ∃ e s : List (DataW H), y.1 = .slice e s ∧ e.length + s.length = cap0) := by
  rcases open_strings Try.underlying22 Try.underlying9 (by kernel_rfl) h with ⟨hcs, _⟩ | ⟨a, len, cap, ss, hcs, _, hl, hm, hz, hx, hcell, hsz⟩
  · simp at hcs
    obtain ⟨rfl, rfl, rfl⟩ := hcs
    exact ⟨[], isS_nil _ _ _, rfl, Nat.le_refl _, .inl rfl⟩
  · simp at hcs
    obtain ⟨rfl, rfl, rfl⟩ := hcs
    simp only [if_true] at hz
    have hlen : (ss.take len0).length = len0 := by rw [List.length_take]; omega
    refine ⟨ss.take len0, ?_, hlen, hl, .inr ⟨strs (ss.take len0), strs (ss.drop len0), by rw [hx], by simp [strs]; omega⟩⟩
    refine ⟨fun s hs => hsz s (List.mem_of_mem_take hs), by omega, ?_⟩
    by_cases h0 : len0 = 0
    · subst h0
      exact .inl ⟨by simp, _, _, rfl⟩
    · obtain ⟨b, off, spot⟩ := a
      have hc := hcell 0 (by omega)
      have hspot : spot = none := by simpa [Addr.add] using World.cell?_spot hc
      subst hspot
      have hbl : b < W.heap.size := by
        have := lt_of_cell hc
        rw [add_off] at this
        exact this
      refine .inr ⟨b, off, cap0, by rw [hlen], by omega, hm, hbl, fun i hi => ?_⟩
      rw [hlen] at hi
      have := hcell i (by omega)
      rw [add_off] at this
      rw [this, List.getD_eq_getElem?_getD, List.getD_eq_getElem?_getD, List.getElem?_take_of_lt hi]
end Nam
end Go.Proofs.Ytglnhppgoomehab
