/-
  The law's sameFiles.
-/
import Derived.Test.YtpjfoinkifkdoaaDnp
import Derived.Test.YtpjfoinkifkdoaaDkc
namespace Go.Proofs.Ytpjfoinkifkdoaa
open Go.RowKit Go.Maps Go.Sort
namespace Dk
open Vt
/-- cell by cell -/
theorem FLs.at {w : World} {lo : Nat} {v : Value} {l : List (ByteArray × List Nat)} (h : FLs w lo v l) {k : Nat} {s : ByteArray} {x : List Nat} (hk : l[k]? = some (s, x)) : ∃ g c ua uc, v = .slice (some ⟨g, 0, none⟩) l.length c ∧ l.length ≤ c ∧ c ≤ maxLen ∧ w.cell? ⟨g, k * 2, none⟩ = some (.string s) ∧ w.cell? ⟨g, k * 2 + 1, none⟩ = some (.slice ua x.length uc) ∧ JB w lo (.slice ua x.length uc) x := by
  obtain ⟨cs, rfl, hP, hc⟩ := h
  rw [List.getElem?_map] at hk
  obtain ⟨c, hck, hcx⟩ := Option.map_eq_some_iff.1 hk
  injection hcx with h1 h2
  subst h1 h2
  have hJ := hc c (List.mem_of_getElem? hck)
  obtain ⟨ua, uc, hu, _⟩ := hJ.shape
  obtain ⟨_, h0, ⟨rfl, hn⟩ | ⟨g, cap, cur, rfl, hge, hh, hl, hm, hsz, ht⟩⟩ := hP
  · rw [List.length_map] at hn
    rw [List.eq_nil_of_length_eq_zero hn] at hck
    cases hck
  · rw [List.length_map] at hl ht
    have hp := Ow.pc_at (cs.map fun c => (Value.string c.1, c.2.2)) k (.string c.1, c.2.2) (by rw [List.getElem?_map, hck]; rfl)
    have hcell : ∀ j u, (Ow.pc (cs.map fun c => (Value.string c.1, c.2.2)))[j]? = some u → w.cell? ⟨g, j, none⟩ = some u := by
      intro j u hj
      rw [← ht, List.getElem?_take] at hj
      split at hj
      · simp only [World.cell?, hh]
        simpa using hj
      · cases hj
    refine ⟨g, cap, ua, uc, by simp, by simpa using hl, hm, hcell _ _ hp.1, ?_, by rw [← hu]; exact hJ⟩
    rw [← hu]; exact hcell _ _ hp.2
end Dk
end Go.Proofs.Ytpjfoinkifkdoaa
