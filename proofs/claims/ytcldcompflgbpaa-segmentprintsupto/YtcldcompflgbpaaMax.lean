/-
  THE WALK OF the law's 'same' (are two lists of bytes the same?).
  A frame that is cut short is none.
-/
import Derived.Test.YtcldcompflgbpaaMag
import Derived.Test.YtcldcompflgbpaaMav
import Derived.Test.YtcldcompflgbpaaMaw
namespace Go.Proofs.Ytcldcompflgbpaa
open Go.RowKit
namespace Vt
end Vt
end Go.Proofs.Ytcldcompflgbpaa
namespace Go.Proofs.Ytcldcompflgbpaa
open Go.ChangeShapes Go.WideShapes Go.ChangeAt Go.RowKit
namespace Vt
/-- a frame that is cut short -/
theorem dcd_cut {f : Fr} (hw : f.Wf) (h : rf f = 0) {j : Nat} (h1 : 1 ≤ j) (h2 : j < (en f).length) : decF ((en f).take j) 0 = (zf, 0, 43) := by
  have hEL := en_len f
  obtain ⟨hb1, hb2⟩ := bd_len hw h
  have hl := (wr_len (bd f)).2
  have hlen : ((en f).take j).length = j := by rw [List.length_take]; omega
  have hg : ((en f).take j).getD 0 0 = 167 := by
    rw [List.getD_eq_getElem?_getD, List.getElem?_take, if_pos (by omega), ← List.getD_eq_getElem?_getD]
    exact en_head f
  have hde : (en f).drop 1 = dg 3 (wr (bd f)).length ++ (wr (bd f) ++ dg 5 (Crc.go 0 (dg 3 (wr (bd f)).length ++ wr (bd f)))) := by rw [en_eq]; rfl
  have hdig : dig ((en f).take j) = (dg 3 (wr (bd f)).length).take (j - 1) := by
    unfold dig
    rw [List.drop_take, hde]
    have d3 := dg_len 3 (wr (bd f)).length
    rw [List.take_take, Nat.min_comm, ← List.take_take]
    rw [List.take_left' d3]
  have hlt : ∀ x ∈ dig ((en f).take j), x < 128 := by
    rw [hdig]
    intro x hx
    exact dg_lt _ _ x (List.mem_of_mem_take hx)
  unfold decF
  rw [if_neg (by rw [hlen]; omega), show (0 : Int).toNat = 0 from rfl, List.drop_zero]
  have hrl : rl ((en f).take j) = (0, 43) := by
    refine rl_43 hg hlt ?_
    rw [hlen]
    by_cases h4 : j < 4
    · exact .inl h4
    · refine .inr ?_
      rw [hdig, List.take_of_length_le (by rw [dg_len]; omega), nm_dg, p3]
      rw [hEL] at h2
      omega
  unfold dcd
  rw [hrl]
  rfl
end Vt
end Go.Proofs.Ytcldcompflgbpaa
