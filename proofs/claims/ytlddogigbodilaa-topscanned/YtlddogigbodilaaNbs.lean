/-
  THE WALKS OF the law's own 'first' and 'known': the document's first example is written and read.
  THE WALK OF the law's 'same' (are two lists of bytes the same?).
  A frame that is cut short is none.
-/
import Derived.Test.YtlddogigbodilaaNbc
import Derived.Test.YtlddogigbodilaaNbg
import Derived.Test.YtlddogigbodilaaNak
import Derived.Test.YtlddogigbodilaaNbm
namespace Go.Proofs.Ytlddogigbodilaa
open Go.RowKit
namespace Vt
def F0 : Fr := ofR ⟨1, 1, ⟨#[107]⟩, ⟨#[118]⟩⟩
theorem rf_F0 : rf F0 = 0 := by
  unfold rf
  rw [if_pos (.inl rfl)]
  unfold rfR
  rw [if_neg (fun q => q rfl), if_neg (by show ¬ (1 : Nat) = 0; omega), if_neg (fun q => q ⟨by show 1 ≤ 1; omega, by show 1 ≤ 64; omega⟩), if_neg (by show ¬ (if (1 : Int) = 2 then 0 else 2048) < 1; rw [if_neg (by omega)]; omega), if_neg (fun q => q rfl)]
theorem wf_F0 : F0.Wf := ⟨by show 1 < 18446744073709551616; omega, by show 0 < 18446744073709551616; omega, by show 0 < 4294967296; omega⟩
theorem bd_F0 : bd F0 = [1, 1, 1, 107, 118] := by
  have v1 : vrt 1 = [1] := vrt_small (by omega)
  unfold bd bp
  rw [if_pos (show F0.kind = 1 from rfl)]
  show ([[1], vs [1, 1], [107], [118]] : List (List Nat)).flatten = _
  simp [vs, v1]
theorem wr_F0 : wr (bd F0) = [1, 1, 1, 107, 118] := by rw [bd_F0]; decide
theorem en_F0 : ∃ s, en F0 = 167 :: ([0, 0, 5] ++ ([1, 1, 1, 107, 118] ++ s)) ∧ s.length = 5 := ⟨_, by rw [en_eq, wr_F0]; rfl, dg_len _ _⟩
theorem bodyOk_F0 : BodyOk F0 := fun w => body_1 1 ⟨#[107]⟩ ⟨#[118]⟩ w (by omega) rf_F0
theorem decF_zero {f : Fr} (hw : f.Wf) (h : rf f = 0) (r : List Nat) : decF (en f ++ r) 0 = (f, (en f).length, 0) := by
  unfold decF
  rw [if_neg (by have := en_pos f; rw [List.length_append]; omega), show (0 : Int).toNat = 0 from rfl, List.drop_zero]
  exact dcd_en hw h r
end Vt
end Go.Proofs.Ytlddogigbodilaa
namespace Go.Proofs.Ytlddogigbodilaa
open Go.RowKit
namespace Vt
end Vt
end Go.Proofs.Ytlddogigbodilaa
namespace Go.Proofs.Ytlddogigbodilaa
open Go.ChangeShapes Go.WideShapes Go.ChangeAt Go.RowKit
namespace Vt
/-- a frame that is cut short -/
theorem dcd_cut {f : Fr} (hw : f.Wf) (h : rf f = 0) {j : Nat} (h1 : 1 ≤ j) (h2 : j < (en f).length) : decF ((en f).take j) 0 = (zf, 0, 43) := by
  have hEL := en_len f
  obtain ⟨hb1, hb2⟩ := bd_len hw h
  have hl := (wr_len (bd f)).2
  have hlen : ((en f).take j).length = j := by rw [List.length_take]; omega
  have hg : ((en f).take j).getD 0 0 = 167 := by
    rw [List.getD_eq_getElem?_getD, List.getElem?_take, if_pos (by omega), ← List.getD_eq_getElem?_getD]
    exact en_head f
  have hde : (en f).drop 1 = dg 3 (wr (bd f)).length ++ (wr (bd f) ++ dg 5 (Crc.go 0 (dg 3 (wr (bd f)).length ++ wr (bd f)))) := by rw [en_eq]; rfl
  have hdig : dig ((en f).take j) = (dg 3 (wr (bd f)).length).take (j - 1) := by
    unfold dig
    rw [List.drop_take, hde]
    have d3 := dg_len 3 (wr (bd f)).length
    rw [List.take_take, Nat.min_comm, ← List.take_take]
    rw [List.take_left' d3]
  have hlt : ∀ x ∈ dig ((en f).take j), x < 128 := by
    rw [hdig]
    intro x hx
    exact dg_lt _ _ x (List.mem_of_mem_take hx)
  unfold decF
  rw [if_neg (by rw [hlen]; omega), show (0 : Int).toNat = 0 from rfl, List.drop_zero]
  have hrl : rl ((en f).take j) = (0, 43) := by
    refine rl_43 hg hlt ?_
    rw [hlen]
    by_cases h4 : j < 4
    · exact .inl h4
    · refine .inr ?_
      rw [hdig, List.take_of_length_le (by rw [dg_len]; omega), nm_dg, p3]
      rw [hEL] at h2
      omega
  unfold dcd
  rw [hrl]
  rfl
end Vt
end Go.Proofs.Ytlddogigbodilaa
