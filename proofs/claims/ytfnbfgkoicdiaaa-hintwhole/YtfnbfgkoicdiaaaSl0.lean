/-
  A block of which all cells are set, one behind the other.
-/
import Derived.Test.YtfnbfgkoicdiaaaU2
import Derived.Laws.Rows
namespace Go.Proofs.Ytfnbfgkoicdiaaa
open Go.RowKit
namespace Vt
/-- a block of which all cells are set, one behind the other -/
def setL (w : World) (O : Nat) : Nat → List Value → World
  | _, [] => w
  | j, v :: r => setL (w.setCell ⟨O, j, none⟩ v) O (j + 1) r
theorem setL_blk {O : Nat} {T : TypeId} (ds : List Value) : ∀ (w : World) (j : Nat) (pre cs : List Value), j = pre.length → cs.length = ds.length → Blk w O T (pre ++ cs) → Blk (setL w O j ds) O T (pre ++ ds) := by
  induction ds with
  | nil => intro w j pre cs _ hl h; rw [List.length_eq_zero_iff.1 hl] at h; exact h
  | cons d r ih =>
    intro w j pre cs hj hl h
    cases cs with
    | nil => simp at hl
    | cons c cs =>
      have := ih (w.setCell ⟨O, j, none⟩ d) (j + 1) (pre ++ [d]) cs (by simp [hj]) (by simpa using hl) (by
        have h2 := h.set (j := j) d
        rw [hj, List.set_append_right _ _ (Nat.le_refl _), Nat.sub_self] at h2
        rw [hj, List.append_assoc]; exact h2)
      rw [List.append_assoc] at this
      exact this
end Vt
end Go.Proofs.Ytfnbfgkoicdiaaa
