/-
  A frame behind a region whose operations write neighbouring slots, told at once. No condition beyond those that the theorem bears.
  THE WALKS OF the law's own 'first' and 'known': the document's first example is written and read.
  THE WALK OF the law's 'same' (are two lists of bytes the same?).
  A frame that is cut short is none.
-/
import Derived.Test.YtolddolfpnkndaaGreatXtar
import Derived.Test.YtolddolfpnkndaaGreatXtbm
import Derived.Test.YtolddolfpnkndaaGreatXtae
import Derived.Test.YtolddolfpnkndaaGreatXtat
import Derived.Test.YtolddolfpnkndaaGreatXtbo
namespace Go.Proofs.YtolddolfpnkndaaGreat
open Go Go.RowKit
/-- all that the region writes lies from lo on, below hi -/
def dstsIn (ops : Array Oper) (lo hi : Nat) : Bool := (List.range ops.size).all fun j => match dstOf ops j with
  | none => true
  | some d => decide (lo ≤ d) && decide (d < hi)
theorem dstsIn_spec {ops : Array Oper} {lo hi k : Nat} (h : dstsIn ops lo hi = true) (hk : k < lo ∨ hi ≤ k) : ∀ j, j < ops.size → dstOf ops j ≠ some k := by
  intro j hj e
  have := List.all_eq_true.1 h j (by simpa using hj)
  rw [e] at this
  simp only [Bool.and_eq_true, decide_eq_true_eq] at this
  omega
theorem tmps_of {ops : Array Oper} {t t0 : Array Value} {lo : Nat} {vs : List Value} (hs : t.size = t0.size) (hd : dstsIn ops lo (lo + vs.length) = true) (hlo : lo + vs.length ≤ t0.size)
    (hout : ∀ k, (∀ j, j < ops.size → dstOf ops j ≠ some k) → t.getD k undef = t0.getD k undef) (hin : ∀ i, i < vs.length → t.getD (lo + i) undef = vs.getD i undef) :
    t = (t0.toList.take lo ++ (vs ++ t0.toList.drop (lo + vs.length))).toArray := by
  have hl0 : t0.toList.length = t0.size := Array.length_toList
  refine arr_one (by simp only [List.size_toArray, List.length_append, List.length_take, List.length_drop, hl0]; omega) fun k hk => ?_
  have e : ∀ X : List Value, X.toArray.getD k undef = X[k]?.getD undef := fun X => by rw [Array.getD_eq_getD_getElem?]; simp
  refine Eq.trans ?_ (e _).symm
  rw [Array.getD_eq_getD_getElem?]
  clear e
  by_cases h1 : k < lo
  · have := hout k (dstsIn_spec hd (.inl h1))
    rw [Array.getD_eq_getD_getElem?, Array.getD_eq_getD_getElem?] at this
    rw [this, List.getElem?_append_left (by rw [List.length_take, hl0]; omega), List.getElem?_take_of_lt h1, Array.getElem?_toList]
  · rw [List.getElem?_append_right (by rw [List.length_take, hl0]; omega), List.length_take, hl0, Nat.min_eq_left (by omega)]
    by_cases h2 : k < lo + vs.length
    · have := hin (k - lo) (by omega)
      rw [Array.getD_eq_getD_getElem?, List.getD_eq_getElem?_getD, show lo + (k - lo) = k by omega] at this
      rw [this, List.getElem?_append_left (by omega)]
    · have := hout k (dstsIn_spec hd (.inr (by omega)))
      rw [Array.getD_eq_getD_getElem?, Array.getD_eq_getD_getElem?] at this
      rw [this, List.getElem?_append_right (by omega), List.getElem?_drop, Array.getElem?_toList]
      congr 2
      omega
end Go.Proofs.YtolddolfpnkndaaGreat
namespace Go.Proofs.YtolddolfpnkndaaGreat
open Go.RowKit
namespace Vt
def F0 : Fr := ofR ⟨1, 1, ⟨#[107]⟩, ⟨#[118]⟩⟩
end Vt
end Go.Proofs.YtolddolfpnkndaaGreat
namespace Go.Proofs.YtolddolfpnkndaaGreat
open Go.RowKit
namespace Vt
end Vt
end Go.Proofs.YtolddolfpnkndaaGreat
namespace Go.Proofs.YtolddolfpnkndaaGreat
open Go.ChangeShapes Go.WideShapes Go.ChangeAt Go.RowKit
namespace Vt
end Vt
end Go.Proofs.YtolddolfpnkndaaGreat
