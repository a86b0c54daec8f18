/-
  Go's remainder, by its sign: it is a number below the divisor, or the negative of one.
-/
import Derived.Test.YtfodnbbpkonfpabL0
import Derived.SizedLaws
namespace Go.Proofs.Ytfodnbbpkonfpab
theorem abs_tmod (x : Int) (n : Nat) (hn : 0 < n) : ∃ t : Nat, t < n ∧ (x.tmod (n : Int) = (t : Int) ∨ (x.tmod (n : Int) = -(t : Int) ∧ 0 < t)) := by
  have h := Int.tmod_lt_of_pos x (show (0 : Int) < (n : Int) by omega)
  have h2 := Int.lt_tmod_of_pos x (show (0 : Int) < (n : Int) by omega)
  by_cases h0 : 0 ≤ x.tmod (n : Int)
  · exact ⟨(x.tmod (n : Int)).toNat, by omega, .inl (by omega)⟩
  · exact ⟨(-(x.tmod (n : Int))).toNat, by omega, .inr ⟨by omega, by omega⟩⟩
theorem bytes_u8 : Try.prog.bytesOf 5 = 1 := by kernel_rfl
end Go.Proofs.Ytfodnbbpkonfpab
