/-
  THE WALKS OF the laws' awake, pick, sort; of the document's own digits, head, tail, Make.
-/
import Derived.Test.YtnakaomgceoobaaGreatNm3
namespace Go.Proofs.YtnakaomgceoobaaGreat
open Go.RowKit
namespace Nam
open Vt
theorem ex_seg : (⟨#[115, 101, 103, 45, 48, 48, 48, 48, 48, 48, 50, 97, 46, 108, 111, 103]⟩ : ByteArray) = str (mk 1 42) := rfl
theorem ex_bad : str (mk 3 4294967295) = (⟨#[98, 97, 100, 45, 102, 102, 102, 102, 102, 102, 102, 102, 46, 98, 105, 110]⟩ : ByteArray) := rfl
theorem mk_size {c n : Nat} : (str (mk c n)).size ≤ 17 := by
  rw [str_size (mk_byt c n), mk_len]
  have := atl_len c
  omega
theorem hex_head (j n : Nat) : hex (j + 1) n = hx (n / 16 ^ j % 16) :: hex j n := rfl
theorem cut_digit (d : Nat) (h : d < 16) : (⟨#[48, 49, 50, 51, 52, 53, 54, 55, 56, 57, 97, 98, 99, 100, 101, 102]⟩ : ByteArray).extract d (d + 1) = str [hx d] := by
  have : ∀ d : Fin 16, ((⟨#[48, 49, 50, 51, 52, 53, 54, 55, 56, 57, 97, 98, 99, 100, 101, 102]⟩ : ByteArray).extract d.val (d.val + 1)) = str [hx d.val] := by decide
  exact this ⟨d, h⟩
/-- the class that a raw number speaks of -/
def so (c : Int) : Nat := 1 + (if c < 0 then (-(c + 1)).toNat else c.toNat) % 3
theorem so_cl (c : Int) : Cl (so c) := by unfold so Cl; omega
end Nam
end Go.Proofs.YtnakaomgceoobaaGreat
