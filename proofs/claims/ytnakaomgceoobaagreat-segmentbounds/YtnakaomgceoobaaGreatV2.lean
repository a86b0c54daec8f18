/-
  bits.Len64 at this program: the library's contract, laid at this program's numbers; and the small arithmetic of 64 bits that the walks of package vint want.
-/
import Derived.Test.YtnakaomgceoobaaGreatV1
import Derived.Shelf.Strconv.Itoa0
namespace Go.Proofs.YtnakaomgceoobaaGreat
namespace Vt
def lenRen : Go.Shelf.Ren := ⟨fun | 129 => 36 | n => n, fun | 53 => 36 | 3 => 3 | 4 => 4 | 46 => 95 | 5 => 5 | 9 => 9 | n => n, fun | n => n⟩
theorem lenLays : Go.Proofs.Lays.n129 Tryz.prog lenRen := {
  mixed := by kernel_rfl
  f129 := Tryz.func36.trans (congrArg some (by kernel_rfl))
  t3 := Tryz.underlying3
  a3 := Tryz.isAgg3
  z3 := Tryz.sizeOf3
  v3 := Tryz.zeroValue3
  t4 := Tryz.underlying4
  a4 := Tryz.isAgg4
  z4 := Tryz.sizeOf4
  v4 := Tryz.zeroValue4
  t5 := Tryz.underlying5
  a5 := Tryz.isAgg5
  z5 := Tryz.sizeOf5
  v5 := Tryz.zeroValue5
  t9 := Tryz.underlying9
  a9 := Tryz.isAgg9
  z9 := Tryz.sizeOf9
  v9 := Tryz.zeroValue9
  t46 := Tryz.underlying95
  a46 := Tryz.isAgg95
  z46 := Tryz.sizeOf95
  v46 := Tryz.zeroValue95
  t53 := Tryz.underlying36
  a53 := Tryz.isAgg36
  z53 := Tryz.sizeOf36
  v53 := Tryz.zeroValue36 }
theorem len64_is (x : Nat) (w : World) (h : x < 18446744073709551616) :
    Calls Tryz.prog 36 #[.int .u64 (x : Int)] w fun e w' => e = .returned (.int .i64 ((Lib.bitLen x : Nat) : Int)) ∧ w' = w := Any.bits_Len64 lenLays (x : Int) w (by omega) (by omega)
end Vt
end Go.Proofs.YtnakaomgceoobaaGreat
