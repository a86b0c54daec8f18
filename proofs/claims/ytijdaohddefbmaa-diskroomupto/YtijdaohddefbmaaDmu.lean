/-
  WHAT DiskMuch ASKS, PLAINLY: one file, written twice, synced between, behind a crash.
-/
import Derived.Test.YtijdaohddefbmaaDkc
namespace Go.Proofs.Ytijdaohddefbmaa
open Go.RowKit Go.Maps
namespace Dk
open Vt
def nmA : ByteArray := ⟨#[97]⟩
/-- a disk with the one file a -/
def st (c u k : Nat) (dat : List Nat) (las : Nat) : Ds := ⟨c, u, k, false, 0, 0, false, [⟨nmA, dat, las⟩]⟩
theorem look_st (c u k : Nat) (dat : List Nat) (las : Nat) : look (st c u k dat las) nmA true = 0 := rfl
theorem get_st (c u k : Nat) (dat : List Nat) (las : Nat) : get (st c u k dat las).fs nmA = some ⟨nmA, dat, las⟩ := rfl
theorem create_st (c : Nat) : create (ds0 c) nmA = (0, st c 0 1 [] 0) := rfl
theorem append_st {c u k : Nat} {dat : List Nat} {las : Nat} {l : List Nat} (h : l.length ≤ c - u) : append (st c u k dat las) nmA l = (0, st c (u + l.length) (k + 1) (dat ++ l) las) := by
  unfold append rAppend
  rw [look_st]
  have : ¬ (st c u k dat las).cap - (st c u k dat las).used < l.length := by show ¬ c - u < l.length; omega
  rw [if_neg (by simp), if_neg this]
  rfl
theorem sync_st (c u k : Nat) (dat : List Nat) (las : Nat) : sync (st c u k dat las) nmA = (0, st c u (k + 1) dat dat.length) := rfl
theorem crash_st {c u k : Nat} {dat : List Nat} {las : Nat} (keep : Int) (h : las ≤ dat.length) : crash keep (st c u k dat las) = st c (las + min keep.toNat (dat.length - las)) k (dat.take (las + min keep.toNat (dat.length - las))) (las + min keep.toNat (dat.length - las)) := by
  have e : (dat.take (las + min keep.toNat (dat.length - las))).length = las + min keep.toNat (dat.length - las) := by rw [List.length_take]; omega
  have e2 : crashed keep ⟨nmA, dat, las⟩ = ⟨nmA, dat.take (las + min keep.toNat (dat.length - las)), las + min keep.toNat (dat.length - las)⟩ := by
    show (⟨nmA, dat.take (las + min keep.toNat (dat.length - las)), (dat.take (las + min keep.toNat (dat.length - las))).length⟩ : Fi) = _
    rw [e]
  unfold crash
  show (⟨c, tot ([(⟨nmA, dat, las⟩ : Fi)].map (crashed keep)), k, false, 0, 0, false, [(⟨nmA, dat, las⟩ : Fi)].map (crashed keep)⟩ : Ds) = _
  rw [List.map_cons, List.map_nil, e2]
  unfold tot
  simp only [List.map_cons, List.map_nil, List.sum_cons, List.sum_nil, e, Nat.add_zero]
  rfl
theorem read_st (c u k : Nat) (dat : List Nat) (las n : Nat) : read (st c u k dat las) nmA 0 (n : Int) = (0, st c u (k + 1) dat las) := by
  unfold read
  have : (decide ((0 : Int) ≤ 0) && decide ((0 : Int) ≤ (n : Int))) = true := by simp
  rw [this, look_st]
  rfl
theorem bytes_st (c u k : Nat) (dat : List Nat) (las n : Nat) : bytes (st c u k dat las) nmA 0 (n : Int) = dat.take n := by
  unfold bytes
  rw [get_st]
  simp
theorem size_st (c u k : Nat) (dat : List Nat) (las : Nat) : sizeOf_ (st c u k dat las) nmA = dat.length := by
  unfold sizeOf_
  rw [look_st, get_st]
  rfl
/-- the law's bytes -/
def mf (n : Nat) : List Nat := (List.range n).map fun i => (i * i + i / 251) % 256
theorem mf_len (n : Nat) : (mf n).length = n := by simp [mf]
theorem mf_at {n j : Nat} (h : j < n) : (mf n).getD j 0 = (j * j + j / 251) % 256 := by
  unfold mf
  rw [List.getD_eq_getElem?_getD, List.getElem?_map, List.getElem?_range h]
  rfl
theorem fill_step {F : List Nat} {j : Nat} (h : j < F.length) : (F.take j ++ List.replicate (F.length - j) 0).set j (F.getD j 0) = F.take (j + 1) ++ List.replicate (F.length - (j + 1)) 0 := by
  have e : F.length - j = (F.length - (j + 1)) + 1 := by omega
  rw [e, List.replicate_succ, List.set_append_right _ _ (by rw [List.length_take]; omega), List.length_take, show j - min j F.length = 0 by omega, List.set_cons_zero, take_succ_getD h, List.append_assoc]; rfl
end Dk
end Go.Proofs.Ytijdaohddefbmaa
