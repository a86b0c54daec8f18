/-
  WHAT Files TELLS BEHIND A CRASH, plainly; the walk of sameBytes.
-/
import Derived.Test.YtpjfoinkifkdoaaTl1
import Derived.Test.YtpjfoinkifkdoaaDnp
import Derived.Test.YtpjfoinkifkdoaaMe
import Derived.Test.YtpjfoinkifkdoaaDk8
namespace Go.Proofs.Ytpjfoinkifkdoaa
open Go.RowKit Go.Maps Go.Sort
namespace Dk
open Vt
theorem get_crash (keep : Int) (S : Ds) (s : ByteArray) : get (crash keep S).fs s = (get S.fs s).map (crashed keep) := by
  show (S.fs.map (crashed keep)).find? _ = _
  rw [List.find?_map]
  rfl
theorem nms_crash (keep : Int) (S : Ds) : ((crash keep S).fs.map fun f => f.nm.data.toList) = S.fs.map fun f => f.nm.data.toList := by
  show (S.fs.map (crashed keep)).map _ = _
  rw [List.map_map]; rfl
theorem told_len (S : Ds) (all : Bool) : (told S all).length = S.fs.length := by unfold told; rw [List.length_map, List.length_mergeSort, List.length_map]
theorem told_at (keep : Int) (S : Ds) (hG : Good S) (k : Nat) (hk : k < S.fs.length) : ∃ f : Fi, f ∈ S.fs ∧ (told S true)[k]? = some (f.nm, f.dat) ∧ (told S false)[k]? = some (f.nm, f.dat.take f.las) ∧ (told (crash keep S) true)[k]? = some (f.nm, f.dat.take (left keep f)) := by
  have hl : ((S.fs.map fun f => f.nm.data.toList).mergeSort leB).length = S.fs.length := by rw [List.length_mergeSort, List.length_map]
  have hk' : k < ((S.fs.map fun f => f.nm.data.toList).mergeSort leB).length := by rw [hl]; exact hk
  have hm := (List.mergeSort_perm _ _).mem_iff.1 (List.getElem_mem hk')
  obtain ⟨f, hf, hx⟩ := List.mem_map.1 hm
  have hg := get_of_mem hG.names hf
  have h3 : ((S.fs.map fun f => f.nm.data.toList).mergeSort leB)[k]? = some f.nm.data.toList := by rw [List.getElem?_eq_getElem hk', ← hx]
  have hnm : (⟨f.nm.data.toList.toArray⟩ : ByteArray) = f.nm := by rcases f with ⟨⟨⟨x⟩⟩, _⟩; rfl
  refine ⟨f, hf, ?_, ?_, ?_⟩
  · unfold told; rw [List.getElem?_map, h3]; simp only [Option.map_some, hnm, hg, if_true, Option.getD_some]
  · unfold told; rw [List.getElem?_map, h3]; simp only [Option.map_some, hnm, hg, Bool.false_eq_true, if_false, Option.getD_some]
  · unfold told; rw [nms_crash, List.getElem?_map, h3]; simp only [Option.map_some, hnm, get_crash, hg, if_true, Option.getD_some, crashed]
theorem told_all {S : Ds} (hG : Good S) : (told S true).Perm (S.fs.map fun f => (f.nm, f.dat)) := by
  unfold told
  refine ((List.mergeSort_perm _ _).map _).trans ?_
  rw [List.map_map]
  refine List.Perm.of_eq (List.map_congr_left fun f hf => ?_)
  have hnm : (⟨f.nm.data.toList.toArray⟩ : ByteArray) = f.nm := by rcases f with ⟨⟨⟨x⟩⟩, _⟩; rfl
  simp only [Function.comp_apply, hnm, get_of_mem hG.names hf, if_true, Option.map_some, Option.getD_some]
def sumL (l : List (ByteArray × List Nat)) : Nat := (l.map fun p => p.2.length).sum
theorem told_sum {S : Ds} (hG : Good S) : sumL (told S true) = S.used := by
  unfold sumL
  rw [((told_all hG).map _).sum_nat, List.map_map, hG.used]
  rfl
theorem sum_take {l : List (ByteArray × List Nat)} {k : Nat} {p : ByteArray × List Nat} (h : l[k]? = some p) : sumL (l.take (k + 1)) = sumL (l.take k) + p.2.length := by
  obtain ⟨hk, he⟩ := List.getElem?_eq_some_iff.1 h
  unfold sumL
  rw [List.take_succ_eq_append_getElem hk, he, List.map_append, List.sum_append]
  simp
theorem sum_le (l : List (ByteArray × List Nat)) (k : Nat) : sumL (l.take k) ≤ sumL l := by
  unfold sumL
  conv => rhs; rw [← List.take_append_drop k l, List.map_append, List.sum_append]
  omega
/-- names in order, each once -/
theorem told_lt {S : Ds} (hG : Good S) {j : Nat} {p q : ByteArray × List Nat} (h1 : (told S true)[j]? = some p) (h2 : (told S true)[j + 1]? = some q) : Op.bytesLess p.1.toList q.1.toList = true := by
  have hs : ((S.fs.map fun f => f.nm.data.toList).mergeSort leB).Pairwise fun a b => leB a b = true ∧ a ≠ b := by
    refine (List.pairwise_mergeSort (le := leB) (fun a b c h1 h2 => by simp only [leB, decide_eq_true_eq] at *; exact List.le_trans h1 h2) (fun a b => by simp only [leB, Bool.or_eq_true, decide_eq_true_eq]; exact List.le_total a b) _).and ?_
    refine (List.mergeSort_perm _ _).symm.pairwise ?_ (fun h e => h e.symm)
    rw [List.pairwise_map]
    refine hG.names.imp fun {a b} q e => q ?_
    rcases a with ⟨⟨⟨x⟩⟩, _⟩; rcases b with ⟨⟨⟨y⟩⟩, _⟩
    simp at e ⊢; exact e
  unfold told at h1 h2
  rw [List.getElem?_map] at h1 h2
  obtain ⟨a, ha, rfl⟩ := Option.map_eq_some_iff.1 h1
  obtain ⟨b, hb, rfl⟩ := Option.map_eq_some_iff.1 h2
  obtain ⟨hal, rfl⟩ := List.getElem?_eq_some_iff.1 ha
  obtain ⟨hbl, rfl⟩ := List.getElem?_eq_some_iff.1 hb
  have := List.pairwise_iff_getElem.1 hs j (j + 1) hal hbl (by omega)
  rw [bytesLess_eq, ByteArray.toList_eq, ByteArray.toList_eq]
  refine decide_eq_true ?_
  have h3 : ((S.fs.map fun f => f.nm.data.toList).mergeSort leB)[j] ≤ ((S.fs.map fun f => f.nm.data.toList).mergeSort leB)[j + 1] := by simpa [leB] using this.1
  show ((S.fs.map fun f => f.nm.data.toList).mergeSort leB)[j] < ((S.fs.map fun f => f.nm.data.toList).mergeSort leB)[j + 1]
  rcases Classical.em (((S.fs.map fun f => f.nm.data.toList).mergeSort leB)[j] < ((S.fs.map fun f => f.nm.data.toList).mergeSort leB)[j + 1]) with q | q
  · exact q
  · exact absurd (List.le_antisymm h3 (List.not_lt.1 q)) this.2
end Dk
namespace Tl
open Vt Dk
set_option maxRecDepth 100000 in
theorem sameBytes_is (va vb : Value) (la : List Nat) (w : World) (hA : IsB w va la) (hB : IsB w vb la) :
    Calls Try.prog 11 #[va, vb] w fun e w' => e = .returned (.bool true) ∧ w' = w := by
  have h1 := conv_is w va la hA
  have h2 := conv_is w vb la hB
  have HE : Hid (((str la).toList == (str la).toList) = true) := by show _ = _; simp
  clear hA hB
  go_enter Try.func11, Try.ntmps11
  go_wp2_with fail
  go_ret
  exact ⟨by first | rfl | (rw [HE.out]; rfl) | simp, rfl⟩
end Tl
end Go.Proofs.Ytpjfoinkifkdoaa
