/-
  TWO DISKS: what their files are, held against one another.
-/
import Derived.Test.YtijdaohddefbmaaDfw
import Derived.Test.YtijdaohddefbmaaDns
namespace Go.Proofs.Ytijdaohddefbmaa
open Go.RowKit Go.Maps
namespace Dk
open Vt
theorem Two.tellL {B : Nat} {w : World} {d e : Nat} {S T : Ds} {W : World} {f : FuncId} {all : Bool} (h : Two B w d e S T W) (hx : ∀ O, DK W d O S → Calls Try.prog f #[.pointer (some ⟨d, 0, none⟩)] W fun x w2 => ∃ v, x = .returned v ∧ FLs w2 W.heap.size v (told S all) ∧ Below W.heap.size W w2) :
    Calls Try.prog f #[.pointer (some ⟨d, 0, none⟩)] W fun x w2 => ∃ v lo, x = .returned v ∧ FLs w2 lo v (told S all) ∧ Two B w d e S T w2 := by
  obtain ⟨O, P, h1, h2⟩ := h
  refine (hx O h1).mono ?_
  rintro x w2 ⟨v, hv, hF, hb⟩
  exact ⟨v, _, hv, hF, Two.below ⟨O, P, h1, h2⟩ hb⟩
theorem Two.tellR {B : Nat} {w : World} {d e : Nat} {S T : Ds} {W : World} {f : FuncId} {all : Bool} {lo : Nat} {va : Value} {l : List (ByteArray × List Nat)} (h : Two B w d e S T W) (hF : FLs W lo va l) (hx : ∀ O, DK W e O T → Calls Try.prog f #[.pointer (some ⟨e, 0, none⟩)] W fun x w2 => ∃ v, x = .returned v ∧ FLs w2 W.heap.size v (told T all) ∧ Below W.heap.size W w2) :
    Calls Try.prog f #[.pointer (some ⟨e, 0, none⟩)] W fun x w2 => ∃ v lo', x = .returned v ∧ FLs w2 lo va l ∧ FLs w2 lo' v (told T all) ∧ Two B w d e S T w2 := by
  obtain ⟨O, P, h1, h2, h3⟩ := h
  refine (hx P h2).mono ?_
  rintro x w2 ⟨v, hv, hG, hb⟩
  exact ⟨v, _, hv, hF.same fun g _ hg => hb.block g hg, hG, Two.below ⟨O, P, h1, h2, h3⟩ hb⟩
theorem Two.same {B : Nat} {w : World} {d e : Nat} {S T : Ds} {W : World} {lo lo' : Nat} {va vb : Value} {l l' : List (ByteArray × List Nat)} (h : Two B w d e S T W) (ha : FLs W lo va l) (hb : FLs W lo' vb l') (hl : l.length ≤ 3300000000200) (he : l = l') :
    Calls Try.prog 16 #[va, vb] W fun x w2 => x = .returned (.bool true) ∧ Two B w d e S T w2 := by
  refine (sameFiles_is W lo lo' va vb l l' ha hb hl).mono ?_
  rintro x w2 ⟨rfl, ht, _⟩
  rw [decide_eq_true he]
  exact ⟨rfl, h.below (ht.below (fun _ q => q.elim) (Nat.le_refl _))⟩
theorem told_arm (S : Ds) (a f b : Nat) (x all : Bool) : told (arm S a f b x) all = told S all := rfl
theorem told_fs {S T : Ds} (h : S.fs = T.fs) (all : Bool) : told S all = told T all := by unfold told; rw [h]
theorem told_count (S : Ds) (all : Bool) : (told S all).length = S.fs.length := by unfold told; rw [List.length_map, List.length_mergeSort, List.length_map]
theorem s0_ok : Ok s0 := ⟨rfl, rfl, rfl⟩
end Dk
end Go.Proofs.Ytijdaohddefbmaa
