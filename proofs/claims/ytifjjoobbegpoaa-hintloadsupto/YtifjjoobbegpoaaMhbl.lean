/-
  A HINT FILE READ BY THE DOCUMENT's ROAD, plainly: all frames but the last are pointers one behind the other, the last is the ending; against ldS, which says what the program reads.
  hint.written; hint.through: frames from end to end, each handed to a function value.
-/
import Derived.Test.YtifjjoobbegpoaaMhbk
import Derived.Test.YtifjjoobbegpoaaMhap
import Derived.Test.YtifjjoobbegpoaaMhbh
namespace Go.Proofs.Ytifjjoobbegpoaa
open Go.RowKit
namespace Vt
/-- the state behind some pointers: none has ended it -/
def onw (ps : List Ptr) (n : Int) : St := ⟨ps, ze, false, n⟩
theorem onw_step {ps : List Ptr} {n : Int} {f : Fr} (h3 : f.kind = 3) (hn : f.p.at_ = n) : stp (onw ps n) f = some (onw (ps ++ [f.p]) (n + f.p.len)) := by
  unfold stp onw
  simp [h3, hn]
theorem sts_two (s : Option St) (A : List Lc) (x y : Lc) : sts s (A ++ [x, y]) = ((sts s A).bind fun s => stp s x.2.2).bind fun s => stp s y.2.2 := by
  rw [show A ++ [x, y] = (A ++ [x]) ++ [y] by simp, sts_snoc, sts_snoc]
/-- a frame in the midst that is no pointer, or does not go on where the one ahead ended: no hint file -/
theorem ldS_mid {l : List Nat} {A B : List Lc} {x y : Lc} {ps : List Ptr} {n : Int} (hl : locs 0 l = A ++ x :: y :: B) (hs : sts (some st0) A = some (onw ps n)) (hx : ¬ (x.2.2.kind = 3 ∧ x.2.2.p.at_ = n)) : ldS l = none := by
  have h2 : sts (some st0) (A ++ [x, y]) = none := by
    rw [sts_two, hs, Option.bind_some]
    by_cases h4 : x.2.2.kind = 4
    · have e : stp (onw ps n) x.2.2 = some ⟨ps, x.2.2.e, true, n⟩ := by unfold stp onw; simp [h4]
      rw [e, Option.bind_some]
      unfold stp
      rw [if_pos rfl]
    · have e : stp (onw ps n) x.2.2 = none := by
        unfold stp onw
        rw [if_neg (by simp), if_neg h4, if_neg hx]
      rw [e]
      rfl
  have h3 : sts (some st0) (locs 0 l) = none := sts_pre h2 ⟨B, by rw [hl]; simp⟩
  unfold ldS
  split
  · rw [h3]; rfl
  · rfl
/-- the last frame is no ending: no hint file -/
theorem ldS_last_no {l : List Nat} {A : List Lc} {y : Lc} {ps : List Ptr} {n : Int} (hl : locs 0 l = A ++ [y]) (hs : sts (some st0) A = some (onw ps n)) (hy : y.2.2.kind ≠ 4) : ldS l = none := by
  unfold ldS
  split
  · rw [hl, sts_snoc, hs, Option.bind_some]
    by_cases h3 : y.2.2.kind = 3 ∧ y.2.2.p.at_ = n
    · rw [onw_step h3.1 h3.2, Option.bind_some, if_neg (fun h => by have := h.1; cases this)]
    · have e : stp (onw ps n) y.2.2 = none := by
        unfold stp onw
        rw [if_neg (by simp), if_neg hy, if_neg h3]
      rw [e]
      rfl
  · rfl
/-- the last frame is an ending: it must count what is ahead of it -/
theorem ldS_last {l : List Nat} {A : List Lc} {y : Lc} {ps : List Ptr} {n : Int} (hc : Cl l) (hl : locs 0 l = A ++ [y]) (hs : sts (some st0) A = some (onw ps n)) (hy : y.2.2.kind = 4) :
    (good ⟨ps, y.2.2.e, true, n⟩ → ldS l = some ⟨ps, y.2.2.e, true, n⟩) ∧ (¬ good ⟨ps, y.2.2.e, true, n⟩ → ldS l = none) := by
  have e : stp (onw ps n) y.2.2 = some ⟨ps, y.2.2.e, true, n⟩ := by unfold stp onw; simp [hy]
  have h : sts (some st0) (locs 0 l) = some ⟨ps, y.2.2.e, true, n⟩ := by rw [hl, sts_snoc, hs, Option.bind_some, e]
  unfold ldS
  rw [if_pos hc, h, Option.bind_some]
  exact ⟨fun g => by rw [if_pos g], fun g => by rw [if_neg g]⟩
theorem ldS_dirt {l : List Nat} (hc : ¬ Cl l) : ldS l = none := by unfold ldS; rw [if_neg hc]
/-- no frame at all: no hint file -/
theorem ldS_empty {l : List Nat} (hl : locs 0 l = []) : ldS l = none := by
  unfold ldS
  split
  · have h : sts (some st0) [] = some st0 := rfl
    rw [hl, h, Option.bind_some, if_neg (fun h => by have := h.1; cases this)]
  · rfl
end Vt
end Go.Proofs.Ytifjjoobbegpoaa
namespace Go.Proofs.Ytifjjoobbegpoaa
open Go.RowKit Go.Shelf
namespace Vt
attribute [local go_sem] Oper.semAt_some
set_option maxRecDepth 100000 in
set_option maxHeartbeats 1000000 in
theorem written_is (f : Fr) (w : World) (hw : f.Wf) (h : rf f = 0) : Calls Try.prog 52 #[.agg (fv f)] w fun e w' => ∃ u, e = .returned u ∧ JB w' w.heap.size u (en f) ∧ Below w.heap.size w w' := by
  have HE : Hid (∀ w, Calls Try.prog 47 #[.agg (fv f)] w fun e w' => ∃ u, e = .returned (.tuple #[u, .int .i64 0]) ∧ JB w' w.heap.size u (en f) ∧ Below w.heap.size w w') := fun w => encF_all hw h w
  obtain ⟨ls, hls⟩ : ∃ ls, ls = en f := ⟨_, rfl⟩
  rw [← hls] at HE ⊢
  clear hls hw h
  obtain ⟨k, ⟨rl, rk, rkey, rval⟩, ⟨pl, pk, pa, pn, pkey⟩, ⟨ec, eb, ef, es⟩⟩ := f
  simp only [fv] at HE ⊢
  go_enter Try.func52, Try.ntmps52
  go_wp2_with fail
  refine Calls.mono (HE.out _) ?_
  rintro e w1 ⟨u, rfl, hj, hb⟩
  clear HE
  have HJ := hd hj
  have HB := hd hb
  clear hj hb
  go_wp2_with fail
  go_ret
  have h1 : Below w.heap.size w w1 := ((Below.refl _ _).alloc (Nat.le_refl _) _).trans (HB.out.mono (by simp))
  exact ⟨u, rfl, HJ.out.base (by simp), h1⟩
end Vt
end Go.Proofs.Ytifjjoobbegpoaa
