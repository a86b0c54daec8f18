/-
  THE WALKS OF the law's sameBytes and pick; New without a file.
-/
import Derived.Test.YtnakaomgceoobaaGreatDkb
import Derived.Deep.QuietTactic
import Derived.BigQuiet
import Derived.Deep.RegionWith
import Derived.OwnWalk
namespace Go.Proofs.YtnakaomgceoobaaGreat
open Go.RowKit Go.Maps
namespace Dk
open Vt
def ds0 (c : Nat) : Ds := ⟨c, 0, 0, false, 0, 0, false, []⟩
theorem good0 {c : Nat} (h : c ≤ 4194304) : Good (ds0 c) := ⟨h, rfl, Nat.zero_le _, List.Pairwise.nil, by simp [ds0], by simp [ds0], by simp [ds0], by simp [ds0], by simp [ds0]⟩
set_option maxRecDepth 100000 in
theorem idx0 (w : World) (F : Value) : Calls Tryz.prog 50 #[.slice none 0 0, F] w fun e w' => e = .returned (.int .i64 (-1)) ∧ w' = w := by
  go_enter Tryz.func50, Tryz.ntmps50
  go_wp2_with fail
  refine wp_loop_rounds 1 ?_
  rw [rounds_succ]
  go_wp2_with fail
  go_ret
  exact ⟨rfl, rfl⟩
set_option maxRecDepth 100000 in
theorem has0 (w : World) (F : Value) : Calls Tryz.prog 27 #[.slice none 0 0, F] w fun e w' => e = .returned (.bool false) ∧ w' = w := by
  go_enter Tryz.func27, Tryz.ntmps27
  go_wp2_with fail
  refine Calls.mono (idx0 _ _) ?_
  rintro e w1 ⟨rfl, rfl⟩
  go_wp2_with fail
  go_ret
  exact ⟨rfl, rfl⟩
set_option maxRecDepth 100000 in
set_option maxHeartbeats 1000000 in
theorem new0_is (w : World) (c : Nat) (hc : c ≤ 4194304) : Calls Tryz.prog 13 #[.int .i64 (c : Int), .slice none 0 0] w fun e w' => ∃ d O, e = .returned (.tuple #[.pointer (some ⟨d, 0, none⟩), .int .i64 0]) ∧ DK w' d O (ds0 c) ∧ Tr (fun _ => False) w w' ∧ ∀ b, O b → w.heap.size ≤ b := by
  have hmm := @run_makeMap Tryz.prog
  obtain ⟨W, hW⟩ : ∃ W, W = (w.alloc (.map #[] 0)).alloc (.cells #[.int .i64 (c : Int), .int .i64 0, .map (some w.heap.size), .int .i64 0, .bool false, .int .i64 0, .int .i64 0, .bool false] TD) := ⟨_, rfl⟩
  have hbx : Blk W (w.heap.size + 1) TD (cells (ds0 c) w.heap.size) := by
    rw [hW]
    have := Blk.new (w.alloc (.map #[] 0)) TD (cells (ds0 c) w.heap.size)
    rwa [alloc_size] at this
  have FIN : ∀ n, DK (W.drewN n) (w.heap.size + 1) (fun b => b = w.heap.size ∨ b = w.heap.size + 1) (ds0 c) ∧ Tr (fun _ => False) w (W.drewN n) := by
    intro n
    refine ⟨⟨w.heap.size, [], rfl, hbx, ?_, by simp, List.Pairwise.nil, ⟨.inr rfl, .inl rfl, by simp⟩, ?_, good0 hc⟩, ?_⟩
    · have h1 : MP (w.alloc (.map #[] 0)) w.heap.size [] := ⟨.map [], World.ownsMap_made w Tryz.prog TS ptrElem, fun s _ => rfl, fun s _ => rfl, rfl⟩
      refine MP.same h1 ?_
      rw [hW]
      exact (MapKept.heap_alloc _ _).2 _ (by rw [alloc_size]; omega)
    · intro b q
      have : W.heap.size = w.heap.size + 2 := by rw [hW, alloc_size, alloc_size]
      show b < W.heap.size
      omega
    · have h1 : Tr (fun _ => False) w W := by rw [hW]; exact (Tr.alloc (fun _ => False) w _).trans (Tr.alloc (fun _ => False) _ _) fun x q => .inl q
      exact h1.trans (Tr.drewN (fun _ => False) W n) fun x q => .inl q
  have HF := hd FIN
  have d0 : ∀ n, (W.drewN n).cell? ⟨w.heap.size + 1, 0, none⟩ = some (.int .i64 (c : Int)) := fun n => hbx.cell 0 _ rfl
  have d1 : ∀ n, (W.drewN n).cell? ⟨w.heap.size + 1, 1, none⟩ = some (.int .i64 0) := fun n => hbx.cell 1 _ rfl
  have HW := hd hW
  clear hW FIN hbx
  go_enter Tryz.func13, Tryz.ntmps13
  go_wp2_with fail
  refine Calls.mono (has0 _ _) ?_
  rintro e w1 ⟨rfl, rfl⟩
  go_wp2_with fail
  refine wp_loop_rounds 1 ?_
  rw [rounds_succ]
  go_wp2_with fail
  rw [← HW.out]
  go_quiet (fail)
  go_wp2_with fail
  refine wp_loop_rounds 1 ?_
  rw [rounds_succ]
  go_wp2_with fail
  go_ret2
  exact ⟨_, _, rfl, (HF.out _).1, (HF.out _).2, fun b q => by omega⟩
end Dk
end Go.Proofs.YtnakaomgceoobaaGreat
