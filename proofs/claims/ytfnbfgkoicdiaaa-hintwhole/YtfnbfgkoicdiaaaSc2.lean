/-
  small facts for ranges over located: boxes and blocks beside a row that grows; the set that a loop keeps.
-/
import Derived.Test.YtfnbfgkoicdiaaaSc1
namespace Go.Proofs.Ytfnbfgkoicdiaaa
open Go.RowKit Go.Shelf
namespace Vt
theorem grown_alloc {w w' : World} {o : Obj} {row : Option Nat} (h : (w.alloc o).grownBy w' row) : w.grownBy w' row := by
  refine ⟨h.os, h.tape, h.output, by have := h.size; rw [World.size_alloc] at this; omega, fun k hk hr => ?_⟩
  rw [h.block k (by rw [World.size_alloc]; omega) hr, Below.heap_alloc w o k hk]
theorem cell_lit (w : World) (t : TypeId) (cs : List Value) (j : Nat) (u : Value) (g : Nat) (hg : g = w.heap.size) (h : cs[j]? = some u) : (w.alloc (.cells cs.toArray t)).cell? ⟨g, j, none⟩ = some u := by
  subst hg
  rw [World.cell?_alloc_new]
  simpa using h
theorem Boxed.grownJ {E : TypeId} {sz : Nat} {w w' : World} {B base : Nat} {t : TypeId} {u v : Value} {l : List (List Value)} (h : Boxed w B t u) (hr : JR E sz w base v l) (hte : t ≠ E) (hg : w.grownBy w' v.ownBlock) : Boxed w' B t u := h.kept hg (hr.not_box h hte)
theorem Blk.grownJ {E : TypeId} {sz : Nat} {w w' : World} {B base : Nat} {t : TypeId} {cs : List Value} {v : Value} {l : List (List Value)} (h : Blk w B t cs) (hr : JR E sz w base v l) (hte : t ≠ E) (hg : w.grownBy w' v.ownBlock) : Blk w' B t cs := h.grown hg (hr.not_blk h hte)
/-- the set that the loop keeps: all below N, and the box of the bytes -/
def SE (N : Nat) (g : Nat) : Prop := g < N ∨ g = N + 2
theorem se_lt {N : Nat} {W : World} (h : N + 4 ≤ W.heap.size) : ∀ g, SE N g → g < W.heap.size := by
  intro g hg
  unfold SE at hg
  omega
end Vt
end Go.Proofs.Ytfnbfgkoicdiaaa
