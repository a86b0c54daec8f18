/-
  small facts for ranges over located: boxes and blocks beside a row that grows; the set that a loop keeps.
  A REGION THAT DRAWS ITS ORDER, WITHIN A FENCE, where what each operation yields does not hang on the order: each is looked at once.
  scan.Clean: the frames alone.
-/
import Derived.Test.YtolddolfpnkndaaGreatXubn
import Derived.Test.YtolddolfpnkndaaGreatXuac
import Derived.OrdersIn
import Derived.OwnWalkIn
namespace Go.Proofs.YtolddolfpnkndaaGreat
open Go.RowKit Go.Shelf
namespace Vt
theorem cell_lit (w : World) (t : TypeId) (cs : List Value) (j : Nat) (u : Value) (g : Nat) (hg : g = w.heap.size) (h : cs[j]? = some u) : (w.alloc (.cells cs.toArray t)).cell? ⟨g, j, none⟩ = some u := by
  subst hg
  rw [World.cell?_alloc_new]
  simpa using h
theorem Boxed.grownJ {E : TypeId} {sz : Nat} {w w' : World} {B base : Nat} {t : TypeId} {u v : Value} {l : List (List Value)} (h : Boxed w B t u) (hr : JR E sz w base v l) (hte : t ≠ E) (hg : w.grownBy w' v.ownBlock) : Boxed w' B t u := h.kept hg (hr.not_box h hte)
theorem Blk.grownJ {E : TypeId} {sz : Nat} {w w' : World} {B base : Nat} {t : TypeId} {cs : List Value} {v : Value} {l : List (List Value)} (h : Blk w B t cs) (hr : JR E sz w base v l) (hte : t ≠ E) (hg : w.grownBy w' v.ownBlock) : Blk w' B t cs := h.grown hg (hr.not_blk h hte)
/-- the set that the loop keeps: all below N, and the box of the bytes -/
def SE (N : Nat) (g : Nat) : Prop := g < N ∨ g = N + 2
theorem se_lt {N : Nat} {W : World} (h : N + 4 ≤ W.heap.size) : ∀ g, SE N g → g < W.heap.size := by
  intro g hg
  unfold SE at hg
  omega
end Vt
end Go.Proofs.YtolddolfpnkndaaGreat
namespace Go.Proofs.YtolddolfpnkndaaGreat
open Go Go.RowKit
/-- where operations write: each within the frame, no two at one place -/
def dstsFine (ops : Array Oper) (n : Nat) : Bool :=
  (List.range ops.size).all fun i => match dstOf ops i with
    | none => true
    | some d => decide (d < n) && (List.range ops.size).all fun j => decide (i = j) || !(dstOf ops j == some d)
/-- listed are, with each operation, those that must come ahead of it -/
def Closed (ops : Array Oper) (L : Array Bool) : Prop := ∀ j p, ops[j]? = some p → L.getD j false = true → ∀ e ∈ p.after, Region.binds .any e = true → L.getD e.on false = true
theorem set_getD (L : Array Bool) (i j : Nat) (hi : i < L.size) : (L.setIfInBounds i true).getD j false = if j = i then true else L.getD j false := by
  rw [Array.getD_eq_getD_getElem?, Array.getD_eq_getD_getElem?, Array.getElem?_setIfInBounds]
  by_cases h : j = i
  · subst h; simp [hi]
  · rw [if_neg (by omega), if_neg h]
end Go.Proofs.YtolddolfpnkndaaGreat
namespace Go.Proofs.YtolddolfpnkndaaGreat
open Go.RowKit Go.Shelf
namespace Vt
attribute [local go_sem] Oper.semAt_some
attribute [local go_sem ↓] append_hide
/-- the set that the loop keeps: all up to N, and the box of the bytes -/
def SC (N : Nat) (g : Nat) : Prop := g ≤ N ∨ g = N + 2
theorem sc_lt {N : Nat} {W : World} (h : N + 4 ≤ W.heap.size) : ∀ g, SC N g → g < W.heap.size := by
  intro g hg
  unfold SC at hg
  omega
abbrev JB8 := JK .u8 256 5
/-- between two rounds -/
def ClInv (N : Nat) (l : List Nat) (w4 : World) (pre : List Lc) (W : World) : Prop :=
  (∃ vc, Boxed W (N + 1) 49 vc ∧ JB8 W (N + 4) vc (cln l pre)) ∧ (cln l pre).length ≤ pre.length * l.length ∧ KeepS (SC N) w4 W
theorem ClInv.alloc {N : Nat} {l : List Nat} {w4 W : World} {pre : List Lc} (h : ClInv N l w4 pre W) (hs : N + 4 = w4.heap.size) (o : Obj) : ClInv N l w4 pre (W.alloc o) := by
  obtain ⟨⟨ve, be, j⟩, hb, hS⟩ := h
  exact ⟨⟨ve, be.alloc o, j.keepAll ((Below.refl _ _).alloc (Nat.le_refl _) o)⟩, hb, hS.alloc (sc_lt (by have := hS.size; omega)) o⟩
end Vt
end Go.Proofs.YtolddolfpnkndaaGreat
