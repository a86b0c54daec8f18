/-
  'KeepS S': all blocks of the set S lie as they lay (and the streams, the tape): what a round over an iterator keeps, where boxes that it writes lie among others.
  'append' onto a row of integers of the call's own, for the walk within a fence (functions with ranges over iterators).
-/
import Derived.Test.YtolddolfpnkndaaGreatXuab
import Derived.RangeFuncNested
import Derived.RangeFuncBound
import Derived.RangeFuncCalls
import Derived.RangeFuncLeaves
import Derived.Shelf.Abstract
import Derived.Shelf.RegionOpen
import Derived.OwnWalkIn
import Derived.TacticsInMore
import Derived.LoopNIn
import Derived.LoopIn
import Derived.Deep.RegionLaw
namespace Go.Proofs.YtolddolfpnkndaaGreat
open Go.RowKit Go.Shelf
namespace Vt
structure KeepS (S : Nat → Prop) (w w' : World) : Prop where
  os : w'.os = w.os
  tape : w'.tape = w.tape
  output : w'.output = w.output
  size : w.heap.size ≤ w'.heap.size
  block : ∀ k, S k → w'.heap[k]? = w.heap[k]?
section
variable {S : Nat → Prop}
theorem KeepS.refl (w : World) : KeepS S w w := ⟨rfl, rfl, rfl, Nat.le_refl _, fun _ _ => rfl⟩
theorem KeepS.trans {a b c : World} (h : KeepS S a b) (k : KeepS S b c) : KeepS S a c :=
  ⟨k.os.trans h.os, k.tape.trans h.tape, k.output.trans h.output, Nat.le_trans h.size k.size, fun i hi => (k.block i hi).trans (h.block i hi)⟩
theorem KeepS.of_below {n : Nat} {a b : World} (h : Below n a b) (hS : ∀ k, S k → k < n) : KeepS S a b := ⟨h.os, h.tape, h.output, h.size, fun i hi => h.block i (hS i hi)⟩
theorem KeepS.below {n : Nat} {a b : World} (h : KeepS S a b) (hS : ∀ k, k < n → S k) : Below n a b := ⟨h.os, h.tape, h.output, h.size, fun i hi => h.block i (hS i hi)⟩
theorem KeepS.cell {a b : World} (h : KeepS S a b) {p : Addr} (hp : S p.block) : b.cell? p = a.cell? p := World.cell?_of_block (w := a) (h.block p.block hp)
theorem KeepS.setCell {a b : World} (h : KeepS S a b) {p : Addr} (hp : ¬ S p.block) (u : Value) : KeepS S a (b.setCell p u) :=
  h.trans ⟨rfl, rfl, rfl, by simp [World.setCell], fun k hk => Below.heap_setCell _ _ _ _ (fun e => hp (by first | rw [← e]; exact hk | rw [e]; exact hk))⟩
theorem KeepS.grown {a b c : World} {row : Option Nat} (h : KeepS S a b) (hg : b.grownBy c row) (hS : ∀ k, S k → k < b.heap.size) (hr : ∀ k, row = some k → ¬ S k) : KeepS S a c :=
  h.trans ⟨hg.os, hg.tape, hg.output, hg.size, fun k hk => hg.block k (hS k hk) (fun e => hr k e.symm hk)⟩
theorem KeepS.alloc {a b : World} (h : KeepS S a b) (hS : ∀ k, S k → k < b.heap.size) (o : Obj) : KeepS S a (b.alloc o) :=
  h.trans ⟨rfl, rfl, rfl, by simp, fun k hk => Below.heap_alloc _ _ _ (hS k hk)⟩
theorem KeepS.drewN {a b : World} (h : KeepS S a b) (n : Nat) : KeepS S a (b.drewN n) := h.trans ⟨rfl, rfl, rfl, Nat.le_refl _, fun _ _ => rfl⟩
theorem KeepS.drew {a b : World} (h : KeepS S a b) : KeepS S a b.drew := h.trans ⟨rfl, rfl, rfl, Nat.le_refl _, fun _ _ => rfl⟩
theorem keepS_t {A B C : World} (h : KeepS S A B) (k : KeepS S B C) : KeepS S A C := h.trans k
theorem keepS_b {w : World} (hS : ∀ k, S k → k < w.heap.size) (W : World) (l : Nat) (o o' : Obj) (hl : w.heap.size ≤ l) (h : W.heap[l]? = some o) (_ : o.isCells = false) (_ : o.isWalk = false) : KeepS S W (W.putObj l o') := by
  have hg := grownBy_putObj' W l o'
  refine ⟨hg.os, hg.tape, hg.output, hg.size, fun k hk => hg.block k ?_ ?_⟩
  · have := (Array.getElem?_eq_some_iff.1 h).1
    have := hS k hk
    omega
  · intro e
    injection e with e
    have := hS k hk
    omega
end
end Vt
end Go.Proofs.YtolddolfpnkndaaGreat
namespace Go.Proofs.YtolddolfpnkndaaGreat
open Go.RowKit Go.Shelf
namespace Vt
/-- a function with ranges over iterators that returns: no other way out -/
def bodyPostF (F : Fence) (n : Nat) (P : Program) (fn : Func) (R : Ending → World → Prop) : Exit → Act → World → Prop
  | .normal, a, w | .ret, a, w => LeavesInM F n P fn a.tmps R a.defers .returning w
  | _, _, _ => False
theorem bodyPostF_M {F : Fence} {n : Nat} {P : Program} {fn : Func} {R : Ending → World → Prop} : ∀ e a w, bodyPostF F n P fn R e a w → bodyPostM F n P fn R e a w := by
  intro e a w h
  cases e with
  | normal => exact h
  | ret => exact h
  | _ => exact h.elim
/-- append, left standing by the walk: its run is handed in as an equation -/
def apH (ats : Array TypeId) (ty : TypeId) (args : Array Value) : Sem Value := Builtin.append_ ats ty args
theorem append_hide (ats : Array TypeId) (ty : TypeId) (args : Array Value) : Builtin.append_ ats ty args = apH ats ty args := rfl
section
variable {k : IntKind} {M : Nat} {E S : TypeId} {by_ : Nat}
theorem JK.drew {w : World} {base : Nat} {v : Value} {l : List Nat} (h : JK k M E w base v l) : JK k M E w.drew base v l := h
theorem JK.drewN {w : World} {base : Nat} {v : Value} {l : List Nat} (h : JK k M E w base v l) (n : Nat) : JK k M E (w.drewN n) base v l := h
/-- a turn of what is no cells leaves the row -/
theorem JK.kept {w w' : World} {base : Nat} {row : Option Nat} {v : Value} {l : List Nat} (h : JK k M E w base v l) (hg : w.grownBy w' row) (hr : ∀ r, row = some r → ∃ o : Obj, w.heap[r]? = some o ∧ o.isCells = false) : JK k M E w' base v l := by
  refine h.grownO hg fun g hgb e => ?_
  obtain ⟨o, ho, hc⟩ := hr g e.symm
  obtain ⟨_, _, ⟨rfl, _⟩ | ⟨g', cap', cur, rfl, hbs, hh, _⟩⟩ := h
  · cases hgb
  · cases hgb
    have : some o = some (.cells cur E (0, 0)) := ho.symm.trans hh
    injection this with this
    rw [this] at hc
    cases hc
theorem Boxed.keptO {W W' : World} {row : Option Nat} {B : Nat} {t : TypeId} {v : Value} (h : Boxed W B t v) (hg : W.grownBy W' row) (hr : ∀ r, row = some r → ∃ o : Obj, W.heap[r]? = some o ∧ o.isCells = false) : Boxed W' B t v := by
  refine h.kept hg fun e => ?_
  obtain ⟨o, ho, hc⟩ := hr B e.symm
  have : some o = some (.cells #[v] t) := ho.symm.trans h
  injection this with this
  rw [this] at hc
  cases hc
/-- a box of another type is no such row -/
theorem JK.not_box {W : World} {B base : Nat} {t : TypeId} {u v : Value} {l : List Nat} (h : Boxed W B t u) (hte : t ≠ E) (hr : JK k M E W base v l) : some B ≠ v.ownBlock := Boxed.not_row h hte hr.2
/-- rows of unlike elements are apart -/
theorem JK.apart {k2 : IntKind} {M2 : Nat} {E2 : TypeId} {W : World} {base base2 : Nat} {v u : Value} {l l2 : List Nat} (h : JK k M E W base v l) (h2 : JK k2 M2 E2 W base2 u l2) (hne : E ≠ E2) : ∀ g, v.ownBlock = some g → some g ≠ u.ownBlock := by
  intro g hg e
  obtain ⟨_, _, ⟨rfl, _⟩ | ⟨g1, cap1, cur1, rfl, _, hh1, _⟩⟩ := h
  · cases hg
  · obtain ⟨_, _, ⟨rfl, _⟩ | ⟨g2, cap2, cur2, rfl, _, hh2, _⟩⟩ := h2
    · cases e
    · cases hg
      injection e with e
      have e' : g1 = g2 := e
      subst e'
      rw [hh1] at hh2
      injection hh2 with hh2
      injection hh2 with _ hh2
      exact hne hh2
end
end Vt
end Go.Proofs.YtolddolfpnkndaaGreat
