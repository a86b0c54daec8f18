/-
  PROVED: for every text s and every number the Go law EscapeStops answers true and changes nothing that came in: what is ranged over twice is the same; given up early; within one another.
-/
import Derived.Test.YtojogadklhmkbaaE9
import Derived.Test.YtojogadklhmkbaaU3
import Derived.JoinedCond
import Derived.Laws.EntriesVeiled
namespace Go.Proofs.Ytojogadklhmkbaa
open Go.ChangeShapes Go.WideShapes Go.ChangeAt Go.RowKit Go.Shelf
namespace Estopy
open Vt
attribute [local go_sem] Oper.semAt_some
set_option maxRecDepth 100000 in
theorem pick_is (z : Int) (n : Nat) (w : World) (hn : 0 < n) (hn2 : n ≤ 140737488351233) (hz : (Lit.int .i64 z).wf = true) :
    Calls Try.prog 27 #[.int .i64 z, .int .i64 (n : Int)] w fun e w' => ∃ m : Nat, m < n ∧ e = .returned (.int .i64 (m : Int)) ∧ w' = w := by
  have hb := bounds_i64 hz
  by_cases h : z < 0
  · go_enter Try.func27, Try.ntmps27
    go_wp2
    go_ret
    refine ⟨((-(z + 1)).tmod (n : Int)).toNat, ?_, ?_, rfl⟩
    · have h1 := Int.tmod_lt_of_pos (-(z + 1)) (show (0 : Int) < n by omega)
      have h2 := Int.tmod_nonneg (n : Int) (show (0 : Int) ≤ -(z + 1) by omega)
      omega
    · have h2 := Int.tmod_nonneg (n : Int) (show (0 : Int) ≤ -(z + 1) by omega)
      rw [Int.toNat_of_nonneg h2, Int.neg_tmod]; rfl
  · go_enter Try.func27, Try.ntmps27
    go_wp2
    go_ret
    refine ⟨(z % (n : Int)).toNat, ?_, ?_, rfl⟩
    · have h1 := Int.emod_lt_of_pos z (show (0 : Int) < n by omega)
      have h2 := Int.emod_nonneg z (show (n : Int) ≠ 0 by omega)
      omega
    · rw [Int.toNat_of_nonneg (Int.emod_nonneg z (show (n : Int) ≠ 0 by omega))]; rfl
/-- the frame ahead of the last loops -/
def f3a (a aF aA : Option Addr) (l : List Nat) (w w1 : World) (z : Int) (c cF capA L X Y M m0 : Nat) : Array Value := #[Value.slice a l.length c, Value.int IntKind.i64 z, Value.pointer (some { block := w.heap.size, off := 0 }), undef, Value.pointer (some { block := w.heap.size + 1, off := 0 }), Value.bool true, Value.slice (some { block := w1.heap.size, off := 0 }) L L, Value.pointer (some { block := X + 1, off := 0 }), Value.pointer (some { block := X + 2, off := 0 }), Value.pointer (some { block := X + 2 + 1, off := 0 }), undef, undef, Value.pointer (some { block := Y, off := 0 }), Value.pointer (some { block := Y + 1, off := 0 }), Value.pointer (some { block := Y + 1 + 1, off := 0 }), undef, undef, Value.bool true, Value.bool true, undef, undef, undef, undef, undef, undef, Value.bool true, Value.slice a l.length c, Value.slice (some { block := w1.heap.size, off := 0 }) L L, Value.slice (some { block := w1.heap.size, off := 0 }) L L, Value.func (Fn.func 39) #[] #[Value.pointer (some { block := X, off := 0 })], Value.func (Fn.func 39) #[] #[Value.pointer (some { block := X, off := 0 })], Value.bool false, Value.int IntKind.i64 z, Value.slice a l.length c, Value.int IntKind.i64 ↑l.length, Value.int IntKind.i64 (↑l.length + 1), Value.int IntKind.i64 ↑m0, Value.int IntKind.i64 (1 + ↑m0), Value.func (Fn.func 39) #[] #[Value.pointer (some { block := X, off := 0 })], undef, undef, undef, undef, undef, undef, undef, undef, undef, undef, Value.func (Fn.func 39) #[] #[Value.pointer (some { block := X, off := 0 })], undef, undef, undef, undef, undef, undef, undef, undef, undef, undef, undef, undef, undef, undef, undef, undef, undef, undef, Value.int IntKind.i64 (1 + ↑m0), Value.slice a l.length c, Value.int IntKind.i64 ↑l.length, Value.bool true, Value.slice a l.length c, Value.int IntKind.i64 ↑l.length, Value.slice aA l.length capA, Value.slice a l.length c, Value.bool true, Value.slice aF M cF, Value.slice a l.length c, Value.int IntKind.i64 (M : Int), Value.slice a M c, Value.bool true, undef, undef, undef, undef, undef, undef, undef, undef, undef, undef, undef, undef, undef, undef, undef, undef, undef, undef, undef, undef, undef, undef, undef, undef, undef, undef, undef, undef, undef, undef, undef, undef, undef, undef, undef, undef, undef, undef, undef, undef, undef, undef, undef, undef, undef, undef, undef, undef, undef, undef, undef, undef, undef, undef, undef, undef, undef]
def f3b (a aF aA : Option Addr) (l : List Nat) (w w1 : World) (z : Int) (c cF capA L X Y M m0 : Nat) : Array Value := #[Value.slice a l.length c, Value.int IntKind.i64 z, Value.pointer (some { block := w.heap.size, off := 0 }), undef, Value.pointer (some { block := w.heap.size + 1, off := 0 }), Value.bool true, Value.slice (some { block := w1.heap.size, off := 0 }) L L, Value.pointer (some { block := X + 1, off := 0 }), Value.pointer (some { block := X + 2, off := 0 }), Value.pointer (some { block := X + 2 + 1, off := 0 }), undef, undef, Value.pointer (some { block := Y, off := 0 }), Value.pointer (some { block := Y + 1, off := 0 }), Value.pointer (some { block := Y + 1 + 1, off := 0 }), undef, undef, Value.bool true, Value.bool true, undef, undef, undef, undef, undef, undef, Value.bool true, Value.slice a l.length c, Value.slice (some { block := w1.heap.size, off := 0 }) L L, Value.slice (some { block := w1.heap.size, off := 0 }) L L, Value.func (Fn.func 39) #[] #[Value.pointer (some { block := X, off := 0 })], Value.func (Fn.func 39) #[] #[Value.pointer (some { block := X, off := 0 })], Value.bool false, Value.int IntKind.i64 z, Value.slice a l.length c, Value.int IntKind.i64 ↑l.length, Value.int IntKind.i64 (↑l.length + 1), Value.int IntKind.i64 ↑m0, Value.int IntKind.i64 (1 + ↑m0), Value.func (Fn.func 39) #[] #[Value.pointer (some { block := X, off := 0 })], undef, undef, undef, undef, undef, undef, undef, undef, undef, undef, Value.func (Fn.func 39) #[] #[Value.pointer (some { block := X, off := 0 })], undef, undef, undef, undef, undef, undef, undef, undef, undef, undef, undef, undef, undef, undef, undef, undef, undef, undef, Value.int IntKind.i64 (1 + ↑m0), Value.slice a l.length c, Value.int IntKind.i64 ↑l.length, Value.bool (decide ((l.length : Int) < 1 + (m0 : Int))), undef, undef, Value.slice aA l.length capA, Value.slice a l.length c, Value.bool true, Value.slice aF M cF, Value.slice a l.length c, Value.int IntKind.i64 (M : Int), Value.slice a M c, Value.bool true, undef, undef, undef, undef, undef, undef, undef, undef, undef, undef, undef, undef, undef, undef, undef, undef, undef, undef, undef, undef, undef, undef, undef, undef, undef, undef, undef, undef, undef, undef, undef, undef, undef, undef, undef, undef, undef, undef, undef, undef, undef, undef, undef, undef, undef, undef, undef, undef, undef, undef, undef, undef, undef, undef, undef, undef, undef]
def byts {B : Nat} (pre : List (PB B)) : List Nat := (pre.map Subtype.val).map Prod.snd
theorem byts_len {B : Nat} (pre : List (PB B)) : (byts pre).length = pre.length := by unfold byts; rw [List.length_map, List.length_map]
theorem byts_snoc {B : Nat} (pre : List (PB B)) (x : PB B) : byts (pre ++ [x]) = byts pre ++ [x.1.2] := by unfold byts; rw [List.map_append, List.map_append]; rfl
/-- a counter, and nothing else below it -/
def NInv (Z : Nat) (wz : World) (k : Nat) (W : World) : Prop := Boxed W Z 3 (.int .i64 (k : Int)) ∧ KeepS (fun g => g < Z) wz W
theorem ownFrom_n {β : Type} {B Z : Nat} {wz : World} (f : β → Nat) (hsz : Z + 1 ≤ wz.heap.size) (hB : Z + 1 ≤ B) : OwnFrom B (fun s W => NInv Z wz (f s) W) := by
  intro s W W' row hs hg hr
  obtain ⟨bn, hS⟩ := hs
  have hr' : ∀ r, row = some r → ∃ o : Obj, W.heap[r]? = some o ∧ o.isCells = false := fun r e => (hr r e).2
  exact ⟨Boxed.keptO bn hg hr', hS.grown hg (fun g hg' => by have := hS.size; have h' : g < Z := hg'; omega) (fun g e h => by have := (hr g e).1; have h' : g < Z := h; omega)⟩
theorem _root_.Go.Proofs.Ytojogadklhmkbaa.Vt.IsK.base {k : IntKind} {M : Nat} {w : World} {a : Option Addr} {n c : Nat} {l : List Nat} (h : IsK k M w (.slice a n c) l) (hl : 0 < l.length) : ∃ b off, a = some ⟨b, off, none⟩ := by
  obtain ⟨_, _, ⟨rfl, _, _, e⟩ | ⟨b, off, c', e, _⟩⟩ := h
  · simp at hl
  · injection e with e1 e2 e3; exact ⟨b, off, e1⟩
theorem keeps_of {Zb : Nat} {W V0 V : World} (h : KeepsOthers W V0) (hz : W.heap.size ≤ Zb) (hS : KeepS (fun g => g < Zb) V0 V) : KeepsOthers W V :=
  ⟨Nat.le_trans h.size hS.size, fun k o hk ho => by have hlt := (Array.getElem?_eq_some_iff.1 hk).1; exact (hS.block k (by show k < Zb; omega)).trans (h.same k o hk ho)⟩
/-- what loop one has put down -/
def FewInv (X : Nat) (w6 : World) (t : List Nat) (W : World) : Prop := (∃ vF, Boxed W (X + 2 + 1) 22 vF ∧ JK .u8 256 5 W (X + 4) vF t) ∧ KeepS (fun g => g < X + 3) w6 W
theorem ownFrom_few {β : Type} {B X : Nat} {w6 : World} (f : β → List Nat) (hs6 : X + 4 ≤ w6.heap.size) (hB : X + 4 ≤ B) : OwnFrom B (fun s W => FewInv X w6 (f s) W) := by
  intro s W W' row hs hg hr
  obtain ⟨⟨vF, bf, jf⟩, hS⟩ := hs
  have hr' : ∀ r, row = some r → ∃ o : Obj, W.heap[r]? = some o ∧ o.isCells = false := fun r e => (hr r e).2
  exact ⟨⟨vF, Boxed.keptO bf hg hr', jf.kept hg hr'⟩, hS.grown hg (fun g hg' => by have := hS.size; have h' : g < X + 3 := hg'; omega) (fun g e h => by have := (hr g e).1; have h' : g < X + 3 := h; omega)⟩
/-- are the places in order, and what is the last one? -/
def st (pre : List (Nat × Nat)) : Bool × Int := pre.foldl (fun s x => (s.1 && decide (s.2 < (x.1 : Int)), (x.1 : Int))) (true, -1)
theorem st_snoc (pre : List (Nat × Nat)) (x : Nat × Nat) : st (pre ++ [x]) = ((st pre).1 && decide ((st pre).2 < (x.1 : Int)), (x.1 : Int)) := by unfold st; rw [List.foldl_append]; rfl
theorem st_pl (l : List Nat) : (st (pl 0 l)).1 = true := by
  have key : ∀ (l : List Nat) (p : Nat) (q : Int), q < (p : Int) → ((pl p l).foldl (fun (s : Bool × Int) x => (s.1 && decide (s.2 < (x.1 : Int)), (x.1 : Int))) (true, q)).1 = true := by
    intro l
    induction l with
    | nil => intro p q _; rfl
    | cons c r ih =>
      intro p q h
      have := e1_len c
      rw [pl, List.foldl_cons]
      simp only [Bool.true_and, decide_eq_true h]
      exact ih _ _ (by omega)
  exact key l 0 (-1) (by omega)
/-- what loop two has put down -/
def AllInv (Y : Nat) (w7 : World) (t : List (Nat × Nat)) (W : World) : Prop := (∃ vA, Boxed W Y 22 vA ∧ JK .u8 256 5 W (Y + 3) vA (t.map Prod.snd)) ∧ Boxed W (Y + 1) 3 (.int .i64 (st t).2) ∧ Boxed W (Y + 1 + 1) 4 (.bool (st t).1) ∧ KeepS (fun g => g < Y) w7 W
theorem ownFrom_all {β : Type} {B Y : Nat} {w7 : World} (f : β → List (Nat × Nat)) (hs7 : Y + 3 ≤ w7.heap.size) (hB : Y + 3 ≤ B) : OwnFrom B (fun s W => AllInv Y w7 (f s) W) := by
  intro s W W' row hs hg hr
  obtain ⟨⟨vA, ba, ja⟩, bl, bo, hS⟩ := hs
  have hr' : ∀ r, row = some r → ∃ o : Obj, W.heap[r]? = some o ∧ o.isCells = false := fun r e => (hr r e).2
  exact ⟨⟨vA, Boxed.keptO ba hg hr', ja.kept hg hr'⟩, Boxed.keptO bl hg hr', Boxed.keptO bo hg hr', hS.grown hg (fun g hg' => by have := hS.size; have h' : g < Y := hg'; omega) (fun g e h => by have := (hr g e).1; have h' : g < Y := h; omega)⟩
/-- a byte is put down -/
theorem few_step {X x : Nat} {w6 W w2 : World} {t : List Nat} {vF vF2 : Value} {o1 : Obj} (hs : X + 4 ≤ W.heap.size) (bf : Boxed W (X + 2 + 1) 22 vF) (jf : JK .u8 256 5 W (X + 4) vF t) (hS : KeepS (fun g => g < X + 3) w6 W)
    (jf2 : JK .u8 256 5 w2 (X + 4) vF2 (t ++ [x])) (hg2 : (W.alloc o1).grownBy w2 vF.ownBlock) :
    KeepsOthers W (w2.setCell ⟨X + 2 + 1, 0, none⟩ vF2) ∧ KeepS (fun g => g < X + 3) W (w2.setCell ⟨X + 2 + 1, 0, none⟩ vF2) ∧ FewInv X w6 (t ++ [x]) (w2.setCell ⟨X + 2 + 1, 0, none⟩ vF2) := by
  have hk : KeepS (fun g => g < X + 3) W (w2.setCell ⟨X + 2 + 1, 0, none⟩ vF2) := by
    refine KeepS.setCell ?_ (p := ⟨X + 2 + 1, 0, none⟩) (fun h => by have h' : X + 2 + 1 < X + 3 := h; omega) _
    exact ((KeepS.refl W).alloc (fun g h => by have h' : g < X + 3 := h; omega) o1).grown hg2 (fun g h => by have h' : g < X + 3 := h; simp; omega) (fun g e h => by have := jf.blk_ge g e; have h' : g < X + 3 := h; omega)
  refine ⟨(KeepsOthers.alloc W o1).trans ((others_row (jf.keepAll ((Below.refl _ _).alloc (Nat.le_refl _) o1)) hg2).trans (KeepsOthers.setCell _ _ _)), hk, ⟨vF2, (box_row bf jf hg2 (by decide)).set _, ?_⟩, hS.trans hk⟩
  exact jf2.setO (p := ⟨X + 2 + 1, 0, none⟩) (fun g hg => by have := jf2.blk_ge g hg; show g ≠ X + 2 + 1; omega) _
/-- a place, a byte are put down -/
theorem all_step {Y x1 x2 : Nat} {b : Bool} {w7 W w2 : World} {t : List Nat} {vA vA2 vL vO : Value} {o1 : Obj} (hs : Y + 3 ≤ W.heap.size) (ba : Boxed W Y 22 vA) (ja : JK .u8 256 5 W (Y + 3) vA t) (bl : Boxed W (Y + 1) 3 vL) (bo : Boxed W (Y + 1 + 1) 4 vO) (hS : KeepS (fun g => g < Y) w7 W)
    (ja2 : JK .u8 256 5 w2 (Y + 3) vA2 (t ++ [x2])) (hg2 : (((W.setCell ⟨Y + 1 + 1, 0, none⟩ (.bool b)).setCell ⟨Y + 1, 0, none⟩ (.int .i64 (x1 : Int))).alloc o1).grownBy w2 vA.ownBlock) :
    KeepsOthers W (w2.setCell ⟨Y, 0, none⟩ vA2) ∧ KeepS (fun g => g < Y) W (w2.setCell ⟨Y, 0, none⟩ vA2) ∧ ((∃ vA, Boxed (w2.setCell ⟨Y, 0, none⟩ vA2) Y 22 vA ∧ JK .u8 256 5 (w2.setCell ⟨Y, 0, none⟩ vA2) (Y + 3) vA (t ++ [x2])) ∧ Boxed (w2.setCell ⟨Y, 0, none⟩ vA2) (Y + 1) 3 (.int .i64 (x1 : Int)) ∧ Boxed (w2.setCell ⟨Y, 0, none⟩ vA2) (Y + 1 + 1) 4 (.bool b) ∧ KeepS (fun g => g < Y) w7 (w2.setCell ⟨Y, 0, none⟩ vA2)) := by
  have hsc : ((W.setCell ⟨Y + 1 + 1, 0, none⟩ (.bool b)).setCell ⟨Y + 1, 0, none⟩ (.int .i64 (x1 : Int))).heap.size = W.heap.size := by simp [World.setCell]
  have jas : JK .u8 256 5 ((W.setCell ⟨Y + 1 + 1, 0, none⟩ (.bool b)).setCell ⟨Y + 1, 0, none⟩ (.int .i64 (x1 : Int))) (Y + 3) vA t := (ja.setO (p := ⟨Y + 1 + 1, 0, none⟩) (fun g hg => by have := ja.blk_ge g hg; show g ≠ Y + 1 + 1; omega) _).setO (p := ⟨Y + 1, 0, none⟩) (fun g hg => by have := ja.blk_ge g hg; show g ≠ Y + 1; omega) _
  have bas : Boxed ((W.setCell ⟨Y + 1 + 1, 0, none⟩ (.bool b)).setCell ⟨Y + 1, 0, none⟩ (.int .i64 (x1 : Int))) Y 22 vA := (ba.other (by omega) _).other (by omega) _
  have bls : Boxed ((W.setCell ⟨Y + 1 + 1, 0, none⟩ (.bool b)).setCell ⟨Y + 1, 0, none⟩ (.int .i64 (x1 : Int))) (Y + 1) 3 (.int .i64 (x1 : Int)) := (bl.other (by omega) _).set _
  have bos : Boxed ((W.setCell ⟨Y + 1 + 1, 0, none⟩ (.bool b)).setCell ⟨Y + 1, 0, none⟩ (.int .i64 (x1 : Int))) (Y + 1 + 1) 4 (.bool b) := (bo.set _).other (by omega) _
  have hk : KeepS (fun g => g < Y) W (w2.setCell ⟨Y, 0, none⟩ vA2) := by
    refine KeepS.setCell ?_ (p := ⟨Y, 0, none⟩) (fun h => by have h' : Y < Y := h; omega) _
    refine KeepS.grown ?_ hg2 (fun g h => by have h' : g < Y := h; rw [World.size_alloc, hsc]; omega) (fun g e h => by have := ja.blk_ge g e; have h' : g < Y := h; omega)
    refine KeepS.alloc ?_ (fun g h => by have h' : g < Y := h; rw [hsc]; omega) o1
    exact ((KeepS.refl W).setCell (p := ⟨Y + 1 + 1, 0, none⟩) (fun h => by have h' : Y + 1 + 1 < Y := h; omega) _).setCell (p := ⟨Y + 1, 0, none⟩) (fun h => by have h' : Y + 1 < Y := h; omega) _
  refine ⟨((KeepsOthers.setCell _ _ _).trans (KeepsOthers.setCell _ _ _)).trans ((KeepsOthers.alloc _ o1).trans ((others_row (jas.keepAll ((Below.refl _ _).alloc (Nat.le_refl _) o1)) hg2).trans (KeepsOthers.setCell _ _ _))), hk, ⟨vA2, (box_row bas jas hg2 (by decide)).set _, ?_⟩, (box_row bls jas hg2 (by decide)).other (by omega) _, (box_row bos jas hg2 (by decide)).other (by omega) _, hS.trans hk⟩
  exact ja2.setO (p := ⟨Y, 0, none⟩) (fun g hg => by have := ja2.blk_ge g hg; show g ≠ Y; omega) _
theorem pl_take (l : List Nat) {pre : List (Nat × Nat)} (h : pre <+: pl 0 l) : pre.map Prod.snd = l.take pre.length := by
  obtain ⟨t, ht⟩ := h
  have h1 := congrArg (List.map Prod.snd) ht
  rw [pl_snd, List.map_append] at h1
  rw [← h1, List.take_left' (by simp)]
theorem byts_pre {B : Nat} (l : List Nat) {pre : List (PB B)} (h : pre.map Subtype.val <+: pl 0 l) : byts pre <+: l := by
  unfold byts
  rw [pl_take l h]
  exact List.take_prefix _ _
set_option maxRecDepth 100000 in
set_option maxHeartbeats 4000000 in
theorem walkB (v : Value) (l : List Nat) (z : Int) (w : World) (hI : IsB w v l) (hm : l.length ≤ 140737488351232) (hz : (Lit.int .i64 z).wf = true) :
    Calls Try.prog 10 #[v, .int .i64 z] w fun e w' => e = .returned (.bool true) ∧ Below w.heap.size w w' := by
  have HI := hd hI
  obtain ⟨a, c, rfl⟩ := hI.shape
  have hwl := wr_len l
  clear hI
  refine (callsIn_wide (n := 12)).1 ?_
  refine callsIn_of_wp_marks Try.func10 rfl trivial (Code.wpIn_mono bodyPostF_M ?_) rfl
  simp only [Try.ntmps10, List.size_toArray, List.length_cons, List.length_nil, Nat.reduceAdd, Nat.reduceSub, Array.replicate_succ, Array.replicate_zero, List.push_toArray, List.append_toArray, List.nil_append, List.cons_append]
  gi_wp2
  obtain ⟨W0, hW0⟩ : ∃ W0, W0 = ((w.alloc (.cells #[.slice a l.length c] 22)).alloc (.cells #[.bool false] 4)) := ⟨_, rfl⟩
  rw [← hW0]
  have hs0 : W0.heap.size = w.heap.size + 2 := by rw [hW0]; simp
  have hb0 : Below w.heap.size w W0 := by rw [hW0]; exact ((Below.refl _ _).alloc (Nat.le_refl _) _).alloc (by simp) _
  have BS0 : Hid (Boxed W0 w.heap.size 22 (.slice a l.length c)) := by rw [hW0]; exact (Boxed.new w 22 _).alloc _
  have BR0 : Hid (Boxed W0 (w.heap.size + 1) 4 (.bool false)) := by
    have := Boxed.new (w.alloc (.cells #[.slice a l.length c] 22)) 4 (.bool false)
    rw [World.size_alloc] at this
    rw [hW0]; exact this
  refine ⟨trivial, CallsIn.mono (callsIn_wide.2 (awake_is W0)) ?_⟩
  rintro e w1 ⟨rfl, hb1⟩
  have HB1 := hd (hb0.trans (hb1.mono hb0.size))
  have BS1 := hd (boxed_below BS0.out BS0.out.lt hb1)
  have BR1 := hd (boxed_below BR0.out BR0.out.lt hb1)
  have hs1 := hb1.size
  have cs1 := BS1.out.cell
  clear hW0 hb0 BS0 BR0 hb1
  gi_wp2
  refine ⟨trivial, CallsIn.mono (callsIn_wide.2 (wrap_is _ l w1 (HI.out.below HB1.out) (by omega))) ?_⟩
  rintro e w2 ⟨rfl, hj2, hb2⟩
  have HB2 := hd (HB1.out.trans (hb2.mono HB1.out.size))
  have BS2 := hd (boxed_below BS1.out BS1.out.lt hb2)
  have BR2 := hd (boxed_below BR1.out BR1.out.lt hb2)
  have HJ2 := hd hj2
  have hs2 := hj2.buf.2.2.1
  have cs2 := BS2.out.cell
  obtain ⟨L, hL⟩ : ∃ L, L = (wr l).length := ⟨_, rfl⟩
  have HL := hd hL
  rw [← hL] at hwl HJ2 ⊢
  clear hb2 hj2 HB1 BS1 BR1 cs1 hL
  gi_wp2
  refine ⟨trivial, CallsIn.mono (callsIn_wide.2 (each_is _ _ _ w2)) ?_⟩
  rintro e w3 ⟨rfl, hw3⟩
  have hs3 : w3.heap.size = w2.heap.size + 1 := by rw [hw3]; simp
  have hb23 : Below w2.heap.size w2 w3 := by rw [hw3]; exact (Below.refl _ _).alloc (Nat.le_refl _) _
  have BX3 : Hid (Boxed w3 w2.heap.size 22 (.slice (some ⟨w1.heap.size, 0, none⟩) L L)) := by rw [hw3]; exact Boxed.new _ _ _
  have BS3 := hd (boxed_below BS2.out BS2.out.lt hb23)
  have BR3 := hd (boxed_below BR2.out BR2.out.lt hb23)
  have HJ3 := hd (HJ2.out.keepAll hb23)
  have HB3 := hd (HB2.out.trans (hb23.mono HB2.out.size))
  have cs3 := BS3.out.cell
  clear hw3 hb23 BS2 BR2 HJ2 HB2 cs2
  have hrun : ∀ W, Sem.run Try.prog (binOp BinOp.eql 41 (Value.func (.func 39) #[] #[.pointer (some ⟨w2.heap.size, 0, none⟩)]) Value.nilFunc) W = .ok (.bool false) W := fun W => by kernel_rfl
  have cs3A : ∀ o, (w3.alloc o).cell? ⟨w.heap.size, 0, none⟩ = some (.slice a l.length c) := fun o => (BS3.out.alloc o).cell
  gi_wp2
  clear hrun cs3A
  obtain ⟨w4, hw4⟩ : ∃ w4, w4 = w3.alloc (.cells #[.func (.func 39) #[] #[.pointer (some ⟨w2.heap.size, 0, none⟩)]] 41) := ⟨_, rfl⟩
  rw [← hw4]
  have hs4 : w4.heap.size = w2.heap.size + 2 := by rw [hw4]; simp; omega
  have hb34 : Below w3.heap.size w3 w4 := by rw [hw4]; exact (Below.refl _ _).alloc (Nat.le_refl _) _
  have BQ4 : Hid (Boxed w4 (w2.heap.size + 1) 41 (.func (.func 39) #[] #[.pointer (some ⟨w2.heap.size, 0, none⟩)])) := by rw [hw4, ← hs3]; exact Boxed.new _ _ _
  have BX4 := hd (boxed_below BX3.out BX3.out.lt hb34)
  have BS4 := hd (boxed_below BS3.out BS3.out.lt hb34)
  have BR4 := hd (boxed_below BR3.out BR3.out.lt hb34)
  have HJ4 := hd (HJ3.out.keepAll hb34)
  have HB4 := hd (HB3.out.trans (hb34.mono HB3.out.size))
  have cs4 := BS4.out.cell
  clear hw4 hb34 BX3 BS3 BR3 HJ3 HB3 cs3
  have hpk := pick_is z (l.length + 1) w4 (by omega) (by omega) hz
  rw [show (((l.length + 1 : Nat) : Int)) = (l.length : Int) + 1 by omega] at hpk
  refine ⟨trivial, CallsIn.mono (callsIn_wide.2 hpk) ?_⟩
  rintro e w5 ⟨m0, hm0, rfl, hw5⟩
  subst hw5
  clear hpk
  obtain ⟨X, hX⟩ : ∃ X, X = w2.heap.size := ⟨_, rfl⟩
  rw [← hX] at hs3 hs4 BQ4 BX4 hs2 ⊢
  clear hX
  have hqA : ∀ o1 o2, ((w5.alloc o1).alloc o2).cell? ⟨X + 1, 0, none⟩ = some (.func (.func 39) #[] #[.pointer (some ⟨X, 0, none⟩)]) := fun o1 o2 => ((BQ4.out.alloc o1).alloc o2).cell
  gi_wp2
  clear hqA
  obtain ⟨w6, hw6⟩ : ∃ w6, w6 = ((w5.alloc (.cells #[.int .i64 (1 + (m0 : Int))] 3)).alloc (.cells #[.slice none 0 0] 22)) := ⟨_, rfl⟩
  rw [← hw6]
  have hs6 : w6.heap.size = X + 4 := by rw [hw6]; simp; omega
  have hb56 : Below w5.heap.size w5 w6 := by rw [hw6]; exact ((Below.refl _ _).alloc (Nat.le_refl _) _).alloc (by simp) _
  have BM6 : Hid (Boxed w6 (X + 2) 3 (.int .i64 (1 + (m0 : Int)))) := by rw [hw6, ← hs4]; exact (Boxed.new w5 3 _).alloc _
  have BF6 : Hid (Boxed w6 (X + 2 + 1) 22 (.slice none 0 0)) := by
    have := Boxed.new (w5.alloc (.cells #[.int .i64 (1 + (m0 : Int))] 3)) 22 (.slice none 0 0)
    rw [World.size_alloc, hs4] at this
    rw [hw6]; exact this
  have BQ6 := hd (boxed_below BQ4.out BQ4.out.lt hb56)
  have BX6 := hd (boxed_below BX4.out BX4.out.lt hb56)
  have BS6 := hd (boxed_below BS4.out BS4.out.lt hb56)
  have BR6 := hd (boxed_below BR4.out BR4.out.lt hb56)
  have HJ6 := hd (HJ4.out.keepAll hb56)
  have HB6 := hd (HB4.out.trans (hb56.mono HB4.out.size))
  have hw1X : w1.heap.size < X := by omega
  have hwX : w.heap.size + 1 < X := by omega
  clear hw6 hb56 BQ4 BX4 BS4 BR4 HJ4 HB4 cs4 hs4 hs3 hs2 hs1 hs0
  rename_i K1 hK1
  obtain ⟨M, hM⟩ : ∃ M, M = min (m0 + 1) l.length := ⟨_, rfl⟩
  have HM := hd hM
  clear hM
  have HTL : Hid (toldB 0 (wr l) = pl 0 l) := toldB_wr l 0
  refine (fun (rest1 : ∀ (D : Nat) (W : World), X + 4 ≤ D → W.heap[D]? = some (.deferred (some [])) → (∃ vF, Boxed W (X + 2 + 1) 22 vF ∧ JK .u8 256 5 W (X + 4) vF (l.take M)) → KeepS (fun g => g < X + 3) w6 W → K1 { tmps := #[Value.slice a l.length c, Value.int IntKind.i64 z, Value.pointer (some { block := w.heap.size, off := 0 }), undef, Value.pointer (some { block := w.heap.size + 1, off := 0 }), Value.bool true, Value.slice (some { block := w1.heap.size, off := 0 }) L L, Value.pointer (some { block := X + 1, off := 0 }), Value.pointer (some { block := X + 2, off := 0 }), Value.pointer (some { block := X + 2 + 1, off := 0 }), undef, undef, undef, undef, undef, undef, undef, undef, undef, undef, undef, undef, undef, undef, undef, Value.bool true, Value.slice a l.length c, Value.slice (some { block := w1.heap.size, off := 0 }) L L, Value.slice (some { block := w1.heap.size, off := 0 }) L L, Value.func (Fn.func 39) #[] #[Value.pointer (some { block := X, off := 0 })], Value.func (Fn.func 39) #[] #[Value.pointer (some { block := X, off := 0 })], Value.bool false, Value.int IntKind.i64 z, Value.slice a l.length c, Value.int IntKind.i64 ↑l.length, Value.int IntKind.i64 (↑l.length + 1), Value.int IntKind.i64 ↑m0, Value.int IntKind.i64 (1 + ↑m0), Value.func (Fn.func 39) #[] #[Value.pointer (some { block := X, off := 0 })], undef, undef, undef, undef, undef, undef, undef, undef, undef, undef, undef, undef, undef, undef, undef, undef, undef, undef, undef, undef, undef, undef, undef, undef, undef, undef, undef, undef, undef, undef, undef, undef, undef, undef, undef, undef, undef, undef, undef, undef, undef, undef, undef, undef, undef, undef, undef, undef, undef, undef, undef, undef, undef, undef, undef, undef, undef, undef, undef, undef, undef, undef, undef, undef, undef, undef, undef, undef, undef, undef, undef, undef, undef, undef, undef, undef, undef, undef, undef, undef, undef, undef, undef, undef, undef, undef, undef, undef, undef, undef, undef, undef, undef, undef, undef, undef, undef, undef, undef, undef], defers := [{ target := .collected D, args := #[] }] } W) => ?main1) ?h1
  case h1 =>
    intro D W hD hKD hF hS
    refine hK1 _ _ ?_
    clear hK1
    obtain ⟨vF, bF, jF⟩ := hF
    obtain ⟨aF, cF, eF, hcF⟩ := jF.shape
    obtain ⟨Mf, hMf⟩ : ∃ Mf, Mf = (l.take M).length := ⟨_, rfl⟩
    rw [← hMf] at eF hcF
    subst eF
    have HMF := hd hMf
    clear hMf
    have hsW := hS.size
    have hD2 : D < W.heap.size := (Array.getElem?_eq_some_iff.1 hKD).1
    have hqA : ∀ o1 o2 o3, (((W.alloc o1).alloc o2).alloc o3).cell? ⟨X + 1, 0, none⟩ = some (.func (.func 39) #[] #[.pointer (some ⟨X, 0, none⟩)]) := fun o1 o2 o3 => ((((boxed_keepS BQ6.out (show X + 1 < X + 3 by omega) hS).alloc o1).alloc o2).alloc o3).cell
    gi_wp2
    clear hqA
    obtain ⟨Y, hY⟩ : ∃ Y, Y = W.heap.size := ⟨_, rfl⟩
    obtain ⟨w7, hw7⟩ : ∃ w7, w7 = (((W.alloc (.cells #[.slice none 0 0] 22)).alloc (.cells #[.int .i64 (-1)] 3)).alloc (.cells #[.bool true] 4)) := ⟨_, rfl⟩
    rw [← hw7, ← hY]
    have hs7 : w7.heap.size = Y + 3 := by rw [hw7, hY]; simp
    have hb7 : Below W.heap.size W w7 := by rw [hw7]; exact (((Below.refl _ _).alloc (Nat.le_refl _) _).alloc (by simp) _).alloc (by simp; omega) _
    have BA7 : Hid (Boxed w7 Y 22 (.slice none 0 0)) := by rw [hw7, hY]; exact ((Boxed.new W 22 _).alloc _).alloc _
    have BL7 : Hid (Boxed w7 (Y + 1) 3 (.int .i64 (-1))) := by
      have := (Boxed.new (W.alloc (.cells #[.slice none 0 0] 22)) 3 (.int .i64 (-1))).alloc (.cells #[.bool true] 4)
      rw [World.size_alloc, ← hY] at this
      rw [hw7]; exact this
    have BO7 : Hid (Boxed w7 (Y + 1 + 1) 4 (.bool true)) := by
      have := Boxed.new ((W.alloc (.cells #[.slice none 0 0] 22)).alloc (.cells #[.int .i64 (-1)] 3)) 4 (.bool true)
      rw [World.size_alloc, World.size_alloc, ← hY] at this
      rw [hw7]; exact this
    rw [← hY] at hsW hD2
    have hS7 : KeepS (fun g => g < X + 3) w6 w7 := hS.trans (KeepS.of_below hb7 (fun g h => by have h' : g < X + 3 := h; omega))
    have BF7 := hd (boxed_below bF bF.lt hb7)
    have JF7 := hd (jF.keepAll hb7)
    have hlF := jF.blk_lt
    rw [← hY] at hlF
    have HLF := hd hlF
    have HKD7 : Hid (w7.heap[D]? = some (.deferred (some []))) := (hb7.block D (by omega)).trans hKD
    have BM7 := hd (boxed_keepS BM6.out (show X + 2 < X + 3 by omega) hS7)
    have BQ7 := hd (boxed_keepS BQ6.out (show X + 1 < X + 3 by omega) hS7)
    have BX7 := hd (boxed_keepS BX6.out (show X < X + 3 by omega) hS7)
    have BS7 := hd (boxed_keepS BS6.out (show w.heap.size < X + 3 by omega) hS7)
    have BR7 := hd (boxed_keepS BR6.out (show w.heap.size + 1 < X + 3 by omega) hS7)
    have HJ7 := hd ((jk_jb.2 HJ6.out).keepS (fun g hg => by (cases hg; show w1.heap.size < X + 3; omega)) hS7)
    have HB7 : Hid (Below w.heap.size w w7) := HB6.out.trans (hS7.below (fun g hg => by show g < X + 3; omega))
    clear hw7 hb7 hS bF jF hS7 hKD hlF hY
    rename_i K2 hK2
    refine (fun (rest2 : ∀ (D2 : Nat) (W : World), Y + 3 ≤ D2 → W.heap[D2]? = some (.deferred (some [])) → (∃ vA, Boxed W Y 22 vA ∧ JK .u8 256 5 W (Y + 3) vA l) → Boxed W (Y + 1 + 1) 4 (.bool true) → KeepS (fun g => g < Y) w7 W → K2 { tmps := #[Value.slice a l.length c, Value.int IntKind.i64 z, Value.pointer (some { block := w.heap.size, off := 0 }), undef, Value.pointer (some { block := w.heap.size + 1, off := 0 }), Value.bool true, Value.slice (some { block := w1.heap.size, off := 0 }) L L, Value.pointer (some { block := X + 1, off := 0 }), Value.pointer (some { block := X + 2, off := 0 }), Value.pointer (some { block := X + 2 + 1, off := 0 }), undef, undef, Value.pointer (some { block := Y, off := 0 }), Value.pointer (some { block := Y + 1, off := 0 }), Value.pointer (some { block := Y + 1 + 1, off := 0 }), undef, undef, undef, undef, undef, undef, undef, undef, undef, undef, Value.bool true, Value.slice a l.length c, Value.slice (some { block := w1.heap.size, off := 0 }) L L, Value.slice (some { block := w1.heap.size, off := 0 }) L L, Value.func (Fn.func 39) #[] #[Value.pointer (some { block := X, off := 0 })], Value.func (Fn.func 39) #[] #[Value.pointer (some { block := X, off := 0 })], Value.bool false, Value.int IntKind.i64 z, Value.slice a l.length c, Value.int IntKind.i64 ↑l.length, Value.int IntKind.i64 (↑l.length + 1), Value.int IntKind.i64 ↑m0, Value.int IntKind.i64 (1 + ↑m0), Value.func (Fn.func 39) #[] #[Value.pointer (some { block := X, off := 0 })], undef, undef, undef, undef, undef, undef, undef, undef, undef, undef, Value.func (Fn.func 39) #[] #[Value.pointer (some { block := X, off := 0 })], undef, undef, undef, undef, undef, undef, undef, undef, undef, undef, undef, undef, undef, undef, undef, undef, undef, undef, undef, undef, undef, undef, undef, undef, undef, undef, undef, undef, undef, undef, undef, undef, undef, undef, undef, undef, undef, undef, undef, undef, undef, undef, undef, undef, undef, undef, undef, undef, undef, undef, undef, undef, undef, undef, undef, undef, undef, undef, undef, undef, undef, undef, undef, undef, undef, undef, undef, undef, undef, undef, undef, undef, undef, undef, undef, undef, undef, undef, undef, undef, undef, undef, undef, undef, undef, undef, undef, undef, undef], defers := [{ target := .collected D2, args := #[] }, { target := .collected D, args := #[] }] } W) => ?main2) ?h2
    case h2 =>
      intro D2 W hDD hKD2 hA hO hS
      refine hK2 _ _ ?_
      clear hK2
      obtain ⟨vA, bA, jA⟩ := hA
      obtain ⟨aA, capA, eA, hcA⟩ := jA.shape
      subst eA
      have hsW := hS.size
      have hDD2 : D2 < W.heap.size := (Array.getElem?_eq_some_iff.1 hKD2).1
      have bM := boxed_keepS BM7.out (show X + 2 < Y by omega) hS
      have cM := bM.cell
      have fM := bM.frozen
      have bS := boxed_keepS BS7.out (show w.heap.size < Y by omega) hS
      have cS := bS.cell
      have cellA := bA.cell
      by_cases hml : m0 = l.length
      · have hlt : (l.length : Int) < 1 + (m0 : Int) := by omega
        have cS2 : (W.setCell ⟨X + 2, 0, none⟩ (.int .i64 (l.length : Int))).cell? ⟨w.heap.size, 0, none⟩ = some (.slice a l.length c) := (bS.other (by omega) _).cell
        have cA2 : (W.setCell ⟨X + 2, 0, none⟩ (.int .i64 (l.length : Int))).cell? ⟨Y, 0, none⟩ = some (.slice aA l.length capA) := (bA.other (by omega) _).cell
        have HML := hd hml
        clear hml
        gi_wp2
        clear cS2 cA2
        obtain ⟨W3, hW3⟩ : ∃ W3, W3 = W.setCell ⟨X + 2, 0, none⟩ (.int .i64 (l.length : Int)) := ⟨_, rfl⟩
        rw [← hW3]
        have BM3 : Hid (Boxed W3 (X + 2) 3 (.int .i64 (M : Int))) := by have hml := HML.out; rw [hW3, show (M : Int) = (l.length : Int) by (rw [HM.out]; omega)]; exact bM.set _
        have hS3 : KeepS (fun g => g < Y ∧ g ≠ X + 2) w7 W3 := by rw [hW3]; exact (show KeepS (fun g => g < Y ∧ g ≠ X + 2) w7 W from ⟨hS.os, hS.tape, hS.output, hS.size, fun g hg => hS.block g hg.1⟩).setCell (p := ⟨X + 2, 0, none⟩) (fun h => h.2 rfl) _
        have BA3 : Hid (Boxed W3 Y 22 (.slice aA l.length capA)) := by rw [hW3]; exact bA.other (by omega) _
        have BO3 : Hid (Boxed W3 (Y + 1 + 1) 4 (.bool true)) := by rw [hW3]; exact hO.other (by omega) _
        have JA3 : Hid (JK .u8 256 5 W3 (Y + 3) (.slice aA l.length capA) l) := by rw [hW3]; exact jA.setO (p := ⟨X + 2, 0, none⟩) (fun g hg => by have := jA.blk_ge g hg; show g ≠ X + 2; omega) _
        have HKD23 : Hid (W3.heap[D2]? = some (.deferred (some []))) := by rw [hW3]; exact (KeepsOthers.setCell W ⟨X + 2, 0, none⟩ (.int .i64 (l.length : Int))).same D2 _ hKD2 rfl
        have hs3 : W3.heap.size = W.heap.size := by rw [hW3]; simp [World.setCell]
        clear hW3 bM bS bA jA hO hKD2 cM fM cS cellA hS
        have BS3 := hd (boxed_keepS BS7.out (show w.heap.size < Y ∧ w.heap.size ≠ X + 2 by omega) hS3)
        have BR3 := hd (boxed_keepS BR7.out (show w.heap.size + 1 < Y ∧ w.heap.size + 1 ≠ X + 2 by omega) hS3)
        have BX3 := hd (boxed_keepS BX7.out (show X < Y ∧ X ≠ X + 2 by omega) hS3)
        have BQ3 := hd (boxed_keepS BQ7.out (show X + 1 < Y ∧ X + 1 ≠ X + 2 by omega) hS3)
        have BF3 := hd (boxed_keepS BF7.out (show X + 2 + 1 < Y ∧ X + 2 + 1 ≠ X + 2 by omega) hS3)
        have JF3 := hd (JF7.out.keepS (fun g hg => by (have h1 := HLF.out g hg; have h2 := JF7.out.blk_ge g hg; show g < Y ∧ g ≠ X + 2; omega)) hS3)
        have HJ3 := hd (HJ7.out.keepS (fun g hg => by (cases hg; show w1.heap.size < Y ∧ w1.heap.size ≠ X + 2; omega)) hS3)
        have HKD3 : Hid (W3.heap[D]? = some (.deferred (some []))) := (hS3.block D (by show D < Y ∧ D ≠ X + 2; omega)).trans HKD7.out
        have HB3 : Hid (Below w.heap.size w W3) := HB7.out.trans (hS3.below (fun g hg => by show g < Y ∧ g ≠ X + 2; omega))
        clear hS3
        refine ⟨trivial, CallsIn.mono (callsIn_wide.2 (esame_is _ _ l l W3 JA3.out.isK (HI.out.below HB3.out))) ?_⟩
        rw [decide_eq_true rfl]
        rintro e w8 ⟨rfl, hw8⟩
        subst hw8
        have hMl : M ≤ l.length := by rw [HM.out]; omega
        have hMc := HI.out.cap
        have hMf : Mf = M := by rw [HMF.out, List.length_take]; omega
        rw [hMf] at BF3 JF3
        clear hMf
        have cF3 := BF3.out.cell
        have cS3 := BS3.out.cell
        have cM3 := BM3.out.cell
        have JFd : Hid (IsB w8.drew (.slice aF M cF) (l.take M)) := JF3.out.isK.below (Below.refl _ _).drew
        have HId : Hid (IsB w8.drew (.slice a M c) (l.take M)) := ((HI.out.below HB3.out).take M hMl).below (Below.refl _ _).drew
        gi_wp2
        rename_i K3 hK3
        have hmix : Try.prog.follows .mixedOrders = true := by kernel_rfl
        refine (fun (rest3 : Hid (K3 { tmps := f3a a aF aA l w w1 z c cF capA L X Y M m0, defers := [{ target := .collected D2, args := #[] }, { target := .collected D, args := #[] }] } w8.drew)) => ?main3a) ?h3a
        case h3a =>
          refine hK3 _ _ ?_
          clear hK3 hmix
          unfold f3a
          clear JFd HId cF3 cS3 cM3
          obtain ⟨w9, hw9⟩ : ∃ w9, w9 = w8.drew := ⟨_, rfl⟩
          rw [← hw9]
          have BM9 : Hid (Boxed w9 (X + 2) 3 (.int .i64 (M : Int))) := by rw [hw9]; exact BM3.out
          have BO9 : Hid (Boxed w9 (Y + 1 + 1) 4 (.bool true)) := by rw [hw9]; exact BO3.out
          have BS9 : Hid (Boxed w9 w.heap.size 22 (.slice a l.length c)) := by rw [hw9]; exact BS3.out
          have BR9 : Hid (Boxed w9 (w.heap.size + 1) 4 (.bool false)) := by rw [hw9]; exact BR3.out
          have BX9 : Hid (Boxed w9 X 22 (.slice (some ⟨w1.heap.size, 0, none⟩) L L)) := by rw [hw9]; exact BX3.out
          have BQ9 : Hid (Boxed w9 (X + 1) 41 (.func (.func 39) #[] #[.pointer (some ⟨X, 0, none⟩)])) := by rw [hw9]; exact BQ3.out
          have HJ9 : Hid (JK .u8 256 5 w9 w1.heap.size (.slice (some ⟨w1.heap.size, 0, none⟩) L L) (wr l)) := by rw [hw9]; exact HJ3.out.drew
          have HKD29 : Hid (w9.heap[D2]? = some (.deferred (some []))) := by rw [hw9]; exact HKD23.out
          have HKD9 : Hid (w9.heap[D]? = some (.deferred (some []))) := by rw [hw9]; exact HKD3.out
          have HB9 : Hid (Below w.heap.size w w9) := by rw [hw9]; exact HB3.out.drew
          have HS9 : Hid (w9.heap.size = W.heap.size) := by rw [hw9]; exact hs3
          have HI9 := hd (HI.out.below HB9.out)
          clear hw9 BM3 BO3 BS3 BR3 BX3 BQ3 BF3 JF3 HJ3 HKD23 HKD3 HB3 BA3 JA3 hs3
          have hqA : ∀ o1, (w9.alloc o1).cell? ⟨X + 1, 0, none⟩ = some (.func (.func 39) #[] #[.pointer (some ⟨X, 0, none⟩)]) := fun o1 => (BQ9.out.alloc o1).cell
          gi_wp2
          clear hqA
          obtain ⟨Z, hZ⟩ : ∃ Z, Z = w9.heap.size := ⟨_, rfl⟩
          obtain ⟨wz, hwz⟩ : ∃ wz, wz = w9.alloc (.cells #[.int .i64 0] 3) := ⟨_, rfl⟩
          rw [← hwz, ← hZ]
          have hs9 := HS9.out
          have hsz : wz.heap.size = Z + 1 := by rw [hwz, hZ]; simp
          have hbz : Below w9.heap.size w9 wz := by rw [hwz]; exact (Below.refl _ _).alloc (Nat.le_refl _) _
          have BNz : Hid (Boxed wz Z 3 (.int .i64 ((0 : Nat) : Int))) := by rw [hwz, hZ]; exact Boxed.new _ _ _
          have BMz := hd (boxed_below BM9.out BM9.out.lt hbz)
          have BOz := hd (boxed_below BO9.out BO9.out.lt hbz)
          have BSz := hd (boxed_below BS9.out BS9.out.lt hbz)
          have BRz := hd (boxed_below BR9.out BR9.out.lt hbz)
          have BXz := hd (boxed_below BX9.out BX9.out.lt hbz)
          have BQz := hd (boxed_below BQ9.out BQ9.out.lt hbz)
          have HJz := hd (HJ9.out.keepAll hbz)
          have HKD2z : Hid (wz.heap[D2]? = some (.deferred (some []))) := (hbz.block D2 (by omega)).trans HKD29.out
          have HKDz : Hid (wz.heap[D]? = some (.deferred (some []))) := (hbz.block D (by omega)).trans HKD9.out
          have HBz := hd (HB9.out.trans (hbz.mono HB9.out.size))
          have HIz := hd (HI9.out.below hbz)
          have hYZ : Y + 3 ≤ Z := by omega
          have hDZ : D < Z := by omega
          have hD2Z : D2 < Z := by omega
          clear hwz hbz BM9 BO9 BS9 BR9 BX9 BQ9 HJ9 HKD29 HKD9 HB9 HI9 hs9 HS9 hZ
          rename_i K4 hK4
          have hseq := each_stops 11 (by omega) 281474976702464 (fun g => g < Z) X _ (wr l) wz (by rw [← HL.out]; omega) (by show X < Z; omega) (by omega) BXz.out.cell (by have := (jk_jb.1 HJz.out).isB; exact this) (by
            intro b off cc _ e
            injection e with e1 e2 e3
            injection e1 with e1
            injection e1 with e1
            show b < Z
            omega)
          rw [HTL.out] at hseq
          refine wpIn_rangeFunc_ownH rfl (by omega) (gf := 39) (lb := #[.pointer (some ⟨X, 0, none⟩)]) rfl trivial (enters_of Try.func39 (by kernel_rfl) rfl) hseq keepS_t (keepS_b (fun g h => by have h' : g < Z := h; omega)) (Below.refl _ _) (fun _ => rfl)
            (fun (pre : List (PB 281474976702464)) (W : World) => byts pre <+: l ∧ NInv Z wz pre.length W)
            (fun _ (pre : List (PB 281474976702464)) _ => ¬ byts pre <+: l)
            (OwnFrom.and (ownFrom_pure _ _) (ownFrom_n (fun (pre : List (PB 281474976702464)) => pre.length) (by omega) (by omega)))
            (fun _ => ownFrom_pure _ _)
            ⟨List.nil_prefix, BNz.out, KeepS.refl _⟩
            (fun (x : PB 281474976702464) a' _ => a' = { tmps := #[Value.slice a l.length c, Value.int IntKind.i64 z, Value.pointer (some { block := w.heap.size, off := 0 }), undef, Value.pointer (some { block := w.heap.size + 1, off := 0 }), Value.bool true, Value.slice (some { block := w1.heap.size, off := 0 }) L L, Value.pointer (some { block := X + 1, off := 0 }), Value.pointer (some { block := X + 2, off := 0 }), Value.pointer (some { block := X + 2 + 1, off := 0 }), undef, undef, Value.pointer (some { block := Y, off := 0 }), Value.pointer (some { block := Y + 1, off := 0 }), Value.pointer (some { block := Y + 1 + 1, off := 0 }), undef, undef, Value.bool true, Value.bool true, Value.pointer (some { block := Z, off := 0 }), undef, Value.int IntKind.u8 (x.1.2 : Int), undef, undef, undef, Value.bool true, Value.slice a l.length c, Value.slice (some { block := w1.heap.size, off := 0 }) L L, Value.slice (some { block := w1.heap.size, off := 0 }) L L, Value.func (Fn.func 39) #[] #[Value.pointer (some { block := X, off := 0 })], Value.func (Fn.func 39) #[] #[Value.pointer (some { block := X, off := 0 })], Value.bool false, Value.int IntKind.i64 z, Value.slice a l.length c, Value.int IntKind.i64 ↑l.length, Value.int IntKind.i64 (↑l.length + 1), Value.int IntKind.i64 ↑m0, Value.int IntKind.i64 (1 + ↑m0), Value.func (Fn.func 39) #[] #[Value.pointer (some { block := X, off := 0 })], undef, undef, undef, undef, undef, undef, undef, undef, undef, undef, Value.func (Fn.func 39) #[] #[Value.pointer (some { block := X, off := 0 })], undef, undef, undef, undef, undef, undef, undef, undef, undef, undef, undef, undef, undef, undef, undef, undef, undef, undef, Value.int IntKind.i64 (1 + ↑m0), Value.slice a l.length c, Value.int IntKind.i64 ↑l.length, Value.bool true, Value.slice a l.length c, Value.int IntKind.i64 ↑l.length, Value.slice aA l.length capA, Value.slice a l.length c, Value.bool true, Value.slice aF M cF, Value.slice a l.length c, Value.int IntKind.i64 (M : Int), Value.slice a M c, Value.bool true, Value.func (Fn.func 39) #[] #[Value.pointer (some { block := X, off := 0 })], Value.int IntKind.i64 (x.1.1 : Int), Value.int IntKind.u8 (x.1.2 : Int), undef, undef, undef, undef, undef, undef, undef, undef, undef, undef, undef, undef, undef, undef, undef, undef, undef, undef, undef, undef, undef, undef, undef, undef, undef, undef, undef, undef, undef, undef, undef, undef, undef, undef, undef, undef, undef, undef, undef, undef, undef, undef, undef, undef, undef, undef, undef, undef, undef, undef, undef, undef, undef, undef], defers := [] })
            (fun _ _ _ _ _ _ hs _ _ => hs)
            ?assign4a ?body4a ?done4a ?stop4a
          case assign4a =>
            intro lk pre x W K hi hK
            gi_wp2
            exact hK _ _ (KeepsFrom.refl _ _) (KeepS.refl _) hi rfl
          case stop4a =>
            rintro D3 c2 pre W hD3 hp h hK
            exact (h (byts_pre l hp)).elim
          case done4a =>
            rintro D3 ys V hD3 hys ⟨hp4, bn, hS4⟩ hK3'
            have hyl : ys.length = l.length := by
              have := congrArg List.length hys
              rw [List.length_map, pl_len] at this
              exact this
            rw [hyl] at bn
            refine hK4 _ _ ?_
            clear hK4 hseq hp4 hys
            have hD3l : D3 < V.heap.size := (Array.getElem?_eq_some_iff.1 hK3').1
            have cn := bn.cell
            have co := (boxed_keepS BOz.out (show Y + 1 + 1 < Z by omega) hS4).cell
            have cs := (boxed_keepS BSz.out (show w.heap.size < Z by omega) hS4).cell
            have BRV := hd (boxed_keepS BRz.out (show w.heap.size + 1 < Z by omega) hS4)
            have cr := BRV.out.cell
            have fr := BRV.out.frozen
            have HKDV : Hid (V.heap[D]? = some (.deferred (some []))) := (hS4.block D (by show D < Z; omega)).trans HKDz.out
            have HKD2V : Hid (V.heap[D2]? = some (.deferred (some []))) := (hS4.block D2 (by show D2 < Z; omega)).trans HKD2z.out
            have HBV : Hid (Below w.heap.size w V) := HBz.out.trans (hS4.below (fun g hg => by show g < Z; omega))
            have HK3 := hd hK3'
            clear bn hS4 hK3'
            gi_wp2
            have h1 := (KeepsOthers.setCell V ⟨w.heap.size + 1, 0, none⟩ (.bool true)).same D3 _ HK3.out rfl
            have h2 := (KeepsOthers.setCell V ⟨w.heap.size + 1, 0, none⟩ (.bool true)).same D2 _ HKD2V.out rfl
            have h3 := (KeepsOthers.setCell V ⟨w.heap.size + 1, 0, none⟩ (.bool true)).same D _ HKDV.out rfl
            refine ⟨by simp, .inl ⟨_, _, rfl, run_takeDeferred h1, ?_⟩⟩
            have h22 := ((grownBy_putObj' (V.setCell ⟨w.heap.size + 1, 0, none⟩ (.bool true)) D3 (.deferred none)).block D2 (Array.getElem?_eq_some_iff.1 h2).1 (by intro e; injection e; omega)).trans h2
            have h32 := ((grownBy_putObj' (V.setCell ⟨w.heap.size + 1, 0, none⟩ (.bool true)) D3 (.deferred none)).block D (Array.getElem?_eq_some_iff.1 h3).1 (by intro e; injection e; omega)).trans h3
            refine ⟨by simp, .inl ⟨_, _, rfl, run_takeDeferred h22, ?_⟩⟩
            have h33 := ((grownBy_putObj' _ D2 (.deferred none)).block D (Array.getElem?_eq_some_iff.1 h32).1 (by intro e; injection e; omega)).trans h32
            refine ⟨by simp, .inl ⟨_, _, rfl, run_takeDeferred h33, ?_⟩⟩
            have c1 := cell_kept (BRV.out.set (.bool true)).cell (grownBy_putObj' _ D3 (.deferred none)) (fun r e => by cases e; exact ⟨_, h1, rfl⟩)
            have c2 := cell_kept c1 (grownBy_putObj' _ D2 (.deferred none)) (fun r e => by cases e; exact ⟨_, h22, rfl⟩)
            have c3 := cell_kept c2 (grownBy_putObj' _ D (.deferred none)) (fun r e => by cases e; exact ⟨_, h33, rfl⟩)
            refine ⟨.bool true, ?_, rfl, (((HBV.out.setCell (p := ⟨w.heap.size + 1, 0, none⟩) (by show w.heap.size ≤ w.heap.size + 1; omega) _).trans (belowK_b (w := w) (Nat.le_refl _) _ D3 _ _ (by omega) h1 rfl rfl)).trans (belowK_b (w := w) (Nat.le_refl _) _ D2 _ _ (by omega) h22 rfl rfl)).trans (belowK_b (w := w) (Nat.le_refl _) _ D _ _ (by omega) h33 rfl rfl)⟩
            simp [results, Try.f10, go_sem, c3]
          case body4a =>
            rintro lk pre ⟨⟨x1, x2⟩, hx1, hx2⟩ a' W4 hlk ⟨r, hr⟩ ⟨hp, bn, hS4⟩ rfl hlen
            have hx2' : x2 < 256 := hx2
            obtain ⟨k, hke⟩ : ∃ k, k = pre.length := ⟨_, rfl⟩
            rw [← hke] at bn
            have HLN : Hid ((pre ++ [(⟨(x1, x2), hx1, hx2⟩ : PB 281474976702464)]).length = k + 1) := by
              show (pre ++ [(⟨(x1, x2), hx1, hx2⟩ : PB 281474976702464)]).length = k + 1
              rw [List.length_append, List.length_singleton, hke]
            have HPC : Hid (byts (pre ++ [(⟨(x1, x2), hx1, hx2⟩ : PB 281474976702464)]) <+: l ↔ l[k]? = some x2) := by
              show byts (pre ++ [(⟨(x1, x2), hx1, hx2⟩ : PB 281474976702464)]) <+: l ↔ l[k]? = some x2
              rw [byts_snoc, hke, ← byts_len pre]; exact prefix_snoc hp
            have HBW : Hid (Below w.heap.size w W4) := HBz.out.trans (hS4.below (fun g hg => by show g < Z; omega))
            have HIW := hd (HI.out.below HBW.out)
            have hsW4 := hS4.size
            have BS4 := hd (boxed_keepS BSz.out (show w.heap.size < Z by omega) hS4)
            have BM4 := hd (boxed_keepS BMz.out (show X + 2 < Z by omega) hS4)
            have BQ4 := hd (boxed_keepS BQz.out (show X + 1 < Z by omega) hS4)
            have BR4 := hd (boxed_keepS BRz.out (show w.heap.size + 1 < Z by omega) hS4)
            have BN := hd bn
            have HS4 := hd hS4
            have HR := hd hr
            have cn := bn.cell
            have fn := bn.frozen
            have cs := BS4.out.cell
            have cr := BR4.out.cell
            have fr := BR4.out.frozen
            have hk63 : k < 9223372036854775807 := by
              have := hp.length_le
              rw [byts_len] at this
              omega
            clear bn hS4 hr hp hlen hke hseq hK4
            by_cases hkl : k < l.length
            · obtain ⟨b, off, rfl⟩ := HIW.out.base (by omega)
              obtain ⟨y, hy⟩ : ∃ y, y = l.getD k 0 := ⟨_, rfl⟩
              have cy : W4.cell? ⟨b, off + k, none⟩ = some (.int .u8 (y : Int)) := by rw [hy]; exact HIW.out.row k hkl
              have HY : Hid (l[k]? = some y) := by
                show l[k]? = some y
                rw [hy, List.getD_eq_getElem?_getD, List.getElem?_eq_getElem hkl]; rfl
              clear hy
              by_cases hxy : x2 = y
              · have HPR : Hid (byts (pre ++ [(⟨(x1, x2), hx1, hx2⟩ : PB 281474976702464)]) <+: l) := HPC.out.2 (by rw [HY.out, hxy])
                subst hxy
                have cn2 : ∀ v, (W4.setCell ⟨Z, 0, none⟩ v).cell? ⟨Z, 0, none⟩ = some v := fun v => (BN.out.set v).cell
                have cm2 : ∀ v, (W4.setCell ⟨Z, 0, none⟩ v).cell? ⟨X + 2, 0, none⟩ = some (.int .i64 (M : Int)) := fun v => (BM4.out.other (by omega) v).cell
                by_cases hkM : k + 1 = M
                · have hq : (((k : Int) + 1) != (M : Int)) = false := by simp; omega
                  have cq2 : ∀ v o, ((W4.setCell ⟨Z, 0, none⟩ v).alloc o).cell? ⟨X + 1, 0, none⟩ = some (.func (.func 39) #[] #[.pointer (some ⟨X, 0, none⟩)]) := fun v o => ((BQ4.out.other (by omega) v).alloc o).cell
                  have HKM := hd hkM
                  clear hkM
                  gi_wp2
                  rename_i K5 hK5
                  obtain ⟨Zb, hZb⟩ : ∃ Zb, Zb = W4.heap.size := ⟨_, rfl⟩
                  obtain ⟨V0, hV0⟩ : ∃ V0, V0 = (W4.setCell ⟨Z, 0, none⟩ (.int .i64 ((k : Int) + 1))).alloc (.cells #[.int .i64 0] 3) := ⟨_, rfl⟩
                  rw [← hV0, ← hZb]
                  have hsc : (W4.setCell ⟨Z, 0, none⟩ (.int .i64 ((k : Int) + 1))).heap.size = W4.heap.size := by simp [World.setCell]
                  have hsV : V0.heap.size = Zb + 1 := by rw [hV0, hZb, World.size_alloc, hsc]
                  have hZlt : Z < Zb := by rw [hZb]; exact BN.out.lt
                  have hSV : KeepS (fun g => g < Z) W4 V0 := by
                    rw [hV0]
                    exact ((KeepS.refl W4).setCell (p := ⟨Z, 0, none⟩) (fun h => by have h' : Z < Z := h; omega) _).alloc (fun g h => by have h' : g < Z := h; rw [hsc]; omega) _
                  have BKV : Hid (Boxed V0 Zb 3 (.int .i64 ((0 : Nat) : Int))) := by
                    have := Boxed.new (W4.setCell ⟨Z, 0, none⟩ (.int .i64 ((k : Int) + 1))) 3 (.int .i64 0)
                    rw [hsc, ← hZb, ← hV0] at this
                    exact this
                  have BNV : Hid (Boxed V0 Z 3 (.int .i64 ((k + 1 : Nat) : Int))) := by rw [hV0]; exact (BN.out.set _).alloc _
                  have HSZ : Hid (KeepS (fun g => g < Z) wz V0) := HS4.out.trans hSV
                  have BSV := hd (boxed_keepS BS4.out (show w.heap.size < Z by omega) hSV)
                  have BRV := hd (boxed_keepS BR4.out (show w.heap.size + 1 < Z by omega) hSV)
                  have BXV := hd (boxed_keepS BXz.out (show X < Z by omega) HSZ.out)
                  have HJV := hd (HJz.out.keepS (fun g hg => by (cases hg; show w1.heap.size < Z; omega)) HSZ.out)
                  have HRV : Hid (V0.heap[lk]? = some (.loop r)) := by
                    rw [hV0]
                    exact (Below.heap_alloc _ _ lk (by rw [hsc]; exact (Array.getElem?_eq_some_iff.1 HR.out).1)).trans ((KeepsOthers.setCell W4 ⟨Z, 0, none⟩ _).same lk _ HR.out rfl)
                  have HKF : Hid (KeepsOthers W4 V0) := by rw [hV0]; exact (KeepsOthers.setCell _ _ _).trans (KeepsOthers.alloc _ _)
                  have HBV : Hid (Below w.heap.size w V0) := HBz.out.trans (HSZ.out.below (fun g hg => by show g < Z; omega))
                  have HWZ : Hid (W4.heap.size ≤ Zb) := by rw [hZb]; exact Nat.le_refl _
                  have HSV := hd hSV
                  clear hV0 hZb hsc hSV cn fn cs cr fr cy cn2 cm2 cq2 hq
                  have hseq5 := (each_stops 9 (by omega) 281474976702464 (fun g => g < Zb) X _ (wr l) V0 (by rw [← HL.out]; omega) (by show X < Zb; omega) (by omega) BXV.out.cell (by have := (jk_jb.1 HJV.out).isB; exact this) (by
                    intro b off cc _ e
                    injection e with e1 e2 e3
                    injection e1 with e1
                    injection e1 with e1
                    show b < Zb
                    omega)).inRound lk
                  rw [HTL.out] at hseq5
                  refine wpIn_rangeFunc_ownN (l₀ := lk) (r₀ := r) rfl HRV.out (by omega) (gf := 39) (lb := #[.pointer (some ⟨X, 0, none⟩)]) rfl trivial (enters_of Try.func39 (by kernel_rfl) rfl) hseq5 keepS_t (keepS_b (fun g h => by have h' : g < Zb := h; omega)) (Below.refl _ _) (fun _ => rfl)
                    (fun (pre : List (PB 281474976702464)) (W : World) => byts pre <+: l ∧ NInv Zb V0 pre.length W)
                    (fun _ (pre : List (PB 281474976702464)) _ => ¬ byts pre <+: l)
                    (OwnFrom.and (ownFrom_pure _ _) (ownFrom_n (fun (pre : List (PB 281474976702464)) => pre.length) (by omega) (by omega)))
                    (fun _ => ownFrom_pure _ _)
                    ⟨List.nil_prefix, BKV.out, KeepS.refl _⟩
                    (fun (x : PB 281474976702464) a' _ => a' = { tmps := #[Value.slice (some { block := b, off := off }) l.length c, Value.int IntKind.i64 z, Value.pointer (some { block := w.heap.size, off := 0 }), undef, Value.pointer (some { block := w.heap.size + 1, off := 0 }), Value.bool true, Value.slice (some { block := w1.heap.size, off := 0 }) L L, Value.pointer (some { block := X + 1, off := 0 }), Value.pointer (some { block := X + 2, off := 0 }), Value.pointer (some { block := X + 2 + 1, off := 0 }), undef, undef, Value.pointer (some { block := Y, off := 0 }), Value.pointer (some { block := Y + 1, off := 0 }), Value.pointer (some { block := Y + 1 + 1, off := 0 }), undef, undef, Value.bool true, Value.bool true, Value.pointer (some { block := Z, off := 0 }), undef, Value.int IntKind.u8 ↑x2, Value.pointer (some { block := Zb, off := 0 }), undef, Value.int IntKind.u8 (x.1.2 : Int), Value.bool true, Value.slice (some { block := b, off := off }) l.length c, Value.slice (some { block := w1.heap.size, off := 0 }) L L, Value.slice (some { block := w1.heap.size, off := 0 }) L L, Value.func (Fn.func 39) #[] #[Value.pointer (some { block := X, off := 0 })], Value.func (Fn.func 39) #[] #[Value.pointer (some { block := X, off := 0 })], Value.bool false, Value.int IntKind.i64 z, Value.slice (some { block := b, off := off }) l.length c, Value.int IntKind.i64 ↑l.length, Value.int IntKind.i64 (↑l.length + 1), Value.int IntKind.i64 ↑m0, Value.int IntKind.i64 (1 + ↑m0), Value.func (Fn.func 39) #[] #[Value.pointer (some { block := X, off := 0 })], undef, undef, undef, undef, undef, undef, undef, undef, undef, undef, Value.func (Fn.func 39) #[] #[Value.pointer (some { block := X, off := 0 })], undef, undef, undef, undef, undef, undef, undef, undef, undef, undef, undef, undef, undef, undef, undef, undef, undef, undef, Value.int IntKind.i64 (1 + ↑m0), Value.slice (some { block := b, off := off }) l.length c, Value.int IntKind.i64 ↑l.length, Value.bool true, Value.slice (some { block := b, off := off }) l.length c, Value.int IntKind.i64 ↑l.length, Value.slice aA l.length capA, Value.slice (some { block := b, off := off }) l.length c, Value.bool true, Value.slice aF M cF, Value.slice (some { block := b, off := off }) l.length c, Value.int IntKind.i64 ↑M, Value.slice (some { block := b, off := off }) M c, Value.bool true, Value.func (Fn.func 39) #[] #[Value.pointer (some { block := X, off := 0 })], Value.int IntKind.i64 ↑x1, Value.int IntKind.u8 ↑x2, Value.int IntKind.i64 ↑k, Value.slice (some { block := b, off := off }) l.length c, Value.int IntKind.i64 ↑l.length, Value.bool false, Value.bool false, Value.int IntKind.u8 ↑x2, Value.slice (some { block := b, off := off }) l.length c, Value.int IntKind.i64 ↑k, Value.pointer (some { block := b, off := off + k }), Value.int IntKind.u8 ↑x2, Value.bool false, Value.bool false, Value.int IntKind.i64 ↑k, Value.int IntKind.i64 (↑k + 1), Value.int IntKind.i64 (↑k + 1), Value.int IntKind.i64 ↑M, Value.bool false, Value.func (Fn.func 39) #[] #[Value.pointer (some { block := X, off := 0 })], Value.int IntKind.i64 (x.1.1 : Int), Value.int IntKind.u8 (x.1.2 : Int), undef, undef, undef, undef, undef, undef, undef, undef, undef, undef, undef, undef, undef, undef, undef, undef, undef, undef, undef, undef, undef, undef, undef, undef, undef, undef, undef, undef, undef, undef, undef, undef, undef, undef], defers := [] })
                    (fun _ _ _ _ _ _ hs _ _ => hs)
                    ?assign5a ?body5a ?done5a ?stop5a
                  case assign5a =>
                    intro lk5 pre5 x W K hi hK
                    gi_wp2
                    exact hK _ _ (KeepsFrom.refl _ _) (KeepS.refl _) hi rfl
                  case stop5a =>
                    rintro c5 pre5 V hp5 h
                    exact (h (byts_pre l hp5)).elim
                  case done5a =>
                    rintro ys V hys ⟨hp5, bk, hS5⟩
                    have hyl : ys.length = l.length := by
                      have := congrArg List.length hys
                      rw [List.length_map, pl_len] at this
                      exact this
                    rw [hyl] at bk
                    refine hK5 _ _ ?_
                    clear hK5 hseq5 hp5 hys
                    have ck := bk.cell
                    have cs5 := (boxed_keepS BSV.out (show w.heap.size < Zb by omega) hS5).cell
                    have HS5 := hd hS5
                    have HS5Z : Hid (KeepS (fun g => g < Z) V0 V) := ⟨hS5.os, hS5.tape, hS5.output, hS5.size, fun g hg => hS5.block g (by have h' : g < Z := hg; show g < Zb; omega)⟩
                    clear bk hS5
                    gi_wp2
                    exact ⟨(keeps_of HKF.out HWZ.out HS5.out).from _, HSV.out.trans HS5Z.out, HPR.out, by rw [HLN.out]; exact boxed_keepS BNV.out (show Z < Zb by omega) HS5.out, HSZ.out.trans HS5Z.out⟩
                  case body5a =>
                    rintro lk5 pre5 ⟨⟨u1, u2⟩, hu1, hu2⟩ a' V hlk5 _ ⟨hp5, bk, hS5⟩ rfl hlen5
                    have hu2' : u2 < 256 := hu2
                    obtain ⟨k5, hke5⟩ : ∃ k5, k5 = pre5.length := ⟨_, rfl⟩
                    rw [← hke5] at bk
                    have HLN5 : Hid ((pre5 ++ [(⟨(u1, u2), hu1, hu2⟩ : PB 281474976702464)]).length = k5 + 1) := by
                      show (pre5 ++ [(⟨(u1, u2), hu1, hu2⟩ : PB 281474976702464)]).length = k5 + 1
                      rw [List.length_append, List.length_singleton, hke5]
                    have HPC5 : Hid (byts (pre5 ++ [(⟨(u1, u2), hu1, hu2⟩ : PB 281474976702464)]) <+: l ↔ l[k5]? = some u2) := by
                      show byts (pre5 ++ [(⟨(u1, u2), hu1, hu2⟩ : PB 281474976702464)]) <+: l ↔ l[k5]? = some u2
                      rw [byts_snoc, hke5, ← byts_len pre5]; exact prefix_snoc hp5
                    have HIV := hd (HI.out.below (HBV.out.trans (hS5.below (fun g hg => by show g < Zb; omega))))
                    have BS5 := hd (boxed_keepS BSV.out (show w.heap.size < Zb by omega) hS5)
                    have BR5 := hd (boxed_keepS BRV.out (show w.heap.size + 1 < Zb by omega) hS5)
                    have BK5 := hd bk
                    have HS5 := hd hS5
                    have ck5 := bk.cell
                    have fk5 := bk.frozen
                    have cs5 := BS5.out.cell
                    have cr5 := BR5.out.cell
                    have fr5 := BR5.out.frozen
                    have hk563 : k5 < 9223372036854775807 := by
                      have := hp5.length_le
                      rw [byts_len] at this
                      omega
                    clear bk hS5 hp5 hlen5 hke5 hseq5 hK5
                    by_cases hkl5 : k5 < l.length
                    · obtain ⟨y5, hy5⟩ : ∃ y5, y5 = l.getD k5 0 := ⟨_, rfl⟩
                      have cy5 : V.cell? ⟨b, off + k5, none⟩ = some (.int .u8 (y5 : Int)) := by rw [hy5]; exact HIV.out.row k5 hkl5
                      have HY5 : Hid (l[k5]? = some y5) := by
                        show l[k5]? = some y5
                        rw [hy5, List.getD_eq_getElem?_getD, List.getElem?_eq_getElem hkl5]; rfl
                      clear hy5
                      by_cases hxy5 : u2 = y5
                      · have HPR5 : Hid (byts (pre5 ++ [(⟨(u1, u2), hu1, hu2⟩ : PB 281474976702464)]) <+: l) := HPC5.out.2 (by rw [HY5.out, hxy5])
                        subst hxy5
                        gi_wp2
                        exact ⟨(KeepsOthers.setCell _ _ _).from _, (KeepS.refl V).setCell (p := ⟨Zb, 0, none⟩) (fun h => by have h' : Zb < Zb := h; omega) _, HPR5.out, by rw [HLN5.out]; exact BK5.out.set _, HS5.out.setCell (p := ⟨Zb, 0, none⟩) (fun h => by have h' : Zb < Zb := h; omega) _⟩
                      · have hix5 : ¬ byts (pre5 ++ [(⟨(u1, u2), hu1, hu2⟩ : PB 281474976702464)]) <+: l := by rw [HPC5.out, HY5.out]; intro e; injection e with e; omega
                        have hne5 : ((u2 : Int) != (y5 : Int)) = true := by simp; omega
                        have HIX5 := hd hix5
                        clear hix5 hxy5
                        gi_wp2
                        exact ⟨(KeepsOthers.setCell _ _ _).from _, HIX5.out⟩
                    · have hix5 : ¬ byts (pre5 ++ [(⟨(u1, u2), hu1, hu2⟩ : PB 281474976702464)]) <+: l := by
                        intro h
                        have := h.length_le
                        rw [byts_len, HLN5.out] at this
                        omega
                      have hle5 : l.length ≤ k5 := by omega
                      have HIX5 := hd hix5
                      clear hix5 hkl5
                      gi_wp2
                      exact ⟨(KeepsOthers.setCell _ _ _).from _, HIX5.out⟩
                · have hq : (((k : Int) + 1) != (M : Int)) = true := by simp; omega
                  have HKM := hd hkM
                  clear hkM
                  gi_wp2
                  exact ⟨(KeepsOthers.setCell _ _ _).from _, (KeepS.refl W4).setCell (p := ⟨Z, 0, none⟩) (fun h => by have h' : Z < Z := h; omega) _, HPR.out, by rw [HLN.out]; exact BN.out.set _, HS4.out.setCell (p := ⟨Z, 0, none⟩) (fun h => by have h' : Z < Z := h; omega) _⟩
              · have hix : ¬ byts (pre ++ [(⟨(x1, x2), hx1, hx2⟩ : PB 281474976702464)]) <+: l := by rw [HPC.out, HY.out]; intro e; injection e with e; omega
                have hne : ((x2 : Int) != (y : Int)) = true := by simp; omega
                have HIX := hd hix
                clear hix hxy
                gi_wp2
                exact ⟨(KeepsOthers.setCell _ _ _).from _, HIX.out⟩
            · have hix : ¬ byts (pre ++ [(⟨(x1, x2), hx1, hx2⟩ : PB 281474976702464)]) <+: l := by
                intro h
                have := h.length_le
                rw [byts_len, HLN.out] at this
                omega
              have hle : l.length ≤ k := by omega
              have HIX := hd hix
              clear hix hkl
              gi_wp2
              exact ⟨(KeepsOthers.setCell _ _ _).from _, HIX.out⟩
        clear hK3
        gi_region_with_o (refine ⟨trivial, ?_⟩; gi_at_call 24; refine CallsIn.mono (callsIn_wide.2 (esame_is _ _ (l.take M) (l.take M) _ JFd.out HId.out)) ?_; rw [decide_eq_true rfl]; rintro e w9 ⟨rfl, rfl⟩)
        all_goals exact rest3.out
      · have hlt : 1 + (m0 : Int) ≤ (l.length : Int) := by omega
        gi_wp2
        obtain ⟨W3, hW3⟩ : ∃ W3, W3 = W := ⟨_, rfl⟩
        rw [← hW3]
        have BM3 : Hid (Boxed W3 (X + 2) 3 (.int .i64 (M : Int))) := by rw [hW3, show (M : Int) = 1 + (m0 : Int) by (rw [HM.out]; omega)]; exact bM
        have hS3 : KeepS (fun g => g < Y ∧ g ≠ X + 2) w7 W3 := by rw [hW3]; exact (show KeepS (fun g => g < Y ∧ g ≠ X + 2) w7 W from ⟨hS.os, hS.tape, hS.output, hS.size, fun g hg => hS.block g hg.1⟩)
        have BA3 : Hid (Boxed W3 Y 22 (.slice aA l.length capA)) := by rw [hW3]; exact bA
        have BO3 : Hid (Boxed W3 (Y + 1 + 1) 4 (.bool true)) := by rw [hW3]; exact hO
        have JA3 : Hid (JK .u8 256 5 W3 (Y + 3) (.slice aA l.length capA) l) := by rw [hW3]; exact jA
        have HKD23 : Hid (W3.heap[D2]? = some (.deferred (some []))) := by rw [hW3]; exact hKD2
        have hs3 : W3.heap.size = W.heap.size := by rw [hW3]
        clear hW3 bM bS bA jA hO hKD2 cM fM cS cellA hS
        have BS3 := hd (boxed_keepS BS7.out (show w.heap.size < Y ∧ w.heap.size ≠ X + 2 by omega) hS3)
        have BR3 := hd (boxed_keepS BR7.out (show w.heap.size + 1 < Y ∧ w.heap.size + 1 ≠ X + 2 by omega) hS3)
        have BX3 := hd (boxed_keepS BX7.out (show X < Y ∧ X ≠ X + 2 by omega) hS3)
        have BQ3 := hd (boxed_keepS BQ7.out (show X + 1 < Y ∧ X + 1 ≠ X + 2 by omega) hS3)
        have BF3 := hd (boxed_keepS BF7.out (show X + 2 + 1 < Y ∧ X + 2 + 1 ≠ X + 2 by omega) hS3)
        have JF3 := hd (JF7.out.keepS (fun g hg => by (have h1 := HLF.out g hg; have h2 := JF7.out.blk_ge g hg; show g < Y ∧ g ≠ X + 2; omega)) hS3)
        have HJ3 := hd (HJ7.out.keepS (fun g hg => by (cases hg; show w1.heap.size < Y ∧ w1.heap.size ≠ X + 2; omega)) hS3)
        have HKD3 : Hid (W3.heap[D]? = some (.deferred (some []))) := (hS3.block D (by show D < Y ∧ D ≠ X + 2; omega)).trans HKD7.out
        have HB3 : Hid (Below w.heap.size w W3) := HB7.out.trans (hS3.below (fun g hg => by show g < Y ∧ g ≠ X + 2; omega))
        clear hS3
        refine ⟨trivial, CallsIn.mono (callsIn_wide.2 (esame_is _ _ l l W3 JA3.out.isK (HI.out.below HB3.out))) ?_⟩
        rw [decide_eq_true rfl]
        rintro e w8 ⟨rfl, hw8⟩
        subst hw8
        have hMl : M ≤ l.length := by rw [HM.out]; omega
        have hMc := HI.out.cap
        have hMf : Mf = M := by rw [HMF.out, List.length_take]; omega
        rw [hMf] at BF3 JF3
        clear hMf
        have cF3 := BF3.out.cell
        have cS3 := BS3.out.cell
        have cM3 := BM3.out.cell
        have JFd : Hid (IsB w8.drew (.slice aF M cF) (l.take M)) := JF3.out.isK.below (Below.refl _ _).drew
        have HId : Hid (IsB w8.drew (.slice a M c) (l.take M)) := ((HI.out.below HB3.out).take M hMl).below (Below.refl _ _).drew
        gi_wp2
        rename_i K3 hK3
        have hmix : Try.prog.follows .mixedOrders = true := by kernel_rfl
        refine (fun (rest3 : Hid (K3 { tmps := f3b a aF aA l w w1 z c cF capA L X Y M m0, defers := [{ target := .collected D2, args := #[] }, { target := .collected D, args := #[] }] } w8.drew)) => ?main3b) ?h3b
        case h3b =>
          refine hK3 _ _ ?_
          clear hK3 hmix
          unfold f3b
          clear JFd HId cF3 cS3 cM3
          obtain ⟨w9, hw9⟩ : ∃ w9, w9 = w8.drew := ⟨_, rfl⟩
          rw [← hw9]
          have BM9 : Hid (Boxed w9 (X + 2) 3 (.int .i64 (M : Int))) := by rw [hw9]; exact BM3.out
          have BO9 : Hid (Boxed w9 (Y + 1 + 1) 4 (.bool true)) := by rw [hw9]; exact BO3.out
          have BS9 : Hid (Boxed w9 w.heap.size 22 (.slice a l.length c)) := by rw [hw9]; exact BS3.out
          have BR9 : Hid (Boxed w9 (w.heap.size + 1) 4 (.bool false)) := by rw [hw9]; exact BR3.out
          have BX9 : Hid (Boxed w9 X 22 (.slice (some ⟨w1.heap.size, 0, none⟩) L L)) := by rw [hw9]; exact BX3.out
          have BQ9 : Hid (Boxed w9 (X + 1) 41 (.func (.func 39) #[] #[.pointer (some ⟨X, 0, none⟩)])) := by rw [hw9]; exact BQ3.out
          have HJ9 : Hid (JK .u8 256 5 w9 w1.heap.size (.slice (some ⟨w1.heap.size, 0, none⟩) L L) (wr l)) := by rw [hw9]; exact HJ3.out.drew
          have HKD29 : Hid (w9.heap[D2]? = some (.deferred (some []))) := by rw [hw9]; exact HKD23.out
          have HKD9 : Hid (w9.heap[D]? = some (.deferred (some []))) := by rw [hw9]; exact HKD3.out
          have HB9 : Hid (Below w.heap.size w w9) := by rw [hw9]; exact HB3.out.drew
          have HS9 : Hid (w9.heap.size = W.heap.size) := by rw [hw9]; exact hs3
          have HI9 := hd (HI.out.below HB9.out)
          clear hw9 BM3 BO3 BS3 BR3 BX3 BQ3 BF3 JF3 HJ3 HKD23 HKD3 HB3 BA3 JA3 hs3
          have hqA : ∀ o1, (w9.alloc o1).cell? ⟨X + 1, 0, none⟩ = some (.func (.func 39) #[] #[.pointer (some ⟨X, 0, none⟩)]) := fun o1 => (BQ9.out.alloc o1).cell
          gi_wp2
          clear hqA
          obtain ⟨Z, hZ⟩ : ∃ Z, Z = w9.heap.size := ⟨_, rfl⟩
          obtain ⟨wz, hwz⟩ : ∃ wz, wz = w9.alloc (.cells #[.int .i64 0] 3) := ⟨_, rfl⟩
          rw [← hwz, ← hZ]
          have hs9 := HS9.out
          have hsz : wz.heap.size = Z + 1 := by rw [hwz, hZ]; simp
          have hbz : Below w9.heap.size w9 wz := by rw [hwz]; exact (Below.refl _ _).alloc (Nat.le_refl _) _
          have BNz : Hid (Boxed wz Z 3 (.int .i64 ((0 : Nat) : Int))) := by rw [hwz, hZ]; exact Boxed.new _ _ _
          have BMz := hd (boxed_below BM9.out BM9.out.lt hbz)
          have BOz := hd (boxed_below BO9.out BO9.out.lt hbz)
          have BSz := hd (boxed_below BS9.out BS9.out.lt hbz)
          have BRz := hd (boxed_below BR9.out BR9.out.lt hbz)
          have BXz := hd (boxed_below BX9.out BX9.out.lt hbz)
          have BQz := hd (boxed_below BQ9.out BQ9.out.lt hbz)
          have HJz := hd (HJ9.out.keepAll hbz)
          have HKD2z : Hid (wz.heap[D2]? = some (.deferred (some []))) := (hbz.block D2 (by omega)).trans HKD29.out
          have HKDz : Hid (wz.heap[D]? = some (.deferred (some []))) := (hbz.block D (by omega)).trans HKD9.out
          have HBz := hd (HB9.out.trans (hbz.mono HB9.out.size))
          have HIz := hd (HI9.out.below hbz)
          have hYZ : Y + 3 ≤ Z := by omega
          have hDZ : D < Z := by omega
          have hD2Z : D2 < Z := by omega
          clear hwz hbz BM9 BO9 BS9 BR9 BX9 BQ9 HJ9 HKD29 HKD9 HB9 HI9 hs9 HS9 hZ
          rename_i K4 hK4
          have hseq := each_stops 11 (by omega) 281474976702464 (fun g => g < Z) X _ (wr l) wz (by rw [← HL.out]; omega) (by show X < Z; omega) (by omega) BXz.out.cell (by have := (jk_jb.1 HJz.out).isB; exact this) (by
            intro b off cc _ e
            injection e with e1 e2 e3
            injection e1 with e1
            injection e1 with e1
            show b < Z
            omega)
          rw [HTL.out] at hseq
          refine wpIn_rangeFunc_ownH rfl (by omega) (gf := 39) (lb := #[.pointer (some ⟨X, 0, none⟩)]) rfl trivial (enters_of Try.func39 (by kernel_rfl) rfl) hseq keepS_t (keepS_b (fun g h => by have h' : g < Z := h; omega)) (Below.refl _ _) (fun _ => rfl)
            (fun (pre : List (PB 281474976702464)) (W : World) => byts pre <+: l ∧ NInv Z wz pre.length W)
            (fun _ (pre : List (PB 281474976702464)) _ => ¬ byts pre <+: l)
            (OwnFrom.and (ownFrom_pure _ _) (ownFrom_n (fun (pre : List (PB 281474976702464)) => pre.length) (by omega) (by omega)))
            (fun _ => ownFrom_pure _ _)
            ⟨List.nil_prefix, BNz.out, KeepS.refl _⟩
            (fun (x : PB 281474976702464) a' _ => a' = { tmps := #[Value.slice a l.length c, Value.int IntKind.i64 z, Value.pointer (some { block := w.heap.size, off := 0 }), undef, Value.pointer (some { block := w.heap.size + 1, off := 0 }), Value.bool true, Value.slice (some { block := w1.heap.size, off := 0 }) L L, Value.pointer (some { block := X + 1, off := 0 }), Value.pointer (some { block := X + 2, off := 0 }), Value.pointer (some { block := X + 2 + 1, off := 0 }), undef, undef, Value.pointer (some { block := Y, off := 0 }), Value.pointer (some { block := Y + 1, off := 0 }), Value.pointer (some { block := Y + 1 + 1, off := 0 }), undef, undef, Value.bool true, Value.bool true, Value.pointer (some { block := Z, off := 0 }), undef, Value.int IntKind.u8 (x.1.2 : Int), undef, undef, undef, Value.bool true, Value.slice a l.length c, Value.slice (some { block := w1.heap.size, off := 0 }) L L, Value.slice (some { block := w1.heap.size, off := 0 }) L L, Value.func (Fn.func 39) #[] #[Value.pointer (some { block := X, off := 0 })], Value.func (Fn.func 39) #[] #[Value.pointer (some { block := X, off := 0 })], Value.bool false, Value.int IntKind.i64 z, Value.slice a l.length c, Value.int IntKind.i64 ↑l.length, Value.int IntKind.i64 (↑l.length + 1), Value.int IntKind.i64 ↑m0, Value.int IntKind.i64 (1 + ↑m0), Value.func (Fn.func 39) #[] #[Value.pointer (some { block := X, off := 0 })], undef, undef, undef, undef, undef, undef, undef, undef, undef, undef, Value.func (Fn.func 39) #[] #[Value.pointer (some { block := X, off := 0 })], undef, undef, undef, undef, undef, undef, undef, undef, undef, undef, undef, undef, undef, undef, undef, undef, undef, undef, Value.int IntKind.i64 (1 + ↑m0), Value.slice a l.length c, Value.int IntKind.i64 ↑l.length, Value.bool (decide ((l.length : Int) < 1 + (m0 : Int))), undef, undef, Value.slice aA l.length capA, Value.slice a l.length c, Value.bool true, Value.slice aF M cF, Value.slice a l.length c, Value.int IntKind.i64 (M : Int), Value.slice a M c, Value.bool true, Value.func (Fn.func 39) #[] #[Value.pointer (some { block := X, off := 0 })], Value.int IntKind.i64 (x.1.1 : Int), Value.int IntKind.u8 (x.1.2 : Int), undef, undef, undef, undef, undef, undef, undef, undef, undef, undef, undef, undef, undef, undef, undef, undef, undef, undef, undef, undef, undef, undef, undef, undef, undef, undef, undef, undef, undef, undef, undef, undef, undef, undef, undef, undef, undef, undef, undef, undef, undef, undef, undef, undef, undef, undef, undef, undef, undef, undef, undef, undef, undef, undef], defers := [] })
            (fun _ _ _ _ _ _ hs _ _ => hs)
            ?assign4b ?body4b ?done4b ?stop4b
          case assign4b =>
            intro lk pre x W K hi hK
            gi_wp2
            exact hK _ _ (KeepsFrom.refl _ _) (KeepS.refl _) hi rfl
          case stop4b =>
            rintro D3 c2 pre W hD3 hp h hK
            exact (h (byts_pre l hp)).elim
          case done4b =>
            rintro D3 ys V hD3 hys ⟨hp4, bn, hS4⟩ hK3'
            have hyl : ys.length = l.length := by
              have := congrArg List.length hys
              rw [List.length_map, pl_len] at this
              exact this
            rw [hyl] at bn
            refine hK4 _ _ ?_
            clear hK4 hseq hp4 hys
            have hD3l : D3 < V.heap.size := (Array.getElem?_eq_some_iff.1 hK3').1
            have cn := bn.cell
            have co := (boxed_keepS BOz.out (show Y + 1 + 1 < Z by omega) hS4).cell
            have cs := (boxed_keepS BSz.out (show w.heap.size < Z by omega) hS4).cell
            have BRV := hd (boxed_keepS BRz.out (show w.heap.size + 1 < Z by omega) hS4)
            have cr := BRV.out.cell
            have fr := BRV.out.frozen
            have HKDV : Hid (V.heap[D]? = some (.deferred (some []))) := (hS4.block D (by show D < Z; omega)).trans HKDz.out
            have HKD2V : Hid (V.heap[D2]? = some (.deferred (some []))) := (hS4.block D2 (by show D2 < Z; omega)).trans HKD2z.out
            have HBV : Hid (Below w.heap.size w V) := HBz.out.trans (hS4.below (fun g hg => by show g < Z; omega))
            have HK3 := hd hK3'
            clear bn hS4 hK3'
            gi_wp2
            have h1 := (KeepsOthers.setCell V ⟨w.heap.size + 1, 0, none⟩ (.bool true)).same D3 _ HK3.out rfl
            have h2 := (KeepsOthers.setCell V ⟨w.heap.size + 1, 0, none⟩ (.bool true)).same D2 _ HKD2V.out rfl
            have h3 := (KeepsOthers.setCell V ⟨w.heap.size + 1, 0, none⟩ (.bool true)).same D _ HKDV.out rfl
            refine ⟨by simp, .inl ⟨_, _, rfl, run_takeDeferred h1, ?_⟩⟩
            have h22 := ((grownBy_putObj' (V.setCell ⟨w.heap.size + 1, 0, none⟩ (.bool true)) D3 (.deferred none)).block D2 (Array.getElem?_eq_some_iff.1 h2).1 (by intro e; injection e; omega)).trans h2
            have h32 := ((grownBy_putObj' (V.setCell ⟨w.heap.size + 1, 0, none⟩ (.bool true)) D3 (.deferred none)).block D (Array.getElem?_eq_some_iff.1 h3).1 (by intro e; injection e; omega)).trans h3
            refine ⟨by simp, .inl ⟨_, _, rfl, run_takeDeferred h22, ?_⟩⟩
            have h33 := ((grownBy_putObj' _ D2 (.deferred none)).block D (Array.getElem?_eq_some_iff.1 h32).1 (by intro e; injection e; omega)).trans h32
            refine ⟨by simp, .inl ⟨_, _, rfl, run_takeDeferred h33, ?_⟩⟩
            have c1 := cell_kept (BRV.out.set (.bool true)).cell (grownBy_putObj' _ D3 (.deferred none)) (fun r e => by cases e; exact ⟨_, h1, rfl⟩)
            have c2 := cell_kept c1 (grownBy_putObj' _ D2 (.deferred none)) (fun r e => by cases e; exact ⟨_, h22, rfl⟩)
            have c3 := cell_kept c2 (grownBy_putObj' _ D (.deferred none)) (fun r e => by cases e; exact ⟨_, h33, rfl⟩)
            refine ⟨.bool true, ?_, rfl, (((HBV.out.setCell (p := ⟨w.heap.size + 1, 0, none⟩) (by show w.heap.size ≤ w.heap.size + 1; omega) _).trans (belowK_b (w := w) (Nat.le_refl _) _ D3 _ _ (by omega) h1 rfl rfl)).trans (belowK_b (w := w) (Nat.le_refl _) _ D2 _ _ (by omega) h22 rfl rfl)).trans (belowK_b (w := w) (Nat.le_refl _) _ D _ _ (by omega) h33 rfl rfl)⟩
            simp [results, Try.f10, go_sem, c3]
          case body4b =>
            rintro lk pre ⟨⟨x1, x2⟩, hx1, hx2⟩ a' W4 hlk ⟨r, hr⟩ ⟨hp, bn, hS4⟩ rfl hlen
            have hx2' : x2 < 256 := hx2
            obtain ⟨k, hke⟩ : ∃ k, k = pre.length := ⟨_, rfl⟩
            rw [← hke] at bn
            have HLN : Hid ((pre ++ [(⟨(x1, x2), hx1, hx2⟩ : PB 281474976702464)]).length = k + 1) := by
              show (pre ++ [(⟨(x1, x2), hx1, hx2⟩ : PB 281474976702464)]).length = k + 1
              rw [List.length_append, List.length_singleton, hke]
            have HPC : Hid (byts (pre ++ [(⟨(x1, x2), hx1, hx2⟩ : PB 281474976702464)]) <+: l ↔ l[k]? = some x2) := by
              show byts (pre ++ [(⟨(x1, x2), hx1, hx2⟩ : PB 281474976702464)]) <+: l ↔ l[k]? = some x2
              rw [byts_snoc, hke, ← byts_len pre]; exact prefix_snoc hp
            have HBW : Hid (Below w.heap.size w W4) := HBz.out.trans (hS4.below (fun g hg => by show g < Z; omega))
            have HIW := hd (HI.out.below HBW.out)
            have hsW4 := hS4.size
            have BS4 := hd (boxed_keepS BSz.out (show w.heap.size < Z by omega) hS4)
            have BM4 := hd (boxed_keepS BMz.out (show X + 2 < Z by omega) hS4)
            have BQ4 := hd (boxed_keepS BQz.out (show X + 1 < Z by omega) hS4)
            have BR4 := hd (boxed_keepS BRz.out (show w.heap.size + 1 < Z by omega) hS4)
            have BN := hd bn
            have HS4 := hd hS4
            have HR := hd hr
            have cn := bn.cell
            have fn := bn.frozen
            have cs := BS4.out.cell
            have cr := BR4.out.cell
            have fr := BR4.out.frozen
            have hk63 : k < 9223372036854775807 := by
              have := hp.length_le
              rw [byts_len] at this
              omega
            clear bn hS4 hr hp hlen hke hseq hK4
            by_cases hkl : k < l.length
            · obtain ⟨b, off, rfl⟩ := HIW.out.base (by omega)
              obtain ⟨y, hy⟩ : ∃ y, y = l.getD k 0 := ⟨_, rfl⟩
              have cy : W4.cell? ⟨b, off + k, none⟩ = some (.int .u8 (y : Int)) := by rw [hy]; exact HIW.out.row k hkl
              have HY : Hid (l[k]? = some y) := by
                show l[k]? = some y
                rw [hy, List.getD_eq_getElem?_getD, List.getElem?_eq_getElem hkl]; rfl
              clear hy
              by_cases hxy : x2 = y
              · have HPR : Hid (byts (pre ++ [(⟨(x1, x2), hx1, hx2⟩ : PB 281474976702464)]) <+: l) := HPC.out.2 (by rw [HY.out, hxy])
                subst hxy
                have cn2 : ∀ v, (W4.setCell ⟨Z, 0, none⟩ v).cell? ⟨Z, 0, none⟩ = some v := fun v => (BN.out.set v).cell
                have cm2 : ∀ v, (W4.setCell ⟨Z, 0, none⟩ v).cell? ⟨X + 2, 0, none⟩ = some (.int .i64 (M : Int)) := fun v => (BM4.out.other (by omega) v).cell
                by_cases hkM : k + 1 = M
                · have hq : (((k : Int) + 1) != (M : Int)) = false := by simp; omega
                  have cq2 : ∀ v o, ((W4.setCell ⟨Z, 0, none⟩ v).alloc o).cell? ⟨X + 1, 0, none⟩ = some (.func (.func 39) #[] #[.pointer (some ⟨X, 0, none⟩)]) := fun v o => ((BQ4.out.other (by omega) v).alloc o).cell
                  have HKM := hd hkM
                  clear hkM
                  gi_wp2
                  rename_i K5 hK5
                  obtain ⟨Zb, hZb⟩ : ∃ Zb, Zb = W4.heap.size := ⟨_, rfl⟩
                  obtain ⟨V0, hV0⟩ : ∃ V0, V0 = (W4.setCell ⟨Z, 0, none⟩ (.int .i64 ((k : Int) + 1))).alloc (.cells #[.int .i64 0] 3) := ⟨_, rfl⟩
                  rw [← hV0, ← hZb]
                  have hsc : (W4.setCell ⟨Z, 0, none⟩ (.int .i64 ((k : Int) + 1))).heap.size = W4.heap.size := by simp [World.setCell]
                  have hsV : V0.heap.size = Zb + 1 := by rw [hV0, hZb, World.size_alloc, hsc]
                  have hZlt : Z < Zb := by rw [hZb]; exact BN.out.lt
                  have hSV : KeepS (fun g => g < Z) W4 V0 := by
                    rw [hV0]
                    exact ((KeepS.refl W4).setCell (p := ⟨Z, 0, none⟩) (fun h => by have h' : Z < Z := h; omega) _).alloc (fun g h => by have h' : g < Z := h; rw [hsc]; omega) _
                  have BKV : Hid (Boxed V0 Zb 3 (.int .i64 ((0 : Nat) : Int))) := by
                    have := Boxed.new (W4.setCell ⟨Z, 0, none⟩ (.int .i64 ((k : Int) + 1))) 3 (.int .i64 0)
                    rw [hsc, ← hZb, ← hV0] at this
                    exact this
                  have BNV : Hid (Boxed V0 Z 3 (.int .i64 ((k + 1 : Nat) : Int))) := by rw [hV0]; exact (BN.out.set _).alloc _
                  have HSZ : Hid (KeepS (fun g => g < Z) wz V0) := HS4.out.trans hSV
                  have BSV := hd (boxed_keepS BS4.out (show w.heap.size < Z by omega) hSV)
                  have BRV := hd (boxed_keepS BR4.out (show w.heap.size + 1 < Z by omega) hSV)
                  have BXV := hd (boxed_keepS BXz.out (show X < Z by omega) HSZ.out)
                  have HJV := hd (HJz.out.keepS (fun g hg => by (cases hg; show w1.heap.size < Z; omega)) HSZ.out)
                  have HRV : Hid (V0.heap[lk]? = some (.loop r)) := by
                    rw [hV0]
                    exact (Below.heap_alloc _ _ lk (by rw [hsc]; exact (Array.getElem?_eq_some_iff.1 HR.out).1)).trans ((KeepsOthers.setCell W4 ⟨Z, 0, none⟩ _).same lk _ HR.out rfl)
                  have HKF : Hid (KeepsOthers W4 V0) := by rw [hV0]; exact (KeepsOthers.setCell _ _ _).trans (KeepsOthers.alloc _ _)
                  have HBV : Hid (Below w.heap.size w V0) := HBz.out.trans (HSZ.out.below (fun g hg => by show g < Z; omega))
                  have HWZ : Hid (W4.heap.size ≤ Zb) := by rw [hZb]; exact Nat.le_refl _
                  have HSV := hd hSV
                  clear hV0 hZb hsc hSV cn fn cs cr fr cy cn2 cm2 cq2 hq
                  have hseq5 := (each_stops 9 (by omega) 281474976702464 (fun g => g < Zb) X _ (wr l) V0 (by rw [← HL.out]; omega) (by show X < Zb; omega) (by omega) BXV.out.cell (by have := (jk_jb.1 HJV.out).isB; exact this) (by
                    intro b off cc _ e
                    injection e with e1 e2 e3
                    injection e1 with e1
                    injection e1 with e1
                    show b < Zb
                    omega)).inRound lk
                  rw [HTL.out] at hseq5
                  refine wpIn_rangeFunc_ownN (l₀ := lk) (r₀ := r) rfl HRV.out (by omega) (gf := 39) (lb := #[.pointer (some ⟨X, 0, none⟩)]) rfl trivial (enters_of Try.func39 (by kernel_rfl) rfl) hseq5 keepS_t (keepS_b (fun g h => by have h' : g < Zb := h; omega)) (Below.refl _ _) (fun _ => rfl)
                    (fun (pre : List (PB 281474976702464)) (W : World) => byts pre <+: l ∧ NInv Zb V0 pre.length W)
                    (fun _ (pre : List (PB 281474976702464)) _ => ¬ byts pre <+: l)
                    (OwnFrom.and (ownFrom_pure _ _) (ownFrom_n (fun (pre : List (PB 281474976702464)) => pre.length) (by omega) (by omega)))
                    (fun _ => ownFrom_pure _ _)
                    ⟨List.nil_prefix, BKV.out, KeepS.refl _⟩
                    (fun (x : PB 281474976702464) a' _ => a' = { tmps := #[Value.slice (some { block := b, off := off }) l.length c, Value.int IntKind.i64 z, Value.pointer (some { block := w.heap.size, off := 0 }), undef, Value.pointer (some { block := w.heap.size + 1, off := 0 }), Value.bool true, Value.slice (some { block := w1.heap.size, off := 0 }) L L, Value.pointer (some { block := X + 1, off := 0 }), Value.pointer (some { block := X + 2, off := 0 }), Value.pointer (some { block := X + 2 + 1, off := 0 }), undef, undef, Value.pointer (some { block := Y, off := 0 }), Value.pointer (some { block := Y + 1, off := 0 }), Value.pointer (some { block := Y + 1 + 1, off := 0 }), undef, undef, Value.bool true, Value.bool true, Value.pointer (some { block := Z, off := 0 }), undef, Value.int IntKind.u8 ↑x2, Value.pointer (some { block := Zb, off := 0 }), undef, Value.int IntKind.u8 (x.1.2 : Int), Value.bool true, Value.slice (some { block := b, off := off }) l.length c, Value.slice (some { block := w1.heap.size, off := 0 }) L L, Value.slice (some { block := w1.heap.size, off := 0 }) L L, Value.func (Fn.func 39) #[] #[Value.pointer (some { block := X, off := 0 })], Value.func (Fn.func 39) #[] #[Value.pointer (some { block := X, off := 0 })], Value.bool false, Value.int IntKind.i64 z, Value.slice (some { block := b, off := off }) l.length c, Value.int IntKind.i64 ↑l.length, Value.int IntKind.i64 (↑l.length + 1), Value.int IntKind.i64 ↑m0, Value.int IntKind.i64 (1 + ↑m0), Value.func (Fn.func 39) #[] #[Value.pointer (some { block := X, off := 0 })], undef, undef, undef, undef, undef, undef, undef, undef, undef, undef, Value.func (Fn.func 39) #[] #[Value.pointer (some { block := X, off := 0 })], undef, undef, undef, undef, undef, undef, undef, undef, undef, undef, undef, undef, undef, undef, undef, undef, undef, undef, Value.int IntKind.i64 (1 + ↑m0), Value.slice (some { block := b, off := off }) l.length c, Value.int IntKind.i64 ↑l.length, Value.bool (decide ((l.length : Int) < 1 + (m0 : Int))), undef, undef, Value.slice aA l.length capA, Value.slice (some { block := b, off := off }) l.length c, Value.bool true, Value.slice aF M cF, Value.slice (some { block := b, off := off }) l.length c, Value.int IntKind.i64 ↑M, Value.slice (some { block := b, off := off }) M c, Value.bool true, Value.func (Fn.func 39) #[] #[Value.pointer (some { block := X, off := 0 })], Value.int IntKind.i64 ↑x1, Value.int IntKind.u8 ↑x2, Value.int IntKind.i64 ↑k, Value.slice (some { block := b, off := off }) l.length c, Value.int IntKind.i64 ↑l.length, Value.bool false, Value.bool false, Value.int IntKind.u8 ↑x2, Value.slice (some { block := b, off := off }) l.length c, Value.int IntKind.i64 ↑k, Value.pointer (some { block := b, off := off + k }), Value.int IntKind.u8 ↑x2, Value.bool false, Value.bool false, Value.int IntKind.i64 ↑k, Value.int IntKind.i64 (↑k + 1), Value.int IntKind.i64 (↑k + 1), Value.int IntKind.i64 ↑M, Value.bool false, Value.func (Fn.func 39) #[] #[Value.pointer (some { block := X, off := 0 })], Value.int IntKind.i64 (x.1.1 : Int), Value.int IntKind.u8 (x.1.2 : Int), undef, undef, undef, undef, undef, undef, undef, undef, undef, undef, undef, undef, undef, undef, undef, undef, undef, undef, undef, undef, undef, undef, undef, undef, undef, undef, undef, undef, undef, undef, undef, undef, undef, undef], defers := [] })
                    (fun _ _ _ _ _ _ hs _ _ => hs)
                    ?assign5b ?body5b ?done5b ?stop5b
                  case assign5b =>
                    intro lk5 pre5 x W K hi hK
                    gi_wp2
                    exact hK _ _ (KeepsFrom.refl _ _) (KeepS.refl _) hi rfl
                  case stop5b =>
                    rintro c5 pre5 V hp5 h
                    exact (h (byts_pre l hp5)).elim
                  case done5b =>
                    rintro ys V hys ⟨hp5, bk, hS5⟩
                    have hyl : ys.length = l.length := by
                      have := congrArg List.length hys
                      rw [List.length_map, pl_len] at this
                      exact this
                    rw [hyl] at bk
                    refine hK5 _ _ ?_
                    clear hK5 hseq5 hp5 hys
                    have ck := bk.cell
                    have cs5 := (boxed_keepS BSV.out (show w.heap.size < Zb by omega) hS5).cell
                    have HS5 := hd hS5
                    have HS5Z : Hid (KeepS (fun g => g < Z) V0 V) := ⟨hS5.os, hS5.tape, hS5.output, hS5.size, fun g hg => hS5.block g (by have h' : g < Z := hg; show g < Zb; omega)⟩
                    clear bk hS5
                    gi_wp2
                    exact ⟨(keeps_of HKF.out HWZ.out HS5.out).from _, HSV.out.trans HS5Z.out, HPR.out, by rw [HLN.out]; exact boxed_keepS BNV.out (show Z < Zb by omega) HS5.out, HSZ.out.trans HS5Z.out⟩
                  case body5b =>
                    rintro lk5 pre5 ⟨⟨u1, u2⟩, hu1, hu2⟩ a' V hlk5 _ ⟨hp5, bk, hS5⟩ rfl hlen5
                    have hu2' : u2 < 256 := hu2
                    obtain ⟨k5, hke5⟩ : ∃ k5, k5 = pre5.length := ⟨_, rfl⟩
                    rw [← hke5] at bk
                    have HLN5 : Hid ((pre5 ++ [(⟨(u1, u2), hu1, hu2⟩ : PB 281474976702464)]).length = k5 + 1) := by
                      show (pre5 ++ [(⟨(u1, u2), hu1, hu2⟩ : PB 281474976702464)]).length = k5 + 1
                      rw [List.length_append, List.length_singleton, hke5]
                    have HPC5 : Hid (byts (pre5 ++ [(⟨(u1, u2), hu1, hu2⟩ : PB 281474976702464)]) <+: l ↔ l[k5]? = some u2) := by
                      show byts (pre5 ++ [(⟨(u1, u2), hu1, hu2⟩ : PB 281474976702464)]) <+: l ↔ l[k5]? = some u2
                      rw [byts_snoc, hke5, ← byts_len pre5]; exact prefix_snoc hp5
                    have HIV := hd (HI.out.below (HBV.out.trans (hS5.below (fun g hg => by show g < Zb; omega))))
                    have BS5 := hd (boxed_keepS BSV.out (show w.heap.size < Zb by omega) hS5)
                    have BR5 := hd (boxed_keepS BRV.out (show w.heap.size + 1 < Zb by omega) hS5)
                    have BK5 := hd bk
                    have HS5 := hd hS5
                    have ck5 := bk.cell
                    have fk5 := bk.frozen
                    have cs5 := BS5.out.cell
                    have cr5 := BR5.out.cell
                    have fr5 := BR5.out.frozen
                    have hk563 : k5 < 9223372036854775807 := by
                      have := hp5.length_le
                      rw [byts_len] at this
                      omega
                    clear bk hS5 hp5 hlen5 hke5 hseq5 hK5
                    by_cases hkl5 : k5 < l.length
                    · obtain ⟨y5, hy5⟩ : ∃ y5, y5 = l.getD k5 0 := ⟨_, rfl⟩
                      have cy5 : V.cell? ⟨b, off + k5, none⟩ = some (.int .u8 (y5 : Int)) := by rw [hy5]; exact HIV.out.row k5 hkl5
                      have HY5 : Hid (l[k5]? = some y5) := by
                        show l[k5]? = some y5
                        rw [hy5, List.getD_eq_getElem?_getD, List.getElem?_eq_getElem hkl5]; rfl
                      clear hy5
                      by_cases hxy5 : u2 = y5
                      · have HPR5 : Hid (byts (pre5 ++ [(⟨(u1, u2), hu1, hu2⟩ : PB 281474976702464)]) <+: l) := HPC5.out.2 (by rw [HY5.out, hxy5])
                        subst hxy5
                        gi_wp2
                        exact ⟨(KeepsOthers.setCell _ _ _).from _, (KeepS.refl V).setCell (p := ⟨Zb, 0, none⟩) (fun h => by have h' : Zb < Zb := h; omega) _, HPR5.out, by rw [HLN5.out]; exact BK5.out.set _, HS5.out.setCell (p := ⟨Zb, 0, none⟩) (fun h => by have h' : Zb < Zb := h; omega) _⟩
                      · have hix5 : ¬ byts (pre5 ++ [(⟨(u1, u2), hu1, hu2⟩ : PB 281474976702464)]) <+: l := by rw [HPC5.out, HY5.out]; intro e; injection e with e; omega
                        have hne5 : ((u2 : Int) != (y5 : Int)) = true := by simp; omega
                        have HIX5 := hd hix5
                        clear hix5 hxy5
                        gi_wp2
                        exact ⟨(KeepsOthers.setCell _ _ _).from _, HIX5.out⟩
                    · have hix5 : ¬ byts (pre5 ++ [(⟨(u1, u2), hu1, hu2⟩ : PB 281474976702464)]) <+: l := by
                        intro h
                        have := h.length_le
                        rw [byts_len, HLN5.out] at this
                        omega
                      have hle5 : l.length ≤ k5 := by omega
                      have HIX5 := hd hix5
                      clear hix5 hkl5
                      gi_wp2
                      exact ⟨(KeepsOthers.setCell _ _ _).from _, HIX5.out⟩
                · have hq : (((k : Int) + 1) != (M : Int)) = true := by simp; omega
                  have HKM := hd hkM
                  clear hkM
                  gi_wp2
                  exact ⟨(KeepsOthers.setCell _ _ _).from _, (KeepS.refl W4).setCell (p := ⟨Z, 0, none⟩) (fun h => by have h' : Z < Z := h; omega) _, HPR.out, by rw [HLN.out]; exact BN.out.set _, HS4.out.setCell (p := ⟨Z, 0, none⟩) (fun h => by have h' : Z < Z := h; omega) _⟩
              · have hix : ¬ byts (pre ++ [(⟨(x1, x2), hx1, hx2⟩ : PB 281474976702464)]) <+: l := by rw [HPC.out, HY.out]; intro e; injection e with e; omega
                have hne : ((x2 : Int) != (y : Int)) = true := by simp; omega
                have HIX := hd hix
                clear hix hxy
                gi_wp2
                exact ⟨(KeepsOthers.setCell _ _ _).from _, HIX.out⟩
            · have hix : ¬ byts (pre ++ [(⟨(x1, x2), hx1, hx2⟩ : PB 281474976702464)]) <+: l := by
                intro h
                have := h.length_le
                rw [byts_len, HLN.out] at this
                omega
              have hle : l.length ≤ k := by omega
              have HIX := hd hix
              clear hix hkl
              gi_wp2
              exact ⟨(KeepsOthers.setCell _ _ _).from _, HIX.out⟩
        clear hK3
        gi_region_with_o (refine ⟨trivial, ?_⟩; gi_at_call 24; refine CallsIn.mono (callsIn_wide.2 (esame_is _ _ (l.take M) (l.take M) _ JFd.out HId.out)) ?_; rw [decide_eq_true rfl]; rintro e w9 ⟨rfl, rfl⟩)
        all_goals exact rest3.out
    clear hK2
    have hseq := each_stops 11 (by omega) 281474976702464 (fun g => g < Y) X _ (wr l) w7 (by rw [← HL.out]; omega) (by show X < Y; omega) (by omega) BX7.out.cell (by have := (jk_jb.1 HJ7.out).isB; exact this) (by
      intro b off cc _ e
      injection e with e1 e2 e3
      injection e1 with e1
      injection e1 with e1
      show b < Y
      omega)
    rw [HTL.out] at hseq
    refine wpIn_rangeFunc_ownF rfl (by omega) (gf := 39) (lb := #[.pointer (some ⟨X, 0, none⟩)]) rfl trivial (enters_of Try.func39 (by kernel_rfl) rfl) hseq keepS_t (keepS_b (fun g h => by have h' : g < Y := h; omega)) (Below.refl _ _) (fun _ => rfl)
      (fun (pre : List (PB 281474976702464)) (W : World) => pre.length ≤ l.length ∧ AllInv Y w7 (pre.map Subtype.val) W)
      (fun _ (pre : List (PB 281474976702464)) _ => l.length < pre.length)
      (OwnFrom.and (ownFrom_pure _ _) (ownFrom_all (fun (pre : List (PB 281474976702464)) => pre.map Subtype.val) (by omega) (by omega)))
      (fun _ => ownFrom_pure _ _)
      ⟨by show (0 : Nat) ≤ l.length; omega, ⟨_, BA7.out, jk_nil _ _⟩, BL7.out, BO7.out, KeepS.refl _⟩
      (fun x => { tmps := #[Value.slice a l.length c, Value.int IntKind.i64 z, Value.pointer (some { block := w.heap.size, off := 0 }), undef, Value.pointer (some { block := w.heap.size + 1, off := 0 }), Value.bool true, Value.slice (some { block := w1.heap.size, off := 0 }) L L, Value.pointer (some { block := X + 1, off := 0 }), Value.pointer (some { block := X + 2, off := 0 }), Value.pointer (some { block := X + 2 + 1, off := 0 }), undef, undef, Value.pointer (some { block := Y, off := 0 }), Value.pointer (some { block := Y + 1, off := 0 }), Value.pointer (some { block := Y + 1 + 1, off := 0 }), Value.int IntKind.i64 (x.1.1 : Int), Value.int IntKind.u8 (x.1.2 : Int), undef, undef, undef, undef, undef, undef, undef, undef, Value.bool true, Value.slice a l.length c, Value.slice (some { block := w1.heap.size, off := 0 }) L L, Value.slice (some { block := w1.heap.size, off := 0 }) L L, Value.func (Fn.func 39) #[] #[Value.pointer (some { block := X, off := 0 })], Value.func (Fn.func 39) #[] #[Value.pointer (some { block := X, off := 0 })], Value.bool false, Value.int IntKind.i64 z, Value.slice a l.length c, Value.int IntKind.i64 ↑l.length, Value.int IntKind.i64 (↑l.length + 1), Value.int IntKind.i64 ↑m0, Value.int IntKind.i64 (1 + ↑m0), Value.func (Fn.func 39) #[] #[Value.pointer (some { block := X, off := 0 })], undef, undef, undef, undef, undef, undef, undef, undef, undef, undef, Value.func (Fn.func 39) #[] #[Value.pointer (some { block := X, off := 0 })], Value.int IntKind.i64 (x.1.1 : Int), Value.int IntKind.u8 (x.1.2 : Int), undef, undef, undef, undef, undef, undef, undef, undef, undef, undef, undef, undef, undef, undef, undef, undef, undef, undef, undef, undef, undef, undef, undef, undef, undef, undef, undef, undef, undef, undef, undef, undef, undef, undef, undef, undef, undef, undef, undef, undef, undef, undef, undef, undef, undef, undef, undef, undef, undef, undef, undef, undef, undef, undef, undef, undef, undef, undef, undef, undef, undef, undef, undef, undef, undef, undef, undef, undef, undef, undef, undef, undef, undef, undef, undef, undef, undef, undef, undef, undef, undef, undef, undef, undef, undef, undef, undef], defers := [] }) ?assign2 ?body2 ?done2 ?stop2
    case assign2 =>
      intro lk x W K hK
      gi_wp2
      exact hK
    case body2 =>
      rintro lk pre ⟨⟨x1, x2⟩, hx1, hx2⟩ W ⟨hpl, ⟨⟨vA, ba, ja⟩, bl, bo, hS⟩⟩ hlen
      have hx2' : x2 < 256 := hx2
      have hx1' : x1 ≤ 281474976702464 := hx1
      obtain ⟨P, hP⟩ : ∃ P, P = pre.map Subtype.val := ⟨_, rfl⟩
      rw [← hP] at ja bl bo
      obtain ⟨T, hT⟩ : ∃ T, T = P.map Prod.snd := ⟨_, rfl⟩
      have HTE := hd hT
      obtain ⟨k, hke⟩ : ∃ k, k = pre.length := ⟨_, rfl⟩
      have hTl : T.length = k := by rw [hke, hT, List.length_map, hP, List.length_map]
      rw [← hT] at ja
      obtain ⟨aA, cA, eA, hcA⟩ := ja.shape
      rw [hTl] at eA hcA
      subst eA
      obtain ⟨q, hq⟩ : ∃ q, q = (st P).2 := ⟨_, rfl⟩
      obtain ⟨b, hb⟩ : ∃ b, b = (st P).1 := ⟨_, rfl⟩
      rw [← hq] at bl
      rw [← hb] at bo
      have HST : Hid (st (P ++ [(x1, x2)]) = (b && decide (q < (x1 : Int)), (x1 : Int))) := by
        show st (P ++ [(x1, x2)]) = _
        rw [st_snoc, hq, hb]
      have BA := hd ba
      have JA := hd ja
      have BL := hd bl
      have BO := hd bo
      have HS := hd hS
      have ca := ba.cell
      have cl := bl.cell
      have fl := bl.frozen
      have co := bo.cell
      have fo := bo.frozen
      have clS : ∀ v, (W.setCell ⟨Y + 1 + 1, 0, none⟩ v).cell? ⟨Y + 1, 0, none⟩ = some (.int .i64 q) := fun v => (bl.other (by omega) v).cell
      have flS : ∀ v, (W.setCell ⟨Y + 1 + 1, 0, none⟩ v).frozen? ⟨Y + 1, 0, none⟩ = false := fun v => (bl.other (by omega) v).frozen
      have HK := hd hke
      have hsW := hS.size
      rw [← hke] at hpl
      have hTF : Hid ((pre ++ [(⟨(x1, x2), hx1, hx2⟩ : PB 281474976702464)]).map Subtype.val = P ++ [(x1, x2)]) := by
        show (pre ++ [(⟨(x1, x2), hx1, hx2⟩ : PB 281474976702464)]).map Subtype.val = P ++ [(x1, x2)]
        rw [List.map_append, hP]; rfl
      have hTK : Hid ((pre ++ [(⟨(x1, x2), hx1, hx2⟩ : PB 281474976702464)]).length = k + 1) := by
        show (pre ++ [(⟨(x1, x2), hx1, hx2⟩ : PB 281474976702464)]).length = k + 1
        rw [List.length_append, List.length_singleton, hke]
      have HFI : Hid (∀ W', (∃ vA, Boxed W' Y 22 vA ∧ JK .u8 256 5 W' (Y + 3) vA (T ++ [x2])) ∧ Boxed W' (Y + 1) 3 (.int .i64 (x1 : Int)) ∧ Boxed W' (Y + 1 + 1) 4 (.bool (b && decide (q < (x1 : Int)))) ∧ KeepS (fun g => g < Y) w7 W' → AllInv Y w7 (P ++ [(x1, x2)]) W') := by
        intro W' h
        unfold AllInv
        rw [HST.out, List.map_append, ← HTE.out]
        exact h
      clear ba ja bl bo hS hT hke hlen hP hq hb
      cases b with
      | false =>
        rw [Bool.false_and] at HFI
        have BAs : Boxed ((W.setCell ⟨Y + 1 + 1, 0, none⟩ (.bool false)).setCell ⟨Y + 1, 0, none⟩ (.int .i64 (x1 : Int))) Y 22 (.slice aA k cA) := (BA.out.other (by omega) _).other (by omega) _
        have BSs : Boxed ((W.setCell ⟨Y + 1 + 1, 0, none⟩ (.bool false)).setCell ⟨Y + 1, 0, none⟩ (.int .i64 (x1 : Int))) w.heap.size 22 (.slice a l.length c) := ((boxed_keepS BS7.out (show w.heap.size < Y by omega) HS.out).other (by omega) _).other (by omega) _
        have BRs : Boxed ((W.setCell ⟨Y + 1 + 1, 0, none⟩ (.bool false)).setCell ⟨Y + 1, 0, none⟩ (.int .i64 (x1 : Int))) (w.heap.size + 1) 4 (.bool false) := ((boxed_keepS BR7.out (show w.heap.size + 1 < Y by omega) HS.out).other (by omega) _).other (by omega) _
        have JAs : JK .u8 256 5 ((W.setCell ⟨Y + 1 + 1, 0, none⟩ (.bool false)).setCell ⟨Y + 1, 0, none⟩ (.int .i64 (x1 : Int))) (Y + 3) (.slice aA k cA) T := (JA.out.setO (p := ⟨Y + 1 + 1, 0, none⟩) (fun g hg => by have := JA.out.blk_ge g hg; show g ≠ Y + 1 + 1; omega) _).setO (p := ⟨Y + 1, 0, none⟩) (fun g hg => by have := JA.out.blk_ge g hg; show g ≠ Y + 1; omega) _
        have caS := BAs.cell
        have faS := BAs.frozen
        by_cases hkl : k + 1 ≤ l.length
        · gi_wp2_with (gi_at_builtin; refine wpListIn_append_jk Try.underlying22 info_u8 _ rfl _ _ rfl (Y + 3) (.slice aA k cA) (.slice (some ⟨W.heap.size, 0, none⟩) 1 1) T [x2] rfl rfl (JAs.keepAll ((Below.refl _ _).alloc (Nat.le_refl _) _)) (lit_isK_at .u8 256 _ #[.int .u8 (x2 : Int)] 5 [x2] 1 W.heap.size (by simp [World.setCell]) rfl rfl (by simpa using hx2') (by simp [maxLen])) (k + 1) (by rw [hTl]; rfl) (T ++ [x2]) rfl (by omega) (by omega) (by simp [World.setCell]; omega) ?_; intro aA2 cA2 w2 ja2 hg2 hk2 hc2; have ba2 := box_row BAs JAs hg2 (by decide); have ca2 := ba2.cell; have fa2 := ba2.frozen; have cs2 : (w2.setCell ⟨Y, 0, none⟩ (.slice aA2 (k + 1) cA2)).cell? ⟨w.heap.size, 0, none⟩ = some (.slice a l.length c) := ((box_row BSs JAs hg2 (by decide)).other (by omega) _).cell; have br2 := (box_row BRs JAs hg2 (by decide)).other (B' := Y) (by omega) (.slice aA2 (k + 1) cA2); have cr2 := br2.cell; have fr2 := br2.frozen)
          have hfin := all_step (w7 := w7) (x1 := x1) (b := false) (vA2 := .slice aA2 (k + 1) cA2) (by omega) BA.out JA.out BL.out BO.out HS.out ja2 hg2
          obtain ⟨f1, f2, f3⟩ := hfin
          exact ⟨f1, f2, by rw [hTK.out]; exact hkl, by rw [hTF.out]; exact HFI.out _ f3⟩
        · have hkl2 : l.length < k + 1 := by omega
          gi_wp2_with (gi_at_builtin; refine wpListIn_append_jk Try.underlying22 info_u8 _ rfl _ _ rfl (Y + 3) (.slice aA k cA) (.slice (some ⟨W.heap.size, 0, none⟩) 1 1) T [x2] rfl rfl (JAs.keepAll ((Below.refl _ _).alloc (Nat.le_refl _) _)) (lit_isK_at .u8 256 _ #[.int .u8 (x2 : Int)] 5 [x2] 1 W.heap.size (by simp [World.setCell]) rfl rfl (by simpa using hx2') (by simp [maxLen])) (k + 1) (by rw [hTl]; rfl) (T ++ [x2]) rfl (by omega) (by omega) (by simp [World.setCell]; omega) ?_; intro aA2 cA2 w2 ja2 hg2 hk2 hc2; have ba2 := box_row BAs JAs hg2 (by decide); have ca2 := ba2.cell; have fa2 := ba2.frozen; have cs2 : (w2.setCell ⟨Y, 0, none⟩ (.slice aA2 (k + 1) cA2)).cell? ⟨w.heap.size, 0, none⟩ = some (.slice a l.length c) := ((box_row BSs JAs hg2 (by decide)).other (by omega) _).cell; have br2 := (box_row BRs JAs hg2 (by decide)).other (B' := Y) (by omega) (.slice aA2 (k + 1) cA2); have cr2 := br2.cell; have fr2 := br2.frozen)
          have hfin := all_step (w7 := w7) (x1 := x1) (b := false) (vA2 := .slice aA2 (k + 1) cA2) (by omega) BA.out JA.out BL.out BO.out HS.out ja2 hg2
          exact ⟨hfin.1.trans (KeepsOthers.setCell _ _ _), by show l.length < (pre ++ [(⟨(x1, x2), hx1, hx2⟩ : PB 281474976702464)]).length; rw [hTK.out]; exact hkl2⟩
      | true =>
        rw [Bool.true_and] at HFI
        by_cases hqx : q < (x1 : Int)
        · rw [decide_eq_true hqx] at HFI
          have BAs : Boxed ((W.setCell ⟨Y + 1 + 1, 0, none⟩ (.bool true)).setCell ⟨Y + 1, 0, none⟩ (.int .i64 (x1 : Int))) Y 22 (.slice aA k cA) := (BA.out.other (by omega) _).other (by omega) _
          have BSs : Boxed ((W.setCell ⟨Y + 1 + 1, 0, none⟩ (.bool true)).setCell ⟨Y + 1, 0, none⟩ (.int .i64 (x1 : Int))) w.heap.size 22 (.slice a l.length c) := ((boxed_keepS BS7.out (show w.heap.size < Y by omega) HS.out).other (by omega) _).other (by omega) _
          have BRs : Boxed ((W.setCell ⟨Y + 1 + 1, 0, none⟩ (.bool true)).setCell ⟨Y + 1, 0, none⟩ (.int .i64 (x1 : Int))) (w.heap.size + 1) 4 (.bool false) := ((boxed_keepS BR7.out (show w.heap.size + 1 < Y by omega) HS.out).other (by omega) _).other (by omega) _
          have JAs : JK .u8 256 5 ((W.setCell ⟨Y + 1 + 1, 0, none⟩ (.bool true)).setCell ⟨Y + 1, 0, none⟩ (.int .i64 (x1 : Int))) (Y + 3) (.slice aA k cA) T := (JA.out.setO (p := ⟨Y + 1 + 1, 0, none⟩) (fun g hg => by have := JA.out.blk_ge g hg; show g ≠ Y + 1 + 1; omega) _).setO (p := ⟨Y + 1, 0, none⟩) (fun g hg => by have := JA.out.blk_ge g hg; show g ≠ Y + 1; omega) _
          have caS := BAs.cell
          have faS := BAs.frozen
          by_cases hkl : k + 1 ≤ l.length
          · gi_wp2_with (gi_at_builtin; refine wpListIn_append_jk Try.underlying22 info_u8 _ rfl _ _ rfl (Y + 3) (.slice aA k cA) (.slice (some ⟨W.heap.size, 0, none⟩) 1 1) T [x2] rfl rfl (JAs.keepAll ((Below.refl _ _).alloc (Nat.le_refl _) _)) (lit_isK_at .u8 256 _ #[.int .u8 (x2 : Int)] 5 [x2] 1 W.heap.size (by simp [World.setCell]) rfl rfl (by simpa using hx2') (by simp [maxLen])) (k + 1) (by rw [hTl]; rfl) (T ++ [x2]) rfl (by omega) (by omega) (by simp [World.setCell]; omega) ?_; intro aA2 cA2 w2 ja2 hg2 hk2 hc2; have ba2 := box_row BAs JAs hg2 (by decide); have ca2 := ba2.cell; have fa2 := ba2.frozen; have cs2 : (w2.setCell ⟨Y, 0, none⟩ (.slice aA2 (k + 1) cA2)).cell? ⟨w.heap.size, 0, none⟩ = some (.slice a l.length c) := ((box_row BSs JAs hg2 (by decide)).other (by omega) _).cell; have br2 := (box_row BRs JAs hg2 (by decide)).other (B' := Y) (by omega) (.slice aA2 (k + 1) cA2); have cr2 := br2.cell; have fr2 := br2.frozen)
            have hfin := all_step (w7 := w7) (x1 := x1) (b := true) (vA2 := .slice aA2 (k + 1) cA2) (by omega) BA.out JA.out BL.out BO.out HS.out ja2 hg2
            obtain ⟨f1, f2, f3⟩ := hfin
            exact ⟨f1, f2, by rw [hTK.out]; exact hkl, by rw [hTF.out]; exact HFI.out _ f3⟩
          · have hkl2 : l.length < k + 1 := by omega
            gi_wp2_with (gi_at_builtin; refine wpListIn_append_jk Try.underlying22 info_u8 _ rfl _ _ rfl (Y + 3) (.slice aA k cA) (.slice (some ⟨W.heap.size, 0, none⟩) 1 1) T [x2] rfl rfl (JAs.keepAll ((Below.refl _ _).alloc (Nat.le_refl _) _)) (lit_isK_at .u8 256 _ #[.int .u8 (x2 : Int)] 5 [x2] 1 W.heap.size (by simp [World.setCell]) rfl rfl (by simpa using hx2') (by simp [maxLen])) (k + 1) (by rw [hTl]; rfl) (T ++ [x2]) rfl (by omega) (by omega) (by simp [World.setCell]; omega) ?_; intro aA2 cA2 w2 ja2 hg2 hk2 hc2; have ba2 := box_row BAs JAs hg2 (by decide); have ca2 := ba2.cell; have fa2 := ba2.frozen; have cs2 : (w2.setCell ⟨Y, 0, none⟩ (.slice aA2 (k + 1) cA2)).cell? ⟨w.heap.size, 0, none⟩ = some (.slice a l.length c) := ((box_row BSs JAs hg2 (by decide)).other (by omega) _).cell; have br2 := (box_row BRs JAs hg2 (by decide)).other (B' := Y) (by omega) (.slice aA2 (k + 1) cA2); have cr2 := br2.cell; have fr2 := br2.frozen)
            have hfin := all_step (w7 := w7) (x1 := x1) (b := true) (vA2 := .slice aA2 (k + 1) cA2) (by omega) BA.out JA.out BL.out BO.out HS.out ja2 hg2
            exact ⟨hfin.1.trans (KeepsOthers.setCell _ _ _), by show l.length < (pre ++ [(⟨(x1, x2), hx1, hx2⟩ : PB 281474976702464)]).length; rw [hTK.out]; exact hkl2⟩
        · rw [decide_eq_false hqx] at HFI
          have hqx2 : (x1 : Int) ≤ q := by omega
          have BAs : Boxed ((W.setCell ⟨Y + 1 + 1, 0, none⟩ (.bool false)).setCell ⟨Y + 1, 0, none⟩ (.int .i64 (x1 : Int))) Y 22 (.slice aA k cA) := (BA.out.other (by omega) _).other (by omega) _
          have BSs : Boxed ((W.setCell ⟨Y + 1 + 1, 0, none⟩ (.bool false)).setCell ⟨Y + 1, 0, none⟩ (.int .i64 (x1 : Int))) w.heap.size 22 (.slice a l.length c) := ((boxed_keepS BS7.out (show w.heap.size < Y by omega) HS.out).other (by omega) _).other (by omega) _
          have BRs : Boxed ((W.setCell ⟨Y + 1 + 1, 0, none⟩ (.bool false)).setCell ⟨Y + 1, 0, none⟩ (.int .i64 (x1 : Int))) (w.heap.size + 1) 4 (.bool false) := ((boxed_keepS BR7.out (show w.heap.size + 1 < Y by omega) HS.out).other (by omega) _).other (by omega) _
          have JAs : JK .u8 256 5 ((W.setCell ⟨Y + 1 + 1, 0, none⟩ (.bool false)).setCell ⟨Y + 1, 0, none⟩ (.int .i64 (x1 : Int))) (Y + 3) (.slice aA k cA) T := (JA.out.setO (p := ⟨Y + 1 + 1, 0, none⟩) (fun g hg => by have := JA.out.blk_ge g hg; show g ≠ Y + 1 + 1; omega) _).setO (p := ⟨Y + 1, 0, none⟩) (fun g hg => by have := JA.out.blk_ge g hg; show g ≠ Y + 1; omega) _
          have caS := BAs.cell
          have faS := BAs.frozen
          by_cases hkl : k + 1 ≤ l.length
          · gi_wp2_with (gi_at_builtin; refine wpListIn_append_jk Try.underlying22 info_u8 _ rfl _ _ rfl (Y + 3) (.slice aA k cA) (.slice (some ⟨W.heap.size, 0, none⟩) 1 1) T [x2] rfl rfl (JAs.keepAll ((Below.refl _ _).alloc (Nat.le_refl _) _)) (lit_isK_at .u8 256 _ #[.int .u8 (x2 : Int)] 5 [x2] 1 W.heap.size (by simp [World.setCell]) rfl rfl (by simpa using hx2') (by simp [maxLen])) (k + 1) (by rw [hTl]; rfl) (T ++ [x2]) rfl (by omega) (by omega) (by simp [World.setCell]; omega) ?_; intro aA2 cA2 w2 ja2 hg2 hk2 hc2; have ba2 := box_row BAs JAs hg2 (by decide); have ca2 := ba2.cell; have fa2 := ba2.frozen; have cs2 : (w2.setCell ⟨Y, 0, none⟩ (.slice aA2 (k + 1) cA2)).cell? ⟨w.heap.size, 0, none⟩ = some (.slice a l.length c) := ((box_row BSs JAs hg2 (by decide)).other (by omega) _).cell; have br2 := (box_row BRs JAs hg2 (by decide)).other (B' := Y) (by omega) (.slice aA2 (k + 1) cA2); have cr2 := br2.cell; have fr2 := br2.frozen)
            have hfin := all_step (w7 := w7) (x1 := x1) (b := false) (vA2 := .slice aA2 (k + 1) cA2) (by omega) BA.out JA.out BL.out BO.out HS.out ja2 hg2
            obtain ⟨f1, f2, f3⟩ := hfin
            exact ⟨f1, f2, by rw [hTK.out]; exact hkl, by rw [hTF.out]; exact HFI.out _ f3⟩
          · have hkl2 : l.length < k + 1 := by omega
            gi_wp2_with (gi_at_builtin; refine wpListIn_append_jk Try.underlying22 info_u8 _ rfl _ _ rfl (Y + 3) (.slice aA k cA) (.slice (some ⟨W.heap.size, 0, none⟩) 1 1) T [x2] rfl rfl (JAs.keepAll ((Below.refl _ _).alloc (Nat.le_refl _) _)) (lit_isK_at .u8 256 _ #[.int .u8 (x2 : Int)] 5 [x2] 1 W.heap.size (by simp [World.setCell]) rfl rfl (by simpa using hx2') (by simp [maxLen])) (k + 1) (by rw [hTl]; rfl) (T ++ [x2]) rfl (by omega) (by omega) (by simp [World.setCell]; omega) ?_; intro aA2 cA2 w2 ja2 hg2 hk2 hc2; have ba2 := box_row BAs JAs hg2 (by decide); have ca2 := ba2.cell; have fa2 := ba2.frozen; have cs2 : (w2.setCell ⟨Y, 0, none⟩ (.slice aA2 (k + 1) cA2)).cell? ⟨w.heap.size, 0, none⟩ = some (.slice a l.length c) := ((box_row BSs JAs hg2 (by decide)).other (by omega) _).cell; have br2 := (box_row BRs JAs hg2 (by decide)).other (B' := Y) (by omega) (.slice aA2 (k + 1) cA2); have cr2 := br2.cell; have fr2 := br2.frozen)
            have hfin := all_step (w7 := w7) (x1 := x1) (b := false) (vA2 := .slice aA2 (k + 1) cA2) (by omega) BA.out JA.out BL.out BO.out HS.out ja2 hg2
            exact ⟨hfin.1.trans (KeepsOthers.setCell _ _ _), by show l.length < (pre ++ [(⟨(x1, x2), hx1, hx2⟩ : PB 281474976702464)]).length; rw [hTK.out]; exact hkl2⟩
    case done2 =>
      rintro D2 ys W hD2' hys ⟨hpl, ⟨hA, hL2, hO, hS⟩⟩ hK
      rw [hys] at hA hO
      rw [pl_snd] at hA
      rw [st_pl] at hO
      exact rest2 D2 W (by omega) hK hA hO hS
    case stop2 =>
      rintro D2 c2 pre W hD2' hp h hK
      have := hp.length_le
      rw [List.length_map, pl_len] at this
      omega
  clear hK1
  have hSlt : ∀ g, g < X + 3 → g < w6.heap.size := fun g h => by omega
  have hseq := each_stops 11 (by omega) 281474976702464 (fun g => g < X + 3) X _ (wr l) w6 (by rw [← HL.out]; omega) (by show X < X + 3; omega) (by omega) BX6.out.cell (by have := HJ6.out.isB; exact this) (by
    intro b off cc _ e
    injection e with e1 e2 e3
    injection e1 with e1
    injection e1 with e1
    show b < X + 3
    omega)
  rw [HTL.out] at hseq
  refine wpIn_rangeFunc_ownF rfl (by omega) (gf := 39) (lb := #[.pointer (some ⟨X, 0, none⟩)]) rfl trivial (enters_of Try.func39 (by kernel_rfl) rfl) hseq keepS_t (keepS_b hSlt) (Below.refl _ _) (fun _ => rfl)
    (fun (pre : List (PB 281474976702464)) (W : World) => pre.length < m0 + 1 ∧ FewInv X w6 (byts pre) W)
    (fun c (pre : List (PB 281474976702464)) (W : World) => (c = .exit 0 ∧ pre.length = m0 + 1) ∧ FewInv X w6 (byts pre) W)
    (OwnFrom.and (ownFrom_pure _ _) (ownFrom_few (fun (pre : List (PB 281474976702464)) => byts pre) (by omega) (by omega)))
    (fun _ => OwnFrom.and (ownFrom_pure _ _) (ownFrom_few (fun (pre : List (PB 281474976702464)) => byts pre) (by omega) (by omega)))
    ⟨by show (0 : Nat) < m0 + 1; omega, ⟨_, BF6.out, jk_nil _ _⟩, KeepS.refl _⟩
    (fun x => { tmps := #[Value.slice a l.length c, Value.int IntKind.i64 z, Value.pointer (some { block := w.heap.size, off := 0 }), undef, Value.pointer (some { block := w.heap.size + 1, off := 0 }), Value.bool true, Value.slice (some { block := w1.heap.size, off := 0 }) L L, Value.pointer (some { block := X + 1, off := 0 }), Value.pointer (some { block := X + 2, off := 0 }), Value.pointer (some { block := X + 2 + 1, off := 0 }), undef, Value.int IntKind.u8 (x.1.2 : Int), undef, undef, undef, undef, undef, undef, undef, undef, undef, undef, undef, undef, undef, Value.bool true, Value.slice a l.length c, Value.slice (some { block := w1.heap.size, off := 0 }) L L, Value.slice (some { block := w1.heap.size, off := 0 }) L L, Value.func (Fn.func 39) #[] #[Value.pointer (some { block := X, off := 0 })], Value.func (Fn.func 39) #[] #[Value.pointer (some { block := X, off := 0 })], Value.bool false, Value.int IntKind.i64 z, Value.slice a l.length c, Value.int IntKind.i64 ↑l.length, Value.int IntKind.i64 (↑l.length + 1), Value.int IntKind.i64 ↑m0, Value.int IntKind.i64 (1 + ↑m0), Value.func (Fn.func 39) #[] #[Value.pointer (some { block := X, off := 0 })], Value.int IntKind.i64 (x.1.1 : Int), Value.int IntKind.u8 (x.1.2 : Int), undef, undef, undef, undef, undef, undef, undef, undef, undef, undef, undef, undef, undef, undef, undef, undef, undef, undef, undef, undef, undef, undef, undef, undef, undef, undef, undef, undef, undef, undef, undef, undef, undef, undef, undef, undef, undef, undef, undef, undef, undef, undef, undef, undef, undef, undef, undef, undef, undef, undef, undef, undef, undef, undef, undef, undef, undef, undef, undef, undef, undef, undef, undef, undef, undef, undef, undef, undef, undef, undef, undef, undef, undef, undef, undef, undef, undef, undef, undef, undef, undef, undef, undef, undef, undef, undef, undef, undef, undef, undef, undef, undef, undef, undef, undef, undef, undef, undef], defers := [] }) ?assign ?body ?done ?stop
  case assign =>
    intro lk x W K hK
    gi_wp2
    exact hK
  case body =>
    rintro lk pre ⟨⟨x1, x2⟩, hx1, hx2⟩ W ⟨hpm, ⟨⟨vF, bf, jf⟩, hS⟩⟩ hlen
    have hx2' : x2 < 256 := hx2
    obtain ⟨T, hT⟩ : ∃ T, T = byts pre := ⟨_, rfl⟩
    have HTE := hd hT
    obtain ⟨k, hke⟩ : ∃ k, k = pre.length := ⟨_, rfl⟩
    have hTl : T.length = k := by rw [hke, hT]; exact byts_len pre
    rw [← hT] at jf
    obtain ⟨aF, cF, eF, hcF⟩ := jf.shape
    rw [hTl] at eF hcF
    subst eF
    have BF := hd bf
    have JF := hd jf
    have HS := hd hS
    have cf := bf.cell
    have ff := bf.frozen
    have cm := (boxed_keepS BM6.out (show X + 2 < X + 3 by omega) hS).cell
    have HK := hd hke
    have hsW := hS.size
    rw [← hke] at hpm
    have hkb : k < 140737488351233 := by omega
    clear bf jf hS hT hke hlen
    have hTF : Hid (byts (pre ++ [(⟨(x1, x2), hx1, hx2⟩ : PB 281474976702464)]) = T ++ [x2]) := by
      show byts (pre ++ [(⟨(x1, x2), hx1, hx2⟩ : PB 281474976702464)]) = T ++ [x2]
      rw [HTE.out]; unfold byts; rw [List.map_append, List.map_append]; rfl
    have hTK : Hid ((pre ++ [(⟨(x1, x2), hx1, hx2⟩ : PB 281474976702464)]).length = k + 1) := by
      show (pre ++ [(⟨(x1, x2), hx1, hx2⟩ : PB 281474976702464)]).length = k + 1
      rw [List.length_append, List.length_singleton, HK.out]
    by_cases hkm : k = m0
    · have hq : (((k : Int) + 1) == (1 + (m0 : Int))) = true := by simp; omega
      have HKM := hd hkm
      clear hkm hpm
      gi_wp2_with (gi_at_builtin; refine wpListIn_append_jk Try.underlying22 info_u8 _ rfl _ _ rfl (X + 4) (.slice aF k cF) (.slice (some ⟨W.heap.size, 0, none⟩) 1 1) T [x2] rfl rfl (JF.out.keepAll ((Below.refl _ _).alloc (Nat.le_refl _) _)) (lit_isK_at .u8 256 W #[.int .u8 (x2 : Int)] 5 [x2] 1 W.heap.size rfl rfl rfl (by simpa using hx2') (by simp [maxLen])) (k + 1) (by rw [hTl]; rfl) (T ++ [x2]) rfl (by omega) (by omega) (by simp; omega) ?_; intro aF2 cF2 w2 jf2 hg2 hk2 hc2; have bf2 := box_row BF.out JF.out hg2 (by decide); have cf2 := bf2.cell; have ff2 := bf2.frozen; have cm2 : (w2.setCell ⟨X + 2 + 1, 0, none⟩ (.slice aF2 (k + 1) cF2)).cell? ⟨X + 2, 0, none⟩ = some (.int .i64 (1 + (m0 : Int))) := ((box_row (boxed_keepS BM6.out (show X + 2 < X + 3 by omega) HS.out) JF.out hg2 (by decide)).other (by omega) _).cell)
      obtain ⟨f1, f2, f3⟩ := few_step (w6 := w6) (vF2 := .slice aF2 (k + 1) cF2) (by omega) BF.out JF.out HS.out jf2 hg2
      exact ⟨f1, ⟨rfl, by rw [hTK.out, HKM.out]⟩, by rw [hTF.out]; exact f3⟩
    · have hq : (((k : Int) + 1) == (1 + (m0 : Int))) = false := by simp; omega
      gi_wp2_with (gi_at_builtin; refine wpListIn_append_jk Try.underlying22 info_u8 _ rfl _ _ rfl (X + 4) (.slice aF k cF) (.slice (some ⟨W.heap.size, 0, none⟩) 1 1) T [x2] rfl rfl (JF.out.keepAll ((Below.refl _ _).alloc (Nat.le_refl _) _)) (lit_isK_at .u8 256 W #[.int .u8 (x2 : Int)] 5 [x2] 1 W.heap.size rfl rfl rfl (by simpa using hx2') (by simp [maxLen])) (k + 1) (by rw [hTl]; rfl) (T ++ [x2]) rfl (by omega) (by omega) (by simp; omega) ?_; intro aF2 cF2 w2 jf2 hg2 hk2 hc2; have bf2 := box_row BF.out JF.out hg2 (by decide); have cf2 := bf2.cell; have ff2 := bf2.frozen; have cm2 : (w2.setCell ⟨X + 2 + 1, 0, none⟩ (.slice aF2 (k + 1) cF2)).cell? ⟨X + 2, 0, none⟩ = some (.int .i64 (1 + (m0 : Int))) := ((box_row (boxed_keepS BM6.out (show X + 2 < X + 3 by omega) HS.out) JF.out hg2 (by decide)).other (by omega) _).cell)
      obtain ⟨f1, f2, f3⟩ := few_step (w6 := w6) (vF2 := .slice aF2 (k + 1) cF2) (by omega) BF.out JF.out HS.out jf2 hg2
      exact ⟨f1, f2, by rw [hTK.out]; omega, by rw [hTF.out]; exact f3⟩
  case done =>
    rintro D ys W hD hys ⟨hpm, hF, hS⟩ hK
    have hyl : byts ys = l := by unfold byts; rw [hys, pl_snd]
    have hlen : ys.length = l.length := by have := congrArg List.length hyl; rwa [byts_len] at this
    rw [hyl] at hF
    have hMl : l.take M = l := List.take_of_length_le (by rw [HM.out]; omega)
    exact rest1 D W (by omega) hK (by rw [hMl]; exact hF) hS
  case stop =>
    rintro D c pre W hD hp ⟨⟨rfl, hpm⟩, hF, hS⟩ hK
    have h1 : byts pre = l.take pre.length := by
      have := pl_take l hp
      rwa [List.length_map] at this
    have hle := hp.length_le
    rw [List.length_map] at hle
    rw [pl_len] at hle
    rw [h1, show pre.length = M by rw [HM.out]; omega] at hF
    have := rest1 D W (by omega) hK hF hS
    refine wpIn_wide.2 (wp_exit ?_)
    exact this
theorem walk (a0 : Option Addr) (len0 cap0 : Nat) (z0 : List Int) (a1 : Int) (w : World) (w0 : IsRow .u8 w a0 len0 cap0 z0) (hz : (Lit.int .i64 a1).wf = true) (rc0 : cap0 ≤ 140737488351232) (hlc0 : len0 ≤ cap0) :
    Calls Try.prog 10 #[.slice a0 len0 cap0, .int .i64 a1] w fun e w' => e = .returned (.bool true) ∧ Below w.heap.size w w' := by
  obtain ⟨l, hl, hI⟩ := w0.isB
  exact walkB _ l a1 w hI (by omega) hz
set_option linter.unusedVariables false
set_option maxRecDepth 100000 in
theorem lifted (os : Os) (started : os.Started) (H : Type) (enc : TypeId × Value → H) :
    ReturnsInHanded {} Try.checked os 10 .any (Rows.escapeStopsSpec.pre6 enc Try.prog Try.f10 Rows.escapeStopsRow.domain false) (Rows.escapeStopsSpec.post enc Try.prog Try.f10 false true false false) := by
  refine returnsInHanded_of_change_sized (C := Try.checked) own started (by kernel_rfl) Try.func10
    (ChangeSpec.witness6 (enc := enc) (C := Try.checked) false ⟨#[], #[.slice none 0 0, .int .i64 0], []⟩ 8 (by kernel_rfl) (by kernel_rfl) (by kernel_rfl) (by kernel_rfl)) ?_
  intro W base args ds gs before hval0 hW hcnd hsz0 _
  have hsz : (DataW.weightsEach Try.prog (Try.f10.params.toList ++ Rows.escapeStopsSpec.plain.varTypes Try.prog) (ds ++ gs)).all (· ≤ reachBytes) = true := hsz0
  clear hsz0
  have hval : ∀ (j : Nat) t v, Try.f10.params[j]? = some t → args[j]? = some v → Value.okWide Try.prog W .any base t v := hval0
  have hW' := hW
  obtain ⟨p, q, hA0, hV, rfl, hfz, hnd⟩ := hW
  have hA : DataW.TrodAll enc Try.prog W 0 (fun _ => true) true Try.f10.params.toList args.toList ds p := hA0
  rw [Try.params10] at hA hval hsz
  obtain ⟨v0, vs0, d0, ds0, p0, q0, hargs, rfl, rfl, h0, r0⟩ := trodAll_cons hA
  obtain ⟨v1, vs1, d1, ds1, p1, q1, rfl, rfl, rfl, h1, r1⟩ := trodAll_cons r0
  obtain ⟨rfl, rfl, rfl⟩ := trodAll_nil r1
  obtain rfl : args = #[v0, v1] := by cases args; simp_all
  obtain ⟨rfl, rfl⟩ := trodVars_none hV
  obtain ⟨a0, len0, cap0, rfl⟩ := okWide_slice Try.underlying22 (hval 0 22 v0 rfl rfl)
  have k0 := h0
  have lt0 : ∀ x ∈ p0, x.block < W.heap.size := by obtain ⟨m, hm⟩ := k0; exact DataW.trod_lt m _ _ _ hm
  obtain ⟨z0, w0, rc0, hlc0⟩ : ∃ zs, IsRow .u8 W a0 len0 cap0 zs ∧ cap0 ≤ 140737488351232 ∧ len0 ≤ cap0 := by
    obtain ⟨fuel, hf⟩ := h0
    rcases open_ints Try.underlying22 Try.underlying5 (by kernel_rfl) hf with ⟨hcs, _⟩ | ⟨x, l, c, zs, hcs, _, hl, hm, hz, hx, hcell, hwz⟩
    · simp [Value.cells] at hcs
      obtain ⟨rfl, rfl, rfl⟩ := hcs
      exact ⟨[], .inl ⟨rfl, rfl, rfl, rfl⟩, by omega, by omega⟩
    · simp [Value.cells] at hcs
      obtain ⟨rfl, rfl, rfl⟩ := hcs
      have hz2 : zs.length = cap0 := by simpa using hz
      simp only [Prod.mk.injEq] at hx
      have hs := sized_slice hsz (j := 0) rfl (by rw [hx.1]; rfl) Try.underlying22
      rw [bytes_u8] at hs
      simp only [lits, List.length_map, List.length_take, List.length_drop, reachBytes] at hs
      exact ⟨zs, .inr ⟨_, rfl, hl, hm, hz2, hcell, hwz⟩, by omega, hl⟩
  obtain ⟨a1, rfl, rfl, rfl, w1⟩ := open_int Try.underlying3 (hval 1 3 v1 rfl rfl) h1
  clear hA0 hval0
  refine (walk a0 len0 cap0 z0 a1 W w0 w1 rc0 hlc0).mono fun e W' ⟨he, bel⟩ => ?_
  subst he
  exact ⟨_, rfl, _, _, _, [], _, [], hW', trodAll_mk1 (shut_bool Try.underlying4 _), (trodAll_cons_mk (Below.trod laidOut (by kernel_rfl) (of_decide_eq_true (by kernel_rfl)) k0 bel lt0) (trodAll_cons_mk (shut_int Try.underlying3 w1) trodAll_mk0)), rfl, bel.frame _, fun h => by cases h⟩

theorem over : Rows.escapeStopsRow.holds Try.pinned (OpenSpec.ofChange Rows.escapeStopsSpec) :=
  OpenClaim.holds_of_wide 10 Try.f10 rfl rfl rfl rfl rfl rfl rfl ⟨rfl, rfl, rfl, rfl, rfl⟩ rfl rfl rfl rfl rfl (by kernel_rfl) Try.func10 (by kernel_rfl)
    (of_decide_eq_true (by kernel_rfl)) (by unfold Func.isWrapper; first | (rw [if_pos (by decide +kernel)]; kernel_rfl) | (rw [if_neg (by decide +kernel)]; exact ⟨rfl, rfl⟩))
    (fun os started H enc _ => lifted os started H enc)

end Estopy

theorem escapeStops_holds : Rows.EscapeStopsSaid := Estopy.over
#print axioms escapeStops_holds
end Go.Proofs.Ytojogadklhmkbaa
