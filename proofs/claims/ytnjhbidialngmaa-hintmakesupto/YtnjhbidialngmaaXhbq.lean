/-
  hint.footOf; hint.Of.
  A REGION THAT DRAWS ITS ORDER, whose last operation comes behind all others and alone turns the world, in whatever way (a call). No condition beyond those that each theorem bears.
-/
import Derived.Test.YtnjhbidialngmaaXhbp
import Derived.Test.YtnjhbidialngmaaXhbl
namespace Go.Proofs.Ytnjhbidialngmaa
open Go.RowKit Go.Shelf
namespace Vt
attribute [local go_sem] Oper.semAt_some
set_option maxRecDepth 100000 in
set_option maxHeartbeats 2000000 in
theorem footOf_is (v : Value) (l : List Nat) (w : World) (hI : IsB w v l) :
    Calls Try.prog 43 #[v] w fun e w' => e = .returned (.agg (fv (ffr (edg l)))) ∧ Below w.heap.size w w' := by
  obtain ⟨a, c, rfl⟩ := hI.shape
  have HP : Hid (∀ w', Below w.heap.size w w' → Calls Try.prog 66 #[.slice a l.length c] w' fun e w'' => e = .returned (.agg (prv l.length (locs 0 l).length (Crc.go 0 l))) ∧ Below w'.heap.size w' w'') := fun w' h => print_is _ l w' (hI.below h)
  obtain ⟨n, hn⟩ : ∃ n, n = (locs 0 l).length := ⟨_, rfl⟩
  obtain ⟨sm, hsm⟩ : ∃ sm, sm = Crc.go 0 l := ⟨_, rfl⟩
  have HE := hd (show fv (ffr (edg l)) = #[.int .i64 4, .int .u64 0, .int .i64 0, .string ⟨#[]⟩, .string ⟨#[]⟩, .int .u64 0, .int .i64 0, .int .i64 0, .int .i64 0, .string ⟨#[]⟩, .int .i64 (n : Int), .int .i64 (l.length : Int), .int .i64 (n : Int), .int .u32 (sm : Int)] by rw [hn, hsm]; rfl)
  rw [HE.out]
  rw [← hn, ← hsm] at HP
  simp only [prv] at HP
  clear HE hn hsm hI
  go_enter Try.func43, Try.ntmps43
  go_wp2_with fail
  refine Calls.mono (HP.out _ ((Below.refl _ _).alloc (Nat.le_refl _) _)) ?_
  rintro e w1 ⟨rfl, hb⟩
  have HR := hd ((Blk.new w 34 _).keep hb)
  have hb0 : Below w.heap.size w w1 := below_alloc1 hb
  have hsz := hb.size
  rw [World.size_alloc] at hsz
  have HB0 := hd hb0
  clear hb hb0 HP
  have z0 := HR.out.cell 0 _ rfl
  have y0 := HR.out.frozen 0
  have z1 := HR.out.cell 1 _ rfl
  have y1 := HR.out.frozen 1
  have z2 := HR.out.cell 2 _ rfl
  have y2 := HR.out.frozen 2
  have z3 := HR.out.cell 3 _ rfl
  have y3 := HR.out.frozen 3
  have z4 := HR.out.cell 4 _ rfl
  have y4 := HR.out.frozen 4
  have z5 := HR.out.cell 5 _ rfl
  have y5 := HR.out.frozen 5
  have z6 := HR.out.cell 6 _ rfl
  have y6 := HR.out.frozen 6
  have z7 := HR.out.cell 7 _ rfl
  have y7 := HR.out.frozen 7
  have z8 := HR.out.cell 8 _ rfl
  have y8 := HR.out.frozen 8
  have z9 := HR.out.cell 9 _ rfl
  have y9 := HR.out.frozen 9
  have z10 := HR.out.cell 10 _ rfl
  have y10 := HR.out.frozen 10
  have z11 := HR.out.cell 11 _ rfl
  have y11 := HR.out.frozen 11
  have z12 := HR.out.cell 12 _ rfl
  have y12 := HR.out.frozen 12
  have z13 := HR.out.cell 13 _ rfl
  have y13 := HR.out.frozen 13
  have n1 : ¬ w.heap.size = w1.heap.size := by omega
  have n2 : ¬ w1.heap.size = w.heap.size := by omega
  have n3 : w.heap.size < w1.heap.size := by omega
  go_wp2_with fail
  have kk := Blk.alloc ((((((((((((((HR.out.set (j := 0) (.int .i64 4)).set (j := 1) (.int .u64 0)).set (j := 2) (.int .i64 0)).set (j := 3) (.string ⟨#[]⟩)).set (j := 4) (.string ⟨#[]⟩)).set (j := 5) (.int .u64 0)).set (j := 6) (.int .i64 0)).set (j := 7) (.int .i64 0)).set (j := 8) (.int .i64 0)).set (j := 9) (.string ⟨#[]⟩)).set (j := 10) (.int .i64 (n : Int))).set (j := 11) (.int .i64 (l.length : Int))).set (j := 12) (.int .i64 (n : Int))).set (j := 13) (.int .u32 (sm : Int))) (.cells #[.int .i64 (l.length : Int), .int .i64 (n : Int), .int .u32 (sm : Int)] 30)
  refine bodyPost_ret (results_cell_row rfl _ _ w.heap.size 34 _ (0, 0) _ rfl kk Try.underlying34 rfl (by kernel_rfl)) rfl ?_
  refine ⟨rfl, ?_⟩
  refine Below.alloc ?_ ?_ _
  · exact ((((((((((((((HB0.out.setCell (p := ⟨w.heap.size, 0, none⟩) (Nat.le_refl _) _).setCell (p := ⟨w.heap.size, 1, none⟩) (Nat.le_refl _) _).setCell (p := ⟨w.heap.size, 2, none⟩) (Nat.le_refl _) _).setCell (p := ⟨w.heap.size, 3, none⟩) (Nat.le_refl _) _).setCell (p := ⟨w.heap.size, 4, none⟩) (Nat.le_refl _) _).setCell (p := ⟨w.heap.size, 5, none⟩) (Nat.le_refl _) _).setCell (p := ⟨w.heap.size, 6, none⟩) (Nat.le_refl _) _).setCell (p := ⟨w.heap.size, 7, none⟩) (Nat.le_refl _) _).setCell (p := ⟨w.heap.size, 8, none⟩) (Nat.le_refl _) _).setCell (p := ⟨w.heap.size, 9, none⟩) (Nat.le_refl _) _).setCell (p := ⟨w.heap.size, 10, none⟩) (Nat.le_refl _) _).setCell (p := ⟨w.heap.size, 11, none⟩) (Nat.le_refl _) _).setCell (p := ⟨w.heap.size, 12, none⟩) (Nat.le_refl _) _).setCell (p := ⟨w.heap.size, 13, none⟩) (Nat.le_refl _) _)
  · simp only [World.setCell, Array.size_modify]; omega
theorem hbs_len {L : List Lc} (h : ∀ x ∈ L, rf (hfr (pto x)) = 0 ∧ (hfr (pto x)).Wf) : (hbs L).length ≤ 5000 * L.length := by
  induction L with
  | nil => simp [hbs]
  | cons x r ih =>
    have h1 := ih (fun y hy => h y (List.mem_cons_of_mem _ hy))
    have h2 := en_small (h x List.mem_cons_self).2 (h x List.mem_cons_self).1
    have e : hbs (x :: r) = en (hfr (pto x)) ++ hbs r := by simp [hbs]
    rw [e, List.length_append, List.length_cons]
    omega
/-- between two frames -/
def OfJ (N : Nat) (w : World) (l : List Nat) (pre : List Lc) (W : World) : Prop :=
  (∃ vf, Boxed W N 36 vf ∧ JB W (N + 1) vf (hbs pre)) ∧ Below N w W ∧ N + 1 ≤ W.heap.size ∧ pre <+: locs 0 l ∧ (∀ x ∈ pre, isRec x.2.2 = true)
theorem OfJ.below {N : Nat} {w : World} {l : List Nat} {pre : List Lc} {W W' : World} (h : OfJ N w l pre W) (hb : Below W.heap.size W W') : OfJ N w l pre W' := by
  obtain ⟨⟨vf, h1, h2⟩, h3, h4, h5⟩ := h
  exact ⟨⟨vf, boxed_below h1 (by omega) hb, h2.keepAll hb⟩, h3.trans (hb.mono (by omega)), Nat.le_trans h4 hb.size, h5⟩
theorem of1_take (N : Nat) (w : World) (l : List Nat) (hb : Byt l) (hl : l.length ≤ 4194304) (pre : List Lc) (x : Lc) (W : World) (h : OfJ N w l pre W) (hp : pre ++ [x] <+: locs 0 l) :
    Calls Try.prog 39 (#[.agg (lfv x.2.2 (x.1 : Int) (x.2.1 : Int))] ++ #[.pointer (some ⟨N, 0, none⟩)]) W fun e W' => (e = .returned (.bool true) ∧ OfJ N w l (pre ++ [x]) W') ∨ (e = .returned (.bool false) ∧ isRec x.2.2 = false ∧ Below N w W') := by
  obtain ⟨⟨vf, h1, h2⟩, h3, h4, h5, h6⟩ := h
  have hx : x ∈ locs 0 l := hp.subset (by simp)
  by_cases hr : isRec x.2.2 = true
  · have ok := hfr_ok hb hl hx hr
    have hn := locs_len hb _ (Nat.le_refl _) 0
    have hpl := h5.length_le
    have hlen := hbs_len (L := pre) (fun y hy => hfr_ok hb hl (h5.subset hy) (h6 y hy))
    refine (of1_yes x.2.2 _ _ N (N + 1) vf (hbs pre) W hr ok.1 ok.2 h1 h2 h4 (by omega)).mono ?_
    rintro e W' ⟨rfl, vf', g1, g2, g3⟩
    have g4 := g3 N w (Nat.le_refl _) (by omega) h3
    refine .inl ⟨rfl, ⟨vf', g1, ?_⟩, g4, ?_, hp, ?_⟩
    · rw [hbs_snoc]; exact g2
    · have := h1.lt
      have := g1.lt
      omega
    · intro y hy
      rcases List.mem_append.1 hy with hy | hy
      · exact h6 y hy
      · rw [List.mem_singleton] at hy; subst hy; exact hr
  · refine (of1_no x.2.2 _ _ _ W (by simpa using hr)).mono ?_
    rintro e W' ⟨rfl, hb'⟩
    exact .inr ⟨rfl, by simpa using hr, h3.trans (hb'.mono (by omega))⟩
end Vt
end Go.Proofs.Ytnjhbidialngmaa
namespace Go.Proofs.Ytnjhbidialngmaa
open Go Go.RowKit
def lastOk (ops : Array Oper) (L : Nat) : Bool := decide (L < ops.size) && (List.range ops.size).all fun j => decide (j = L) || anc ops ops.size L j
end Go.Proofs.Ytnjhbidialngmaa
