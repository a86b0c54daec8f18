/-
  hint.Of's function value; hint.footOf; hint.Of.
  hint.footOf; hint.Of.
-/
import Derived.Test.YtmcipkogkibkaaaMba
import Derived.Test.YtmcipkogkibkaaaMbf
import Derived.Test.YtmcipkogkibkaaaMaw
namespace Go.Proofs.Ytmcipkogkibkaaa
open Go.RowKit Go.Shelf
namespace Vt
attribute [local go_sem] Oper.semAt_some
attribute [local go_sem ↓] append_hide
set_option maxRecDepth 100000 in
set_option maxHeartbeats 2000000 in
theorem of1_no (f : Fr) (at_ len : Int) (p : Value) (W : World) (h : isRec f = false) :
    Calls Try.prog 52 #[.agg (lfv f at_ len), p] W fun e W' => e = .returned (.bool false) ∧ Below W.heap.size W W' := by
  have HH : Hid (∀ w, Calls Try.prog 29 #[.agg (fv f)] w fun e w' => e = .returned (.bool false) ∧ Below w.heap.size w w') := fun w => h ▸ hasRecord_is f w
  clear h
  obtain ⟨k, ⟨rl, rk, rkey, rval⟩, ⟨pl, pk, pa, pn, pkey⟩, ⟨ec, eb, ef, es⟩⟩ := f
  simp only [lfv, fv] at HH ⊢
  go_enter Try.func52, Try.ntmps52
  go_wp2_with fail
  refine Calls.mono (HH.out _) ?_
  rintro e w1 ⟨rfl, hb⟩
  have HB := hd hb
  clear hb HH
  go_wp2_with fail
  go_ret
  exact ⟨rfl, ((Below.refl _ _).alloc (Nat.le_refl _) _).trans (HB.out.mono (by simp))⟩
theorem en_small {f : Fr} (hw : f.Wf) (h : rf f = 0) : (en f).length ≤ 5000 := by
  have h1 := (bd_len hw h).1
  have h2 := (wr_len (bd f)).2
  rw [en_len]
  omega
set_option maxRecDepth 100000 in
set_option maxHeartbeats 2000000 in
theorem of1_yes (f : Fr) (at_ len : Int) (Bf base : Nat) (vf : Value) (bs : List Nat) (W : World) (h : isRec f = true) (hr : rf (hfr (ptr f at_ len)) = 0) (hw : (hfr (ptr f at_ len)).Wf)
    (hB : Boxed W Bf 22 vf) (hJ : JB W base vf bs) (hbase : base ≤ W.heap.size) (hl : bs.length ≤ 1000000000000) :
    Calls Try.prog 52 #[.agg (lfv f at_ len), .pointer (some ⟨Bf, 0, none⟩)] W fun e W' => e = .returned (.bool true) ∧ ∃ vf', Boxed W' Bf 22 vf' ∧ JB W' base vf' (bs ++ en (hfr (ptr f at_ len))) ∧ (∀ n w0, n ≤ Bf → n ≤ base → Below n w0 W → Below n w0 W') := by
  have HH : Hid (∀ w, Calls Try.prog 29 #[.agg (fv f)] w fun e w' => e = .returned (.bool true) ∧ Below w.heap.size w w') := fun w => h ▸ hasRecord_is f w
  have HP := hd (pointerTo_is f at_ len)
  have HW := hd (fun w => written_is (hfr (ptr f at_ len)) w hw hr)
  have hes := en_small hw hr
  obtain ⟨el, hel⟩ : ∃ el, el = en (hfr (ptr f at_ len)) := ⟨_, rfl⟩
  rw [← hel] at HW hes ⊢
  have HBX := hd hB
  have HJX := hd hJ
  clear h hB hJ hr hw hel
  obtain ⟨k, ⟨rl, rk, rkey, rval⟩, ⟨pl, pk, pa, pn, pkey⟩, ⟨ec, eb, ef, es⟩⟩ := f
  simp only [lfv, fv, ptr, hfr, pv, zr, ze] at HH HP HW ⊢
  go_enter Try.func52, Try.ntmps52
  go_wp2_with fail
  refine Calls.mono (HH.out _) ?_
  rintro e w1 ⟨rfl, hb⟩
  have HB := hd hb
  have HL := hd ((Blk.new W 71 _).keep hb)
  have cL0 := HL.out.cell 0 _ rfl
  have cL1 := HL.out.cell 1 _ rfl
  have cL2 := HL.out.cell 2 _ rfl
  have cL3 := HL.out.cell 3 _ rfl
  have cL4 := HL.out.cell 4 _ rfl
  have cL5 := HL.out.cell 5 _ rfl
  have cL6 := HL.out.cell 6 _ rfl
  have cL7 := HL.out.cell 7 _ rfl
  have cL8 := HL.out.cell 8 _ rfl
  have cL9 := HL.out.cell 9 _ rfl
  have cL10 := HL.out.cell 10 _ rfl
  have cL11 := HL.out.cell 11 _ rfl
  have cL12 := HL.out.cell 12 _ rfl
  have cL13 := HL.out.cell 13 _ rfl
  have cL14 := HL.out.cell 14 _ rfl
  have cL15 := HL.out.cell 15 _ rfl
  have hb0 : Below W.heap.size W w1 := below_alloc1 hb
  have HBX1 := hd (boxed_below HBX.out (by exact (Array.getElem?_eq_some_iff.1 HBX.out).1) hb0)
  have HJX1 := hd (HJX.out.keepAll hb0)
  have q0 := HBX1.out.cell
  have hle := hb0.size
  have HB0 := hd hb0
  have HP1 : Hid (∀ m, Calls Try.prog 30 #[.agg #[.int .i64 k, .int .u64 (rl : Int), .int .i64 rk, .string rkey, .string rval, .int .u64 (pl : Int), .int .i64 pk, .int .i64 pa, .int .i64 pn, .string pkey, .int .i64 ec, .int .i64 eb, .int .i64 ef, .int .u32 (es : Int), .int .i64 at_, .int .i64 len]] (w1.drewN m) fun e w' => e = .returned (.agg #[.int .u64 (rl : Int), .int .i64 rk, .int .i64 at_, .int .i64 len, .string rkey]) ∧ Below w1.heap.size w1 w') := fun m => (HP.out _).mono fun e w' ⟨h1, h2⟩ => ⟨h1, (below_drewN (Below.refl _ _) m).trans h2⟩
  clear hb hb0 HH HP HB
  go_wp2_with fail
  go_region_with (first
    | (go_at_call 30; refine Calls.mono (HP1.out _) ?_; rintro e w2 ⟨rfl, hb2⟩; have q2 := (boxed_below HBX1.out (Array.getElem?_eq_some_iff.1 HBX1.out).1 hb2).cell; have HB2 := hd hb2; clear hb2)
    | (go_at_call 53; refine Calls.mono (HW.out _) ?_; rintro e w3 ⟨u, rfl, hj3, hb3⟩; have hb13 := HB2.out.trans (hb3.mono HB2.out.size); have hbx3 := boxed_below HBX1.out (Array.getElem?_eq_some_iff.1 HBX1.out).1 hb13; have hjx3 := HJX1.out.keepAll hb13; have hs13 := hb13.size; obtain ⟨a', cap, w4, hr, hJ4, hg4⟩ := run_append_jb 22 w3 base vf u bs el hjx3 hj3.isB (by omega) (by omega); have hr' : (apH #[22, 22] 22 #[vf, u]).run Try.prog w3 = .ok (.slice a' (bs.length + el.length) cap) w4 := hr; have hbx4 := hbx3.kept hg4 (Boxed.not_row hbx3 (by decide) hjx3.2); have q3 := hbx3.cell; have q4 := hbx4.cell; have q5 := hbx4.frozen; have HBX4 := hd hbx4; have HJ4 := hd hJ4; have HG4 : Hid (∀ n w0, n ≤ base → Below n w0 W → Below n w0 w4) := (fun n w0 h1 h2 => JB.grown hjx3 ((h2.trans (HB0.out.mono (by omega))).trans (hb13.mono (by omega))) h1 (by omega) hg4); clear hj3 hb3 hb13 hbx3 hjx3 hr hJ4 hg4 hbx4))
  all_goals
    go_wp2_with fail
    go_ret
    refine ⟨rfl, .slice a' (bs.length + el.length) cap, HBX4.out.set _, ?_, fun n w0 h1 h2 h3 => (HG4.out n w0 h2 h3).setCell (p := ⟨Bf, 0, none⟩) h1 _⟩
    have hne := Boxed.not_row HBX4.out (by decide) HJ4.out.2
    exact JK.setO (k := .u8) (M := 256) HJ4.out (p := ⟨Bf, 0, none⟩) (fun g hg e => hne (by rw [hg, e])) _
end Vt
end Go.Proofs.Ytmcipkogkibkaaa
namespace Go.Proofs.Ytmcipkogkibkaaa
open Go.RowKit Go.Shelf
namespace Vt
attribute [local go_sem] Oper.semAt_some
set_option maxRecDepth 100000 in
set_option maxHeartbeats 2000000 in
theorem footOf_is (v : Value) (l : List Nat) (w : World) (hI : IsB w v l) :
    Calls Try.prog 54 #[v] w fun e w' => e = .returned (.agg (fv (ffr (edg l)))) ∧ Below w.heap.size w w' := by
  obtain ⟨a, c, rfl⟩ := hI.shape
  have HP : Hid (∀ w', Below w.heap.size w w' → Calls Try.prog 81 #[.slice a l.length c] w' fun e w'' => e = .returned (.agg (prv l.length (locs 0 l).length (Crc.go 0 l))) ∧ Below w'.heap.size w' w'') := fun w' h => print_is _ l w' (hI.below h)
  obtain ⟨n, hn⟩ : ∃ n, n = (locs 0 l).length := ⟨_, rfl⟩
  obtain ⟨sm, hsm⟩ : ∃ sm, sm = Crc.go 0 l := ⟨_, rfl⟩
  have HE := hd (show fv (ffr (edg l)) = #[.int .i64 4, .int .u64 0, .int .i64 0, .string ⟨#[]⟩, .string ⟨#[]⟩, .int .u64 0, .int .i64 0, .int .i64 0, .int .i64 0, .string ⟨#[]⟩, .int .i64 (n : Int), .int .i64 (l.length : Int), .int .i64 (n : Int), .int .u32 (sm : Int)] by rw [hn, hsm]; rfl)
  rw [HE.out]
  rw [← hn, ← hsm] at HP
  simp only [prv] at HP
  clear HE hn hsm hI
  go_enter Try.func54, Try.ntmps54
  go_wp2_with fail
  refine Calls.mono (HP.out _ ((Below.refl _ _).alloc (Nat.le_refl _) _)) ?_
  rintro e w1 ⟨rfl, hb⟩
  have HR := hd ((Blk.new w 36 _).keep hb)
  have hb0 : Below w.heap.size w w1 := below_alloc1 hb
  have hsz := hb.size
  rw [World.size_alloc] at hsz
  have HB0 := hd hb0
  clear hb hb0 HP
  have z0 := HR.out.cell 0 _ rfl
  have y0 := HR.out.frozen 0
  have z1 := HR.out.cell 1 _ rfl
  have y1 := HR.out.frozen 1
  have z2 := HR.out.cell 2 _ rfl
  have y2 := HR.out.frozen 2
  have z3 := HR.out.cell 3 _ rfl
  have y3 := HR.out.frozen 3
  have z4 := HR.out.cell 4 _ rfl
  have y4 := HR.out.frozen 4
  have z5 := HR.out.cell 5 _ rfl
  have y5 := HR.out.frozen 5
  have z6 := HR.out.cell 6 _ rfl
  have y6 := HR.out.frozen 6
  have z7 := HR.out.cell 7 _ rfl
  have y7 := HR.out.frozen 7
  have z8 := HR.out.cell 8 _ rfl
  have y8 := HR.out.frozen 8
  have z9 := HR.out.cell 9 _ rfl
  have y9 := HR.out.frozen 9
  have z10 := HR.out.cell 10 _ rfl
  have y10 := HR.out.frozen 10
  have z11 := HR.out.cell 11 _ rfl
  have y11 := HR.out.frozen 11
  have z12 := HR.out.cell 12 _ rfl
  have y12 := HR.out.frozen 12
  have z13 := HR.out.cell 13 _ rfl
  have y13 := HR.out.frozen 13
  have n1 : ¬ w.heap.size = w1.heap.size := by omega
  have n2 : ¬ w1.heap.size = w.heap.size := by omega
  have n3 : w.heap.size < w1.heap.size := by omega
  go_wp2_with fail
  have kk := Blk.alloc ((((((((((((((HR.out.set (j := 0) (.int .i64 4)).set (j := 1) (.int .u64 0)).set (j := 2) (.int .i64 0)).set (j := 3) (.string ⟨#[]⟩)).set (j := 4) (.string ⟨#[]⟩)).set (j := 5) (.int .u64 0)).set (j := 6) (.int .i64 0)).set (j := 7) (.int .i64 0)).set (j := 8) (.int .i64 0)).set (j := 9) (.string ⟨#[]⟩)).set (j := 10) (.int .i64 (n : Int))).set (j := 11) (.int .i64 (l.length : Int))).set (j := 12) (.int .i64 (n : Int))).set (j := 13) (.int .u32 (sm : Int))) (.cells #[.int .i64 (l.length : Int), .int .i64 (n : Int), .int .u32 (sm : Int)] 32)
  refine bodyPost_ret (results_cell_row rfl _ _ w.heap.size 36 _ (0, 0) _ rfl kk Try.underlying36 rfl (by kernel_rfl)) rfl ?_
  refine ⟨rfl, ?_⟩
  refine Below.alloc ?_ ?_ _
  · exact ((((((((((((((HB0.out.setCell (p := ⟨w.heap.size, 0, none⟩) (Nat.le_refl _) _).setCell (p := ⟨w.heap.size, 1, none⟩) (Nat.le_refl _) _).setCell (p := ⟨w.heap.size, 2, none⟩) (Nat.le_refl _) _).setCell (p := ⟨w.heap.size, 3, none⟩) (Nat.le_refl _) _).setCell (p := ⟨w.heap.size, 4, none⟩) (Nat.le_refl _) _).setCell (p := ⟨w.heap.size, 5, none⟩) (Nat.le_refl _) _).setCell (p := ⟨w.heap.size, 6, none⟩) (Nat.le_refl _) _).setCell (p := ⟨w.heap.size, 7, none⟩) (Nat.le_refl _) _).setCell (p := ⟨w.heap.size, 8, none⟩) (Nat.le_refl _) _).setCell (p := ⟨w.heap.size, 9, none⟩) (Nat.le_refl _) _).setCell (p := ⟨w.heap.size, 10, none⟩) (Nat.le_refl _) _).setCell (p := ⟨w.heap.size, 11, none⟩) (Nat.le_refl _) _).setCell (p := ⟨w.heap.size, 12, none⟩) (Nat.le_refl _) _).setCell (p := ⟨w.heap.size, 13, none⟩) (Nat.le_refl _) _)
  · simp only [World.setCell, Array.size_modify]; omega
theorem hbs_len {L : List Lc} (h : ∀ x ∈ L, rf (hfr (pto x)) = 0 ∧ (hfr (pto x)).Wf) : (hbs L).length ≤ 5000 * L.length := by
  induction L with
  | nil => simp [hbs]
  | cons x r ih =>
    have h1 := ih (fun y hy => h y (List.mem_cons_of_mem _ hy))
    have h2 := en_small (h x List.mem_cons_self).2 (h x List.mem_cons_self).1
    have e : hbs (x :: r) = en (hfr (pto x)) ++ hbs r := by simp [hbs]
    rw [e, List.length_append, List.length_cons]
    omega
/-- between two frames -/
def OfJ (N : Nat) (w : World) (l : List Nat) (pre : List Lc) (W : World) : Prop :=
  (∃ vf, Boxed W N 22 vf ∧ JB W (N + 1) vf (hbs pre)) ∧ Below N w W ∧ N + 1 ≤ W.heap.size ∧ pre <+: locs 0 l ∧ (∀ x ∈ pre, isRec x.2.2 = true)
theorem OfJ.below {N : Nat} {w : World} {l : List Nat} {pre : List Lc} {W W' : World} (h : OfJ N w l pre W) (hb : Below W.heap.size W W') : OfJ N w l pre W' := by
  obtain ⟨⟨vf, h1, h2⟩, h3, h4, h5⟩ := h
  exact ⟨⟨vf, boxed_below h1 (by omega) hb, h2.keepAll hb⟩, h3.trans (hb.mono (by omega)), Nat.le_trans h4 hb.size, h5⟩
theorem of1_take (N : Nat) (w : World) (l : List Nat) (hb : Byt l) (hl : l.length ≤ 4194304) (pre : List Lc) (x : Lc) (W : World) (h : OfJ N w l pre W) (hp : pre ++ [x] <+: locs 0 l) :
    Calls Try.prog 52 (#[.agg (lfv x.2.2 (x.1 : Int) (x.2.1 : Int))] ++ #[.pointer (some ⟨N, 0, none⟩)]) W fun e W' => (e = .returned (.bool true) ∧ OfJ N w l (pre ++ [x]) W') ∨ (e = .returned (.bool false) ∧ isRec x.2.2 = false ∧ Below N w W') := by
  obtain ⟨⟨vf, h1, h2⟩, h3, h4, h5, h6⟩ := h
  have hx : x ∈ locs 0 l := hp.subset (by simp)
  by_cases hr : isRec x.2.2 = true
  · have ok := hfr_ok hb hl hx hr
    have hn := locs_len hb _ (Nat.le_refl _) 0
    have hpl := h5.length_le
    have hlen := hbs_len (L := pre) (fun y hy => hfr_ok hb hl (h5.subset hy) (h6 y hy))
    refine (of1_yes x.2.2 _ _ N (N + 1) vf (hbs pre) W hr ok.1 ok.2 h1 h2 h4 (by omega)).mono ?_
    rintro e W' ⟨rfl, vf', g1, g2, g3⟩
    have g4 := g3 N w (Nat.le_refl _) (by omega) h3
    refine .inl ⟨rfl, ⟨vf', g1, ?_⟩, g4, ?_, hp, ?_⟩
    · rw [hbs_snoc]; exact g2
    · have := h1.lt
      have := g1.lt
      omega
    · intro y hy
      rcases List.mem_append.1 hy with hy | hy
      · exact h6 y hy
      · rw [List.mem_singleton] at hy; subst hy; exact hr
  · refine (of1_no x.2.2 _ _ _ W (by simpa using hr)).mono ?_
    rintro e W' ⟨rfl, hb'⟩
    exact .inr ⟨rfl, by simpa using hr, h3.trans (hb'.mono (by omega))⟩
end Vt
end Go.Proofs.Ytmcipkogkibkaaa
