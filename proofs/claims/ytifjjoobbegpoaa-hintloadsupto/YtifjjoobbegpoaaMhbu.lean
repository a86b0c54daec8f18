/-
  hint.Of's function value; hint.footOf; hint.Of.
-/
import Derived.Test.YtifjjoobbegpoaaMhbm
import Derived.Test.YtifjjoobbegpoaaMhbt
import Derived.Test.YtifjjoobbegpoaaMhao
namespace Go.Proofs.Ytifjjoobbegpoaa
open Go.RowKit Go.Shelf
namespace Vt
attribute [local go_sem] Oper.semAt_some
attribute [local go_sem ↓] append_hide
set_option maxRecDepth 100000 in
set_option maxHeartbeats 2000000 in
theorem of1_no (f : Fr) (at_ len : Int) (p : Value) (W : World) (h : isRec f = false) :
    Calls Try.prog 50 #[.agg (lfv f at_ len), p] W fun e W' => e = .returned (.bool false) ∧ Below W.heap.size W W' := by
  have HH : Hid (∀ w, Calls Try.prog 51 #[.agg (fv f)] w fun e w' => e = .returned (.bool false) ∧ Below w.heap.size w w') := fun w => h ▸ hasRecord_is f w
  clear h
  obtain ⟨k, ⟨rl, rk, rkey, rval⟩, ⟨pl, pk, pa, pn, pkey⟩, ⟨ec, eb, ef, es⟩⟩ := f
  simp only [lfv, fv] at HH ⊢
  go_enter Try.func50, Try.ntmps50
  go_wp2_with fail
  refine Calls.mono (HH.out _) ?_
  rintro e w1 ⟨rfl, hb⟩
  have HB := hd hb
  clear hb HH
  go_wp2_with fail
  go_ret
  exact ⟨rfl, ((Below.refl _ _).alloc (Nat.le_refl _) _).trans (HB.out.mono (by simp))⟩
theorem en_small {f : Fr} (hw : f.Wf) (h : rf f = 0) : (en f).length ≤ 5000 := by
  have h1 := (bd_len hw h).1
  have h2 := (wr_len (bd f)).2
  rw [en_len]
  omega
set_option maxRecDepth 100000 in
set_option maxHeartbeats 2000000 in
theorem of1_yes (f : Fr) (at_ len : Int) (Bf base : Nat) (vf : Value) (bs : List Nat) (W : World) (h : isRec f = true) (hr : rf (hfr (ptr f at_ len)) = 0) (hw : (hfr (ptr f at_ len)).Wf)
    (hB : Boxed W Bf 22 vf) (hJ : JB W base vf bs) (hbase : base ≤ W.heap.size) (hl : bs.length ≤ 1000000000000) :
    Calls Try.prog 50 #[.agg (lfv f at_ len), .pointer (some ⟨Bf, 0, none⟩)] W fun e W' => e = .returned (.bool true) ∧ ∃ vf', Boxed W' Bf 22 vf' ∧ JB W' base vf' (bs ++ en (hfr (ptr f at_ len))) ∧ (∀ n w0, n ≤ Bf → n ≤ base → Below n w0 W → Below n w0 W') := by
  have HH : Hid (∀ w, Calls Try.prog 51 #[.agg (fv f)] w fun e w' => e = .returned (.bool true) ∧ Below w.heap.size w w') := fun w => h ▸ hasRecord_is f w
  have HP := hd (pointerTo_is f at_ len)
  have HW := hd (fun w => written_is (hfr (ptr f at_ len)) w hw hr)
  have hes := en_small hw hr
  obtain ⟨el, hel⟩ : ∃ el, el = en (hfr (ptr f at_ len)) := ⟨_, rfl⟩
  rw [← hel] at HW hes ⊢
  have HBX := hd hB
  have HJX := hd hJ
  clear h hB hJ hr hw hel
  obtain ⟨k, ⟨rl, rk, rkey, rval⟩, ⟨pl, pk, pa, pn, pkey⟩, ⟨ec, eb, ef, es⟩⟩ := f
  simp only [lfv, fv, ptr, hfr, pv, zr, ze] at HH HP HW ⊢
  go_enter Try.func50, Try.ntmps50
  go_wp2_with fail
  refine Calls.mono (HH.out _) ?_
  rintro e w1 ⟨rfl, hb⟩
  have HB := hd hb
  have HL := hd ((Blk.new W 43 _).keep hb)
  have cL0 := HL.out.cell 0 _ rfl
  have cL1 := HL.out.cell 1 _ rfl
  have cL2 := HL.out.cell 2 _ rfl
  have cL3 := HL.out.cell 3 _ rfl
  have cL4 := HL.out.cell 4 _ rfl
  have cL5 := HL.out.cell 5 _ rfl
  have cL6 := HL.out.cell 6 _ rfl
  have cL7 := HL.out.cell 7 _ rfl
  have cL8 := HL.out.cell 8 _ rfl
  have cL9 := HL.out.cell 9 _ rfl
  have cL10 := HL.out.cell 10 _ rfl
  have cL11 := HL.out.cell 11 _ rfl
  have cL12 := HL.out.cell 12 _ rfl
  have cL13 := HL.out.cell 13 _ rfl
  have cL14 := HL.out.cell 14 _ rfl
  have cL15 := HL.out.cell 15 _ rfl
  have hb0 : Below W.heap.size W w1 := below_alloc1 hb
  have HBX1 := hd (boxed_below HBX.out (by exact (Array.getElem?_eq_some_iff.1 HBX.out).1) hb0)
  have HJX1 := hd (HJX.out.keepAll hb0)
  have q0 := HBX1.out.cell
  have hle := hb0.size
  have HB0 := hd hb0
  have HP1 : Hid (∀ m, Calls Try.prog 53 #[.agg #[.int .i64 k, .int .u64 (rl : Int), .int .i64 rk, .string rkey, .string rval, .int .u64 (pl : Int), .int .i64 pk, .int .i64 pa, .int .i64 pn, .string pkey, .int .i64 ec, .int .i64 eb, .int .i64 ef, .int .u32 (es : Int), .int .i64 at_, .int .i64 len]] (w1.drewN m) fun e w' => e = .returned (.agg #[.int .u64 (rl : Int), .int .i64 rk, .int .i64 at_, .int .i64 len, .string rkey]) ∧ Below w1.heap.size w1 w') := fun m => (HP.out _).mono fun e w' ⟨h1, h2⟩ => ⟨h1, (below_drewN (Below.refl _ _) m).trans h2⟩
  clear hb hb0 HH HP HB
  go_wp2_with fail
  go_region_with (first
    | (go_at_call 53; refine Calls.mono (HP1.out _) ?_; rintro e w2 ⟨rfl, hb2⟩; have q2 := (boxed_below HBX1.out (Array.getElem?_eq_some_iff.1 HBX1.out).1 hb2).cell; have HB2 := hd hb2; clear hb2)
    | (go_at_call 52; refine Calls.mono (HW.out _) ?_; rintro e w3 ⟨u, rfl, hj3, hb3⟩; have hb13 := HB2.out.trans (hb3.mono HB2.out.size); have hbx3 := boxed_below HBX1.out (Array.getElem?_eq_some_iff.1 HBX1.out).1 hb13; have hjx3 := HJX1.out.keepAll hb13; have hs13 := hb13.size; obtain ⟨a', cap, w4, hr, hJ4, hg4⟩ := run_append_jb 22 w3 base vf u bs el hjx3 hj3.isB (by omega) (by omega); have hr' : (apH #[22, 22] 22 #[vf, u]).run Try.prog w3 = .ok (.slice a' (bs.length + el.length) cap) w4 := hr; have hbx4 := hbx3.kept hg4 (Boxed.not_row hbx3 (by decide) hjx3.2); have q3 := hbx3.cell; have q4 := hbx4.cell; have q5 := hbx4.frozen; have HBX4 := hd hbx4; have HJ4 := hd hJ4; have HG4 : Hid (∀ n w0, n ≤ base → Below n w0 W → Below n w0 w4) := (fun n w0 h1 h2 => JB.grown hjx3 ((h2.trans (HB0.out.mono (by omega))).trans (hb13.mono (by omega))) h1 (by omega) hg4); clear hj3 hb3 hb13 hbx3 hjx3 hr hJ4 hg4 hbx4))
  all_goals
    go_wp2_with fail
    go_ret
    refine ⟨rfl, .slice a' (bs.length + el.length) cap, HBX4.out.set _, ?_, fun n w0 h1 h2 h3 => (HG4.out n w0 h2 h3).setCell (p := ⟨Bf, 0, none⟩) h1 _⟩
    have hne := Boxed.not_row HBX4.out (by decide) HJ4.out.2
    exact JK.setO (k := .u8) (M := 256) HJ4.out (p := ⟨Bf, 0, none⟩) (fun g hg e => hne (by rw [hg, e])) _
end Vt
end Go.Proofs.Ytifjjoobbegpoaa
