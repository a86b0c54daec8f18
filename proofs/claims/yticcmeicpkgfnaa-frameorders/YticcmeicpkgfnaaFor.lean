/-
  PROVED: for all records the Go law FrameOrders answers true and changes nothing that came in: Compare answers as the document's own does. No condition.
-/
import Derived.Test.YticcmeicpkgfnaaQ5
import Derived.Test.YticcmeicpkgfnaaN1
import Derived.Test.YticcmeicpkgfnaaInv
namespace Go.Proofs.Yticcmeicpkgfnaa
open Go.ChangeShapes Go.WideShapes Go.ChangeAt Go.RowKit
namespace For
open Vt
theorem cp_self (a : Rec) : cp a a = 0 := by
  have := cp_neg a a
  omega
set_option maxRecDepth 100000 in
set_option maxHeartbeats 1000000 in
theorem walk (a b : Rec) (wA : World) (ha : a.lsn < 18446744073709551616) (hb : b.lsn < 18446744073709551616) :
    Calls Try.prog 10 #[.agg (rv a), .agg (rv b)] wA fun e w' => e = .returned (.bool true) ∧ Below wA.heap.size wA w' := by
  have HXY := hd (compare_is a b ha hb)
  have HYX := hd (compare_is b a hb ha)
  have HXX := hd (compare_is a a ha ha)
  have HRY := hd (r4_compare a b ha hb)
  have HRX := hd (r4_compare b a hb ha)
  rw [cp_self] at HXX
  generalize cp a b = x at *
  generalize cp b a = y at *
  obtain ⟨la, ka, keya, vala⟩ := a
  obtain ⟨lb, kb, keyb, valb⟩ := b
  simp only [rv] at *
  have HXA0 : Hid (Blk ((wA.alloc (.cells #[.int .u64 (la : Int), .int .i64 ka, .string keya, .string vala] 25)).alloc (.cells #[.int .u64 (lb : Int), .int .i64 kb, .string keyb, .string valb] 25)) wA.heap.size 25 [.int .u64 (la : Int), .int .i64 ka, .string keya, .string vala]) := (Blk.new wA _ _).alloc _
  have HXB0 : Hid (Blk ((wA.alloc (.cells #[.int .u64 (la : Int), .int .i64 ka, .string keya, .string vala] 25)).alloc (.cells #[.int .u64 (lb : Int), .int .i64 kb, .string keyb, .string valb] 25)) (wA.heap.size + 1) 25 [.int .u64 (lb : Int), .int .i64 kb, .string keyb, .string valb]) := by
    have := Blk.new (wA.alloc (.cells #[.int .u64 (la : Int), .int .i64 ka, .string keya, .string vala] 25)) 25 [.int .u64 (lb : Int), .int .i64 kb, .string keyb, .string valb]
    rw [World.size_alloc] at this
    exact this
  have HB0 : Hid (Below wA.heap.size wA ((wA.alloc (.cells #[.int .u64 (la : Int), .int .i64 ka, .string keya, .string vala] 25)).alloc (.cells #[.int .u64 (lb : Int), .int .i64 kb, .string keyb, .string valb] 25))) := below_two _ _ _
  go_enter Try.func10, Try.ntmps10
  go_wp2_with fail
  refine Calls.mono (known_is _) ?_
  rintro e w1 ⟨rfl, hbl⟩
  have HXA := hd (HXA0.out.keep hbl)
  have HXB := hd (HXB0.out.keep hbl)
  have HB1 : Hid (Below wA.heap.size wA w1) := HB0.out.trans (hbl.mono HB0.out.size)
  clear hbl HXA0 HXB0 HB0
  go_wp2_with fail
  refine region_inv (fun i v w => match i with
    | 0 => v = .bool true
    | 1 => v = .bool true
    | 2 => v = .agg #[.int .u64 (la : Int), .int .i64 ka, .string keya, .string vala]
    | 3 => v = .agg #[.int .u64 (lb : Int), .int .i64 kb, .string keyb, .string valb]
    | 4 => v = .int .i64 x
    | 5 => v = .agg #[.int .u64 (la : Int), .int .i64 ka, .string keya, .string vala]
    | 6 => v = .agg #[.int .u64 (lb : Int), .int .i64 kb, .string keyb, .string valb]
    | 7 => v = .int .i64 x
    | 8 => v = .bool true
    | 9 => v = .bool true
    | 10 => v = .bool true
    | 11 => v = .agg #[.int .u64 (lb : Int), .int .i64 kb, .string keyb, .string valb]
    | 12 => v = .agg #[.int .u64 (la : Int), .int .i64 ka, .string keya, .string vala]
    | 13 => v = .int .i64 y
    | 14 => v = .agg #[.int .u64 (lb : Int), .int .i64 kb, .string keyb, .string valb]
    | 15 => v = .agg #[.int .u64 (la : Int), .int .i64 ka, .string keya, .string vala]
    | 16 => v = .int .i64 y
    | 17 => v = .bool true
    | 18 => v = .bool true
    | 19 => v = .bool true
    | 20 => v = .agg #[.int .u64 (la : Int), .int .i64 ka, .string keya, .string vala]
    | 21 => v = .agg #[.int .u64 (la : Int), .int .i64 ka, .string keya, .string vala]
    | 22 => v = .int .i64 0
    | 23 => v = .bool true
    | 24 => v = .bool true
    | _ => v = .bool true) (fun w => Below w1.heap.size w1 w) (by kernel_rfl) (by kernel_rfl) (by kernel_rfl) (Below.drew (Below.refl _ _)) ?_ ?_ ?_
  · intro i v w w' _ _ hb hG
    match i, hG with
    | 0, h => exact h
    | 1, h => exact h
    | 2, h => exact h
    | 3, h => exact h
    | 4, h => exact h
    | 5, h => exact h
    | 6, h => exact h
    | 7, h => exact h
    | 8, h => exact h
    | 9, h => exact h
    | 10, h => exact h
    | 11, h => exact h
    | 12, h => exact h
    | 13, h => exact h
    | 14, h => exact h
    | 15, h => exact h
    | 16, h => exact h
    | 17, h => exact h
    | 18, h => exact h
    | 19, h => exact h
    | 20, h => exact h
    | 21, h => exact h
    | 22, h => exact h
    | 23, h => exact h
    | 24, h => exact h
    | n + 25, h => exact h
  · intro i o ho a w hW hdf hsz hout haf
    have e2 : a.tmps.getD 2 undef = .pointer (some ⟨wA.heap.size, 0, none⟩) := hout 2 (notDst_spec (by kernel_rfl))
    have e3 : a.tmps.getD 3 undef = .pointer (some ⟨wA.heap.size + 1, 0, none⟩) := hout 3 (notDst_spec (by kernel_rfl))
    have e5 : a.tmps.getD 5 undef = .bool true := hout 5 (notDst_spec (by kernel_rfl))
    have hsz2 : a.tmps.size = 32 := hsz
    clear hout hsz hdf
    match i, ho, haf with
    | 0, ho, haf =>
      obtain rfl := Option.some.inj ho
      refine step_good _ (wanted_none rfl) ?_
      intro K hK
      show K (a.put (some 7) (a.eval (.tmp 5))) w
      rw [show a.eval (.tmp 5) = .bool true from e5]
      exact hK _ _ ⟨Below.refl _ _, hW, rfl⟩
    | 1, ho, haf =>
      obtain rfl := Option.some.inj ho
      have d0 : a.tmps.getD 7 undef = .bool true := haf ⟨0, .data⟩ (by simp) rfl
      refine step_good _ (wanted_none rfl) ?_
      intro K hK
      show K (a.put (some 8) (a.eval (.tmp 7))) w
      rw [show a.eval (.tmp 7) = .bool true from d0]
      exact hK _ _ ⟨Below.refl _ _, hW, rfl⟩
    | 2, ho, haf =>
      obtain rfl := Option.some.inj ho
      have gg : a.tmps.getD 8 undef = .bool true := haf ⟨1, .guard⟩ (by simp) rfl
      have HBL := (HXA.out.keep hW : Blk w wA.heap.size 25 [.int .u64 (la : Int), .int .i64 ka, .string keya, .string vala])
      refine step_good _ (wanted_some rfl (yielded_of (d := 8) rfl (by omega) gg)) ?_
      clear haf ho hsz2
      intro K hK
      exact wp_load_row 25 (.tmp 2) rfl wA.heap.size e2 25 #[.int .u64 (la : Int), .int .i64 ka, .string keya, .string vala] (0, 0) _ HBL Try.underlying25 rfl (by kernel_rfl) (hK _ _ ⟨Below.refl _ _, hW, rfl⟩)
    | 3, ho, haf =>
      obtain rfl := Option.some.inj ho
      have gg : a.tmps.getD 8 undef = .bool true := haf ⟨1, .guard⟩ (by simp) rfl
      have HBL := (HXB.out.keep hW : Blk w (wA.heap.size + 1) 25 [.int .u64 (lb : Int), .int .i64 kb, .string keyb, .string valb])
      refine step_good _ (wanted_some rfl (yielded_of (d := 8) rfl (by omega) gg)) ?_
      clear haf ho hsz2
      intro K hK
      exact wp_load_row 25 (.tmp 3) rfl (wA.heap.size + 1) e3 25 #[.int .u64 (lb : Int), .int .i64 kb, .string keyb, .string valb] (0, 0) _ HBL Try.underlying25 rfl (by kernel_rfl) (hK _ _ ⟨Below.refl _ _, hW, rfl⟩)
    | 4, ho, haf =>
      obtain rfl := Option.some.inj ho
      have gg : a.tmps.getD 8 undef = .bool true := haf ⟨1, .guard⟩ (by simp) rfl
      have g2 := getq (show a.tmps.getD 9 undef = .agg #[.int .u64 (la : Int), .int .i64 ka, .string keya, .string vala] from haf ⟨2, .data⟩ (by simp) rfl)
      have g3 := getq (show a.tmps.getD 10 undef = .agg #[.int .u64 (lb : Int), .int .i64 kb, .string keyb, .string valb] from haf ⟨3, .data⟩ (by simp) rfl)
      refine step_good _ (wanted_some rfl (yielded_of (d := 8) rfl (by omega) gg)) ?_
      clear haf ho hsz2
      intro K hK
      simp only [List.getElem_toArray, List.getElem_cons_succ, List.getElem_cons_zero] at hK ⊢
      go_simp
      refine Calls.mono (HXY.out w) ?_
      rintro e w' ⟨rfl, hbl⟩
      exact hK _ _ ⟨hbl, hW.trans (hbl.mono hW.size), rfl⟩
    | 5, ho, haf =>
      obtain rfl := Option.some.inj ho
      have gg : a.tmps.getD 8 undef = .bool true := haf ⟨1, .guard⟩ (by simp) rfl
      have HBL := (HXA.out.keep hW : Blk w wA.heap.size 25 [.int .u64 (la : Int), .int .i64 ka, .string keya, .string vala])
      refine step_good _ (wanted_some rfl (yielded_of (d := 8) rfl (by omega) gg)) ?_
      clear haf ho hsz2
      intro K hK
      exact wp_load_row 25 (.tmp 2) rfl wA.heap.size e2 25 #[.int .u64 (la : Int), .int .i64 ka, .string keya, .string vala] (0, 0) _ HBL Try.underlying25 rfl (by kernel_rfl) (hK _ _ ⟨Below.refl _ _, hW, rfl⟩)
    | 6, ho, haf =>
      obtain rfl := Option.some.inj ho
      have gg : a.tmps.getD 8 undef = .bool true := haf ⟨1, .guard⟩ (by simp) rfl
      have HBL := (HXB.out.keep hW : Blk w (wA.heap.size + 1) 25 [.int .u64 (lb : Int), .int .i64 kb, .string keyb, .string valb])
      refine step_good _ (wanted_some rfl (yielded_of (d := 8) rfl (by omega) gg)) ?_
      clear haf ho hsz2
      intro K hK
      exact wp_load_row 25 (.tmp 3) rfl (wA.heap.size + 1) e3 25 #[.int .u64 (lb : Int), .int .i64 kb, .string keyb, .string valb] (0, 0) _ HBL Try.underlying25 rfl (by kernel_rfl) (hK _ _ ⟨Below.refl _ _, hW, rfl⟩)
    | 7, ho, haf =>
      obtain rfl := Option.some.inj ho
      have gg : a.tmps.getD 8 undef = .bool true := haf ⟨1, .guard⟩ (by simp) rfl
      have g5 := getq (show a.tmps.getD 12 undef = .agg #[.int .u64 (la : Int), .int .i64 ka, .string keya, .string vala] from haf ⟨5, .data⟩ (by simp) rfl)
      have g6 := getq (show a.tmps.getD 13 undef = .agg #[.int .u64 (lb : Int), .int .i64 kb, .string keyb, .string valb] from haf ⟨6, .data⟩ (by simp) rfl)
      refine step_good _ (wanted_some rfl (yielded_of (d := 8) rfl (by omega) gg)) ?_
      clear haf ho hsz2
      intro K hK
      simp only [List.getElem_toArray, List.getElem_cons_succ, List.getElem_cons_zero] at hK ⊢
      go_simp
      refine Calls.mono (HRY.out w) ?_
      rintro e w' ⟨rfl, hbl⟩
      exact hK _ _ ⟨hbl, hW.trans (hbl.mono hW.size), rfl⟩
    | 8, ho, haf =>
      obtain rfl := Option.some.inj ho
      have gg : a.tmps.getD 8 undef = .bool true := haf ⟨1, .guard⟩ (by simp) rfl
      have g4 := getq (show a.tmps.getD 11 undef = .int .i64 x from haf ⟨4, .data⟩ (by simp) rfl)
      have g7 := getq (show a.tmps.getD 14 undef = .int .i64 x from haf ⟨7, .data⟩ (by simp) rfl)
      refine step_good _ (wanted_some rfl (yielded_of (d := 8) rfl (by omega) gg)) ?_
      clear haf ho hsz2
      intro K hK
      simp only [List.getElem_toArray, List.getElem_cons_succ, List.getElem_cons_zero] at hK ⊢
      go_simp
      exact hK _ _ ⟨Below.refl _ _, hW, rfl⟩
    | 9, ho, haf =>
      obtain rfl := Option.some.inj ho
      have g1 := getq (show a.tmps.getD 8 undef = .bool true from haf ⟨1, .data⟩ (by simp) rfl)
      have g8 := getq (show a.tmps.getD 15 undef = .bool true from haf ⟨8, .data⟩ (by simp) rfl)
      refine step_good _ (wanted_none rfl) ?_
      clear haf ho hsz2
      intro K hK
      simp only [List.getElem_toArray, List.getElem_cons_succ, List.getElem_cons_zero] at hK ⊢
      go_simp
      exact hK _ _ ⟨Below.refl _ _, hW, rfl⟩
    | 10, ho, haf =>
      obtain rfl := Option.some.inj ho
      have d9 : a.tmps.getD 16 undef = .bool true := haf ⟨9, .data⟩ (by simp) rfl
      refine step_good _ (wanted_none rfl) ?_
      intro K hK
      show K (a.put (some 17) (a.eval (.tmp 16))) w
      rw [show a.eval (.tmp 16) = .bool true from d9]
      exact hK _ _ ⟨Below.refl _ _, hW, rfl⟩
    | 11, ho, haf =>
      obtain rfl := Option.some.inj ho
      have gg : a.tmps.getD 17 undef = .bool true := haf ⟨10, .guard⟩ (by simp) rfl
      have HBL := (HXB.out.keep hW : Blk w (wA.heap.size + 1) 25 [.int .u64 (lb : Int), .int .i64 kb, .string keyb, .string valb])
      refine step_good _ (wanted_some rfl (yielded_of (d := 17) rfl (by omega) gg)) ?_
      clear haf ho hsz2
      intro K hK
      exact wp_load_row 25 (.tmp 3) rfl (wA.heap.size + 1) e3 25 #[.int .u64 (lb : Int), .int .i64 kb, .string keyb, .string valb] (0, 0) _ HBL Try.underlying25 rfl (by kernel_rfl) (hK _ _ ⟨Below.refl _ _, hW, rfl⟩)
    | 12, ho, haf =>
      obtain rfl := Option.some.inj ho
      have gg : a.tmps.getD 17 undef = .bool true := haf ⟨10, .guard⟩ (by simp) rfl
      have HBL := (HXA.out.keep hW : Blk w wA.heap.size 25 [.int .u64 (la : Int), .int .i64 ka, .string keya, .string vala])
      refine step_good _ (wanted_some rfl (yielded_of (d := 17) rfl (by omega) gg)) ?_
      clear haf ho hsz2
      intro K hK
      exact wp_load_row 25 (.tmp 2) rfl wA.heap.size e2 25 #[.int .u64 (la : Int), .int .i64 ka, .string keya, .string vala] (0, 0) _ HBL Try.underlying25 rfl (by kernel_rfl) (hK _ _ ⟨Below.refl _ _, hW, rfl⟩)
    | 13, ho, haf =>
      obtain rfl := Option.some.inj ho
      have gg : a.tmps.getD 17 undef = .bool true := haf ⟨10, .guard⟩ (by simp) rfl
      have g11 := getq (show a.tmps.getD 18 undef = .agg #[.int .u64 (lb : Int), .int .i64 kb, .string keyb, .string valb] from haf ⟨11, .data⟩ (by simp) rfl)
      have g12 := getq (show a.tmps.getD 19 undef = .agg #[.int .u64 (la : Int), .int .i64 ka, .string keya, .string vala] from haf ⟨12, .data⟩ (by simp) rfl)
      refine step_good _ (wanted_some rfl (yielded_of (d := 17) rfl (by omega) gg)) ?_
      clear haf ho hsz2
      intro K hK
      simp only [List.getElem_toArray, List.getElem_cons_succ, List.getElem_cons_zero] at hK ⊢
      go_simp
      refine Calls.mono (HYX.out w) ?_
      rintro e w' ⟨rfl, hbl⟩
      exact hK _ _ ⟨hbl, hW.trans (hbl.mono hW.size), rfl⟩
    | 14, ho, haf =>
      obtain rfl := Option.some.inj ho
      have gg : a.tmps.getD 17 undef = .bool true := haf ⟨10, .guard⟩ (by simp) rfl
      have HBL := (HXB.out.keep hW : Blk w (wA.heap.size + 1) 25 [.int .u64 (lb : Int), .int .i64 kb, .string keyb, .string valb])
      refine step_good _ (wanted_some rfl (yielded_of (d := 17) rfl (by omega) gg)) ?_
      clear haf ho hsz2
      intro K hK
      exact wp_load_row 25 (.tmp 3) rfl (wA.heap.size + 1) e3 25 #[.int .u64 (lb : Int), .int .i64 kb, .string keyb, .string valb] (0, 0) _ HBL Try.underlying25 rfl (by kernel_rfl) (hK _ _ ⟨Below.refl _ _, hW, rfl⟩)
    | 15, ho, haf =>
      obtain rfl := Option.some.inj ho
      have gg : a.tmps.getD 17 undef = .bool true := haf ⟨10, .guard⟩ (by simp) rfl
      have HBL := (HXA.out.keep hW : Blk w wA.heap.size 25 [.int .u64 (la : Int), .int .i64 ka, .string keya, .string vala])
      refine step_good _ (wanted_some rfl (yielded_of (d := 17) rfl (by omega) gg)) ?_
      clear haf ho hsz2
      intro K hK
      exact wp_load_row 25 (.tmp 2) rfl wA.heap.size e2 25 #[.int .u64 (la : Int), .int .i64 ka, .string keya, .string vala] (0, 0) _ HBL Try.underlying25 rfl (by kernel_rfl) (hK _ _ ⟨Below.refl _ _, hW, rfl⟩)
    | 16, ho, haf =>
      obtain rfl := Option.some.inj ho
      have gg : a.tmps.getD 17 undef = .bool true := haf ⟨10, .guard⟩ (by simp) rfl
      have g14 := getq (show a.tmps.getD 21 undef = .agg #[.int .u64 (lb : Int), .int .i64 kb, .string keyb, .string valb] from haf ⟨14, .data⟩ (by simp) rfl)
      have g15 := getq (show a.tmps.getD 22 undef = .agg #[.int .u64 (la : Int), .int .i64 ka, .string keya, .string vala] from haf ⟨15, .data⟩ (by simp) rfl)
      refine step_good _ (wanted_some rfl (yielded_of (d := 17) rfl (by omega) gg)) ?_
      clear haf ho hsz2
      intro K hK
      simp only [List.getElem_toArray, List.getElem_cons_succ, List.getElem_cons_zero] at hK ⊢
      go_simp
      refine Calls.mono (HRX.out w) ?_
      rintro e w' ⟨rfl, hbl⟩
      exact hK _ _ ⟨hbl, hW.trans (hbl.mono hW.size), rfl⟩
    | 17, ho, haf =>
      obtain rfl := Option.some.inj ho
      have gg : a.tmps.getD 17 undef = .bool true := haf ⟨10, .guard⟩ (by simp) rfl
      have g13 := getq (show a.tmps.getD 20 undef = .int .i64 y from haf ⟨13, .data⟩ (by simp) rfl)
      have g16 := getq (show a.tmps.getD 23 undef = .int .i64 y from haf ⟨16, .data⟩ (by simp) rfl)
      refine step_good _ (wanted_some rfl (yielded_of (d := 17) rfl (by omega) gg)) ?_
      clear haf ho hsz2
      intro K hK
      simp only [List.getElem_toArray, List.getElem_cons_succ, List.getElem_cons_zero] at hK ⊢
      go_simp
      exact hK _ _ ⟨Below.refl _ _, hW, rfl⟩
    | 18, ho, haf =>
      obtain rfl := Option.some.inj ho
      have g10 := getq (show a.tmps.getD 17 undef = .bool true from haf ⟨10, .data⟩ (by simp) rfl)
      have g17 := getq (show a.tmps.getD 24 undef = .bool true from haf ⟨17, .data⟩ (by simp) rfl)
      refine step_good _ (wanted_none rfl) ?_
      clear haf ho hsz2
      intro K hK
      simp only [List.getElem_toArray, List.getElem_cons_succ, List.getElem_cons_zero] at hK ⊢
      go_simp
      exact hK _ _ ⟨Below.refl _ _, hW, rfl⟩
    | 19, ho, haf =>
      obtain rfl := Option.some.inj ho
      have d18 : a.tmps.getD 25 undef = .bool true := haf ⟨18, .data⟩ (by simp) rfl
      refine step_good _ (wanted_none rfl) ?_
      intro K hK
      show K (a.put (some 26) (a.eval (.tmp 25))) w
      rw [show a.eval (.tmp 25) = .bool true from d18]
      exact hK _ _ ⟨Below.refl _ _, hW, rfl⟩
    | 20, ho, haf =>
      obtain rfl := Option.some.inj ho
      have gg : a.tmps.getD 26 undef = .bool true := haf ⟨19, .guard⟩ (by simp) rfl
      have HBL := (HXA.out.keep hW : Blk w wA.heap.size 25 [.int .u64 (la : Int), .int .i64 ka, .string keya, .string vala])
      refine step_good _ (wanted_some rfl (yielded_of (d := 26) rfl (by omega) gg)) ?_
      clear haf ho hsz2
      intro K hK
      exact wp_load_row 25 (.tmp 2) rfl wA.heap.size e2 25 #[.int .u64 (la : Int), .int .i64 ka, .string keya, .string vala] (0, 0) _ HBL Try.underlying25 rfl (by kernel_rfl) (hK _ _ ⟨Below.refl _ _, hW, rfl⟩)
    | 21, ho, haf =>
      obtain rfl := Option.some.inj ho
      have gg : a.tmps.getD 26 undef = .bool true := haf ⟨19, .guard⟩ (by simp) rfl
      have HBL := (HXA.out.keep hW : Blk w wA.heap.size 25 [.int .u64 (la : Int), .int .i64 ka, .string keya, .string vala])
      refine step_good _ (wanted_some rfl (yielded_of (d := 26) rfl (by omega) gg)) ?_
      clear haf ho hsz2
      intro K hK
      exact wp_load_row 25 (.tmp 2) rfl wA.heap.size e2 25 #[.int .u64 (la : Int), .int .i64 ka, .string keya, .string vala] (0, 0) _ HBL Try.underlying25 rfl (by kernel_rfl) (hK _ _ ⟨Below.refl _ _, hW, rfl⟩)
    | 22, ho, haf =>
      obtain rfl := Option.some.inj ho
      have gg : a.tmps.getD 26 undef = .bool true := haf ⟨19, .guard⟩ (by simp) rfl
      have g20 := getq (show a.tmps.getD 27 undef = .agg #[.int .u64 (la : Int), .int .i64 ka, .string keya, .string vala] from haf ⟨20, .data⟩ (by simp) rfl)
      have g21 := getq (show a.tmps.getD 28 undef = .agg #[.int .u64 (la : Int), .int .i64 ka, .string keya, .string vala] from haf ⟨21, .data⟩ (by simp) rfl)
      refine step_good _ (wanted_some rfl (yielded_of (d := 26) rfl (by omega) gg)) ?_
      clear haf ho hsz2
      intro K hK
      simp only [List.getElem_toArray, List.getElem_cons_succ, List.getElem_cons_zero] at hK ⊢
      go_simp
      refine Calls.mono (HXX.out w) ?_
      rintro e w' ⟨rfl, hbl⟩
      exact hK _ _ ⟨hbl, hW.trans (hbl.mono hW.size), rfl⟩
    | 23, ho, haf =>
      obtain rfl := Option.some.inj ho
      have gg : a.tmps.getD 26 undef = .bool true := haf ⟨19, .guard⟩ (by simp) rfl
      have g22 := getq (show a.tmps.getD 29 undef = .int .i64 0 from haf ⟨22, .data⟩ (by simp) rfl)
      refine step_good _ (wanted_some rfl (yielded_of (d := 26) rfl (by omega) gg)) ?_
      clear haf ho hsz2
      intro K hK
      simp only [List.getElem_toArray, List.getElem_cons_succ, List.getElem_cons_zero] at hK ⊢
      go_simp
      exact hK _ _ ⟨Below.refl _ _, hW, rfl⟩
    | 24, ho, haf =>
      obtain rfl := Option.some.inj ho
      have g19 := getq (show a.tmps.getD 26 undef = .bool true from haf ⟨19, .data⟩ (by simp) rfl)
      have g23 := getq (show a.tmps.getD 30 undef = .bool true from haf ⟨23, .data⟩ (by simp) rfl)
      refine step_good _ (wanted_none rfl) ?_
      clear haf ho hsz2
      intro K hK
      simp only [List.getElem_toArray, List.getElem_cons_succ, List.getElem_cons_zero] at hK ⊢
      go_simp
      exact hK _ _ ⟨Below.refl _ _, hW, rfl⟩
    | 25, ho, haf =>
      obtain rfl := Option.some.inj ho
      have g24 := getq (show a.tmps.getD 31 undef = .bool true from haf ⟨24, .data⟩ (by simp) rfl)
      refine step_good _ (wanted_none rfl) ?_
      clear haf ho hsz2
      intro K hK
      simp only [List.getElem_toArray, List.getElem_cons_succ, List.getElem_cons_zero] at hK ⊢
      go_simp
      exact hK _ _ ⟨Below.refl _ _, hW, rfl⟩
    | n + 26, ho, haf => simp at ho
  · intro a w hW hdf hsz hout hall
    have h4 : a.tmps.getD 4 undef = .bool true := hall 25 (by decide)
    have hdf2 : a.defers = [] := hdf
    clear hall hout hsz hdf
    go_wp2
    refine bodyPost_ret (v := .bool true) ?_ hdf2 ⟨rfl, HB1.out.trans (hW.mono HB1.out.size)⟩
    simp [results, Try.results10, go_sem, getq h4]
set_option linter.unusedVariables false
set_option maxRecDepth 100000 in
theorem lifted (os : Os) (started : os.Started) (H : Type) (enc : TypeId × Value → H) :
    ReturnsInHanded {} Try.checked os 10 .any (Rows.frameOrdersSpec.pre6 enc Try.prog Try.f10 Rows.frameOrdersRow.domain false) (Rows.frameOrdersSpec.post enc Try.prog Try.f10 false true false false) := by
  refine returnsInHanded_of_change (C := Try.checked) own started (by kernel_rfl) Try.func10
    (ChangeSpec.witness6 (enc := enc) (C := Try.checked) false ⟨#[], #[.agg #[.int .u64 0, .int .i64 0, .string ⟨#[]⟩, .string ⟨#[]⟩], .agg #[.int .u64 0, .int .i64 0, .string ⟨#[]⟩, .string ⟨#[]⟩]], []⟩ 8 (by kernel_rfl) (by kernel_rfl) (by kernel_rfl) (by kernel_rfl)) ?_
  intro W base args ds gs before hval0 hW hcnd _
  have hval : ∀ (j : Nat) t v, Try.f10.params[j]? = some t → args[j]? = some v → Value.okWide Try.prog W .any base t v := hval0
  have hW' := hW
  obtain ⟨p, q, hA0, hV, rfl, hfz, hnd⟩ := hW
  have hA : DataW.TrodAll enc Try.prog W 0 (fun _ => true) true Try.f10.params.toList args.toList ds p := hA0
  rw [Try.params10] at hA hval
  obtain ⟨v0, vs0, d0, ds0, p0, q0, hargs, rfl, rfl, h0, r0⟩ := trodAll_cons hA
  obtain ⟨v1, vs1, d1, ds1, p1, q1, rfl, rfl, rfl, h1, r1⟩ := trodAll_cons r0
  obtain ⟨rfl, rfl, rfl⟩ := trodAll_nil r1
  obtain rfl : args = #[v0, v1] := by cases args; simp_all
  obtain ⟨rfl, rfl⟩ := trodVars_none hV
  obtain ⟨f0, rfl, w0⟩ := record_arg (hval 0 25 v0 rfl rfl)
  have lt0 : ∀ x ∈ p0, x.block < W.heap.size := by obtain ⟨m, hm⟩ := h0; exact DataW.trod_lt m _ _ _ hm
  obtain ⟨f1, rfl, w1⟩ := record_arg (hval 1 25 v1 rfl rfl)
  have lt1 : ∀ x ∈ p1, x.block < W.heap.size := by obtain ⟨m, hm⟩ := h1; exact DataW.trod_lt m _ _ _ hm
  clear hA0 hval0
  refine (walk f0 f1 W w0 w1).mono fun e W' ⟨he, bel⟩ => ?_
  subst he
  exact ⟨_, rfl, _, _, _, [], _, [], hW', trodAll_mk1 (shut_bool Try.underlying4 _), (trodAll_cons_mk (Below.trod laidOut (by kernel_rfl) (of_decide_eq_true (by kernel_rfl)) h0 bel lt0) (trodAll_cons_mk (Below.trod laidOut (by kernel_rfl) (of_decide_eq_true (by kernel_rfl)) h1 bel lt1) trodAll_mk0)), rfl, bel.frame _, fun h => by cases h⟩

theorem over : Rows.frameOrdersRow.holds Try.pinned (OpenSpec.ofChange Rows.frameOrdersSpec) :=
  OpenClaim.holds_of_wide 10 Try.f10 rfl rfl rfl rfl rfl rfl rfl ⟨rfl, rfl, rfl, rfl, rfl⟩ rfl rfl rfl rfl rfl (by kernel_rfl) Try.func10 (by kernel_rfl)
    (of_decide_eq_true (by kernel_rfl)) (by unfold Func.isWrapper; first | (rw [if_pos (by decide +kernel)]; kernel_rfl) | (rw [if_neg (by decide +kernel)]; exact ⟨rfl, rfl⟩))
    (fun os started H enc _ => lifted os started H enc)
end For

theorem frameOrders_holds : Rows.FrameOrdersSaid := For.over
#print axioms frameOrders_holds
end Go.Proofs.Yticcmeicpkgfnaa
