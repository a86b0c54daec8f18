/-
  PROVED: for all records the Go law FrameRanks answers true and changes nothing that came in: Compare is an order; it finds no difference just where there is none, or where both may not be. No condition.
-/
import Derived.Test.YticcmeicpkgfnaaP3
namespace Go.Proofs.Yticcmeicpkgfnaa
open Go.ChangeShapes Go.WideShapes Go.ChangeAt Go.RowKit
namespace Fra
open Vt
set_option maxRecDepth 100000 in
set_option maxHeartbeats 4000000 in
theorem walk_p (a b c : Rec) (w : World) (ha : a.lsn < 18446744073709551616) (hb : b.lsn < 18446744073709551616) (hc : c.lsn < 18446744073709551616) (hsign : 0 < cp a b) :
    Calls Try.prog 9 #[.agg (rv a), .agg (rv b), .agg (rv c)] w fun e w' => e = .returned (.bool true) ∧ Below w.heap.size w w' := by
  have HXY := hd (compare_is a b ha hb)
  have HYZ := hd (compare_is b c hb hc)
  have HXZ := hd (compare_is a c ha hc)
  have HYX := hd (compare_is b a hb ha)
  rw [cp_neg a b] at HYX
  have HT := hd (cp_trans a b c)
  have hr1 := cp_range a b
  have hr2 := cp_range b c
  have hr3 := cp_range a c
  have HS := hd (fun h hr => cp_same ha hb h hr)
  have HW := hd (cp_ways a b)
  have HOA := hd (of_is a)
  have HOB := hd (of_is b)
  have HEA := hd (encOf_is a ha)
  have HEB := hd (encOf_is b hb)
  obtain ⟨nb, hn1, hn2⟩ := rec_neq a b
  have HN2 := hd hn2
  clear hn2
  generalize rf (ofR a) = ea at *
  generalize rf (ofR b) = eb at *
  generalize cb (bd (ofR a)) (bd (ofR b)) = qq at *
  generalize cp a b = x at *
  generalize cp b c = y at *
  generalize cp a c = z at *
  have HAB : Hid (x = 0 → (ea = 0 ∨ eb = 0) → nb = false) := fun h1 h2 => HN2.out.2 (HS.out h1 h2)
  clear HS HN2
  obtain ⟨la, ka, keya, vala⟩ := a
  obtain ⟨lb, kb, keyb, valb⟩ := b
  obtain ⟨lc, kc, keyc, valc⟩ := c
  simp only [rv, fv, ofR, zp, ze] at *
  have hne : ∀ w, (binOp .neq 25 (.agg #[.int .u64 (la : Int), .int .i64 ka, .string keya, .string vala]) (.agg #[.int .u64 (lb : Int), .int .i64 kb, .string keyb, .string valb])).run Try.prog w = .ok (.bool nb) w := hn1
  clear hn1
  have HXA : Hid (Blk (((w.alloc (.cells #[.int .u64 (la : Int), .int .i64 ka, .string keya, .string vala] 25)).alloc (.cells #[.int .u64 (lb : Int), .int .i64 kb, .string keyb, .string valb] 25)).alloc (.cells #[.int .u64 (lc : Int), .int .i64 kc, .string keyc, .string valc] 25)) w.heap.size 25 [.int .u64 (la : Int), .int .i64 ka, .string keya, .string vala]) := ((Blk.new w _ _).alloc _).alloc _
  have HXB : Hid (Blk (((w.alloc (.cells #[.int .u64 (la : Int), .int .i64 ka, .string keya, .string vala] 25)).alloc (.cells #[.int .u64 (lb : Int), .int .i64 kb, .string keyb, .string valb] 25)).alloc (.cells #[.int .u64 (lc : Int), .int .i64 kc, .string keyc, .string valc] 25)) (w.heap.size + 1) 25 [.int .u64 (lb : Int), .int .i64 kb, .string keyb, .string valb]) := by
    have := (Blk.new (w.alloc (.cells #[.int .u64 (la : Int), .int .i64 ka, .string keya, .string vala] 25)) 25 [.int .u64 (lb : Int), .int .i64 kb, .string keyb, .string valb]).alloc (.cells #[.int .u64 (lc : Int), .int .i64 kc, .string keyc, .string valc] 25)
    rw [World.size_alloc] at this
    exact this
  have HXC : Hid (Blk (((w.alloc (.cells #[.int .u64 (la : Int), .int .i64 ka, .string keya, .string vala] 25)).alloc (.cells #[.int .u64 (lb : Int), .int .i64 kb, .string keyb, .string valb] 25)).alloc (.cells #[.int .u64 (lc : Int), .int .i64 kc, .string keyc, .string valc] 25)) (w.heap.size + 1 + 1) 25 [.int .u64 (lc : Int), .int .i64 kc, .string keyc, .string valc]) := by
    have := Blk.new ((w.alloc (.cells #[.int .u64 (la : Int), .int .i64 ka, .string keya, .string vala] 25)).alloc (.cells #[.int .u64 (lb : Int), .int .i64 kb, .string keyb, .string valb] 25)) 25 [.int .u64 (lc : Int), .int .i64 kc, .string keyc, .string valc]
    rw [World.size_alloc, World.size_alloc] at this
    exact this
  have HBW : Hid (Below w.heap.size w (((w.alloc (.cells #[.int .u64 (la : Int), .int .i64 ka, .string keya, .string vala] 25)).alloc (.cells #[.int .u64 (lb : Int), .int .i64 kb, .string keyb, .string valb] 25)).alloc (.cells #[.int .u64 (lc : Int), .int .i64 kc, .string keyc, .string valc] 25))) := (below_two _ _ _).alloc (by simp; omega) _
  have neg1 : -(-x) = x := by omega
  go_enter Try.func9, Try.ntmps9
  go_wp2_with fail
  refine Calls.mono (known_is _) ?_
  rintro e w1 ⟨rfl, hbl⟩
  have HXA1 := hd (HXA.out.keep hbl)
  have HXB1 := hd (HXB.out.keep hbl)
  have HXC1 := hd (HXC.out.keep hbl)
  have HBW1 : Hid (Below w.heap.size w w1) := HBW.out.trans (hbl.mono HBW.out.size)
  clear hbl HXA HXB HXC HBW
  have a0 := HXA1.out.cell 0 _ rfl
  have a1 := HXA1.out.cell 1 _ rfl
  have a2 := HXA1.out.cell 2 _ rfl
  have a3 := HXA1.out.cell 3 _ rfl
  have b0 := HXB1.out.cell 0 _ rfl
  have b1 := HXB1.out.cell 1 _ rfl
  have b2 := HXB1.out.cell 2 _ rfl
  have b3 := HXB1.out.cell 3 _ rfl
  have c0 := HXC1.out.cell 0 _ rfl
  have c1 := HXC1.out.cell 1 _ rfl
  have c2 := HXC1.out.cell 2 _ rfl
  have c3 := HXC1.out.cell 3 _ rfl
  go_wp2_with fail
  refine Calls.mono (HXY.out w1) ?_
  rintro e w2 ⟨rfl, hbl⟩
  have HXA2 := hd (HXA1.out.keep hbl)
  have HXB2 := hd (HXB1.out.keep hbl)
  have HXC2 := hd (HXC1.out.keep hbl)
  have HBW2 : Hid (Below w.heap.size w w2) := HBW1.out.trans (hbl.mono HBW1.out.size)
  clear hbl HXA1 HXB1 HXC1 HBW1 HXY a0 a1 a2 a3 b0 b1 b2 b3 c0 c1 c2 c3
  have a0 := HXA2.out.cell 0 _ rfl
  have a1 := HXA2.out.cell 1 _ rfl
  have a2 := HXA2.out.cell 2 _ rfl
  have a3 := HXA2.out.cell 3 _ rfl
  have b0 := HXB2.out.cell 0 _ rfl
  have b1 := HXB2.out.cell 1 _ rfl
  have b2 := HXB2.out.cell 2 _ rfl
  have b3 := HXB2.out.cell 3 _ rfl
  have c0 := HXC2.out.cell 0 _ rfl
  have c1 := HXC2.out.cell 1 _ rfl
  have c2 := HXC2.out.cell 2 _ rfl
  have c3 := HXC2.out.cell 3 _ rfl
  go_wp2_with fail
  refine Calls.mono (HYZ.out w2) ?_
  rintro e w3 ⟨rfl, hbl⟩
  have HXA3 := hd (HXA2.out.keep hbl)
  have HXB3 := hd (HXB2.out.keep hbl)
  have HXC3 := hd (HXC2.out.keep hbl)
  have HBW3 : Hid (Below w.heap.size w w3) := HBW2.out.trans (hbl.mono HBW2.out.size)
  clear hbl HXA2 HXB2 HXC2 HBW2 HYZ a0 a1 a2 a3 b0 b1 b2 b3 c0 c1 c2 c3
  have a0 := HXA3.out.cell 0 _ rfl
  have a1 := HXA3.out.cell 1 _ rfl
  have a2 := HXA3.out.cell 2 _ rfl
  have a3 := HXA3.out.cell 3 _ rfl
  have b0 := HXB3.out.cell 0 _ rfl
  have b1 := HXB3.out.cell 1 _ rfl
  have b2 := HXB3.out.cell 2 _ rfl
  have b3 := HXB3.out.cell 3 _ rfl
  have c0 := HXC3.out.cell 0 _ rfl
  have c1 := HXC3.out.cell 1 _ rfl
  have c2 := HXC3.out.cell 2 _ rfl
  have c3 := HXC3.out.cell 3 _ rfl
  go_wp2_with fail
  refine Calls.mono (HXZ.out w3) ?_
  rintro e w4 ⟨rfl, hbl⟩
  have HXA4 := hd (HXA3.out.keep hbl)
  have HXB4 := hd (HXB3.out.keep hbl)
  have HXC4 := hd (HXC3.out.keep hbl)
  have HBW4 : Hid (Below w.heap.size w w4) := HBW3.out.trans (hbl.mono HBW3.out.size)
  clear hbl HXA3 HXB3 HXC3 HBW3 HXZ a0 a1 a2 a3 b0 b1 b2 b3 c0 c1 c2 c3
  have a0 := HXA4.out.cell 0 _ rfl
  have a1 := HXA4.out.cell 1 _ rfl
  have a2 := HXA4.out.cell 2 _ rfl
  have a3 := HXA4.out.cell 3 _ rfl
  have b0 := HXB4.out.cell 0 _ rfl
  have b1 := HXB4.out.cell 1 _ rfl
  have b2 := HXB4.out.cell 2 _ rfl
  have b3 := HXB4.out.cell 3 _ rfl
  have HTAIL : Hid ((ea ≠ 0) ∨ (ea = 0 ∧ eb ≠ 0) ∨ (ea = 0 ∧ eb = 0 ∧ la = lb) ∨ (ea = 0 ∧ eb = 0 ∧ la < lb ∧ x < 0) ∨ (ea = 0 ∧ eb = 0 ∧ lb < la ∧ 0 < x)) := by
    show (ea ≠ 0) ∨ _
    have := HW.out
    omega
  clear HT HW
  have HSG := hd hsign
  go_wp2_with fail
  refine Calls.mono (HYX.out w4) ?_
  rintro e w5 ⟨rfl, hbl⟩
  have HXA5 := hd (HXA4.out.keep hbl)
  have HXB5 := hd (HXB4.out.keep hbl)
  have HBW5 : Hid (Below w.heap.size w w5) := HBW4.out.trans (hbl.mono HBW4.out.size)
  clear hbl HXA4 HXB4 HXC4 HBW4 HYX a0 a1 a2 a3 b0 b1 b2 b3
  have a0 := HXA5.out.cell 0 _ rfl
  have a1 := HXA5.out.cell 1 _ rfl
  have a2 := HXA5.out.cell 2 _ rfl
  have a3 := HXA5.out.cell 3 _ rfl
  have b0 := HXB5.out.cell 0 _ rfl
  have b1 := HXB5.out.cell 1 _ rfl
  have b2 := HXB5.out.cell 2 _ rfl
  have b3 := HXB5.out.cell 3 _ rfl
  have hsg := HSG.out
  have e1 : x = 1 := by omega
  subst e1
  clear hsg HSG neg1
  rcases HTAIL.out with h1 | ⟨h1, h2⟩ | ⟨h1, h2, h3⟩ | ⟨h1, h2, h3, h4⟩ | ⟨h1, h2, h3, h4⟩
  · have q1 : (((ea : Nat) : Int) != 0) = true := by simp; omega
    clear HAB
    go_wp2_with fail
    refine Calls.mono (HOA.out _) ?_
    rintro e w' ⟨rfl, hw'⟩
    have hbl : Below w5.heap.size w5 w' := by rw [hw']; exact below_two _ _ _
    have HXA6 := hd (HXA5.out.keep hbl)
    have HXB6 := hd (HXB5.out.keep hbl)
    have HBW6 : Hid (Below w.heap.size w w') := HBW5.out.trans (hbl.mono HBW5.out.size)
    clear hw' hbl HXA5 HXB5 HBW5 a0 a1 a2 a3 b0 b1 b2 b3
    go_wp2_with fail
    refine Calls.mono (HEA.out w') ?_
    rintro e w6 ⟨u, rfl, hbl⟩
    have HXA7 := hd (HXA6.out.keep hbl)
    have HXB7 := hd (HXB6.out.keep hbl)
    have HBW7 : Hid (Below w.heap.size w w6) := HBW6.out.trans (hbl.mono HBW6.out.size)
    clear hbl HXA6 HXB6 HBW6
    have b0 := HXB7.out.cell 0 _ rfl
    have b1 := HXB7.out.cell 1 _ rfl
    have b2 := HXB7.out.cell 2 _ rfl
    have b3 := HXB7.out.cell 3 _ rfl
    go_wp2_with fail
    refine Calls.mono (HOB.out _) ?_
    rintro e w7 ⟨rfl, hw'⟩
    have hbl : Below w6.heap.size w6 w7 := by rw [hw']; exact below_two _ _ _
    have HXA8 := hd (HXA7.out.keep hbl)
    have HXB8 := hd (HXB7.out.keep hbl)
    have HBW8 : Hid (Below w.heap.size w w7) := HBW7.out.trans (hbl.mono HBW7.out.size)
    clear hw' hbl HXA7 HXB7 HBW7 b0 b1 b2 b3
    go_wp2_with fail
    refine Calls.mono (HEB.out w7) ?_
    rintro e w8 ⟨u2, rfl, hbl⟩
    have HXA9 := hd (HXA8.out.keep hbl)
    have HXB9 := hd (HXB8.out.keep hbl)
    have HBW9 : Hid (Below w.heap.size w w8) := HBW8.out.trans (hbl.mono HBW8.out.size)
    clear hbl HXA8 HXB8 HBW8
    have a0 := HXA9.out.cell 0 _ rfl
    have a1 := HXA9.out.cell 1 _ rfl
    have a2 := HXA9.out.cell 2 _ rfl
    have a3 := HXA9.out.cell 3 _ rfl
    have b0 := HXB9.out.cell 0 _ rfl
    have b1 := HXB9.out.cell 1 _ rfl
    have b2 := HXB9.out.cell 2 _ rfl
    have b3 := HXB9.out.cell 3 _ rfl
    go_wp2_with fail
    go_ret
    exact ⟨rfl, HBW9.out⟩
  · have q1 : (((eb : Nat) : Int) != 0) = true := by simp; omega
    subst h1
    clear HAB
    go_wp2_with fail
    refine Calls.mono (HOA.out _) ?_
    rintro e w' ⟨rfl, hw'⟩
    have hbl : Below w5.heap.size w5 w' := by rw [hw']; exact below_two _ _ _
    have HXA6 := hd (HXA5.out.keep hbl)
    have HXB6 := hd (HXB5.out.keep hbl)
    have HBW6 : Hid (Below w.heap.size w w') := HBW5.out.trans (hbl.mono HBW5.out.size)
    clear hw' hbl HXA5 HXB5 HBW5 a0 a1 a2 a3 b0 b1 b2 b3
    go_wp2_with fail
    refine Calls.mono (HEA.out w') ?_
    rintro e w6 ⟨u, rfl, hbl⟩
    have HXA7 := hd (HXA6.out.keep hbl)
    have HXB7 := hd (HXB6.out.keep hbl)
    have HBW7 : Hid (Below w.heap.size w w6) := HBW6.out.trans (hbl.mono HBW6.out.size)
    clear hbl HXA6 HXB6 HBW6
    have b0 := HXB7.out.cell 0 _ rfl
    have b1 := HXB7.out.cell 1 _ rfl
    have b2 := HXB7.out.cell 2 _ rfl
    have b3 := HXB7.out.cell 3 _ rfl
    go_wp2_with fail
    refine Calls.mono (HOB.out _) ?_
    rintro e w7 ⟨rfl, hw'⟩
    have hbl : Below w6.heap.size w6 w7 := by rw [hw']; exact below_two _ _ _
    have HXA8 := hd (HXA7.out.keep hbl)
    have HXB8 := hd (HXB7.out.keep hbl)
    have HBW8 : Hid (Below w.heap.size w w7) := HBW7.out.trans (hbl.mono HBW7.out.size)
    clear hw' hbl HXA7 HXB7 HBW7 b0 b1 b2 b3
    go_wp2_with fail
    refine Calls.mono (HEB.out w7) ?_
    rintro e w8 ⟨u2, rfl, hbl⟩
    have HXA9 := hd (HXA8.out.keep hbl)
    have HXB9 := hd (HXB8.out.keep hbl)
    have HBW9 : Hid (Below w.heap.size w w8) := HBW8.out.trans (hbl.mono HBW8.out.size)
    clear hbl HXA8 HXB8 HBW8
    have a0 := HXA9.out.cell 0 _ rfl
    have a1 := HXA9.out.cell 1 _ rfl
    have a2 := HXA9.out.cell 2 _ rfl
    have a3 := HXA9.out.cell 3 _ rfl
    have b0 := HXB9.out.cell 0 _ rfl
    have b1 := HXB9.out.cell 1 _ rfl
    have b2 := HXB9.out.cell 2 _ rfl
    have b3 := HXB9.out.cell 3 _ rfl
    go_wp2_with fail
    go_ret
    exact ⟨rfl, HBW9.out⟩
  · subst h1 h2 h3
    clear HAB
    go_wp2_with fail
    refine Calls.mono (HOA.out _) ?_
    rintro e w' ⟨rfl, hw'⟩
    have hbl : Below w5.heap.size w5 w' := by rw [hw']; exact below_two _ _ _
    have HXA6 := hd (HXA5.out.keep hbl)
    have HXB6 := hd (HXB5.out.keep hbl)
    have HBW6 : Hid (Below w.heap.size w w') := HBW5.out.trans (hbl.mono HBW5.out.size)
    clear hw' hbl HXA5 HXB5 HBW5 a0 a1 a2 a3 b0 b1 b2 b3
    go_wp2_with fail
    refine Calls.mono (HEA.out w') ?_
    rintro e w6 ⟨u, rfl, hbl⟩
    have HXA7 := hd (HXA6.out.keep hbl)
    have HXB7 := hd (HXB6.out.keep hbl)
    have HBW7 : Hid (Below w.heap.size w w6) := HBW6.out.trans (hbl.mono HBW6.out.size)
    clear hbl HXA6 HXB6 HBW6
    have b0 := HXB7.out.cell 0 _ rfl
    have b1 := HXB7.out.cell 1 _ rfl
    have b2 := HXB7.out.cell 2 _ rfl
    have b3 := HXB7.out.cell 3 _ rfl
    go_wp2_with fail
    refine Calls.mono (HOB.out _) ?_
    rintro e w7 ⟨rfl, hw'⟩
    have hbl : Below w6.heap.size w6 w7 := by rw [hw']; exact below_two _ _ _
    have HXA8 := hd (HXA7.out.keep hbl)
    have HXB8 := hd (HXB7.out.keep hbl)
    have HBW8 : Hid (Below w.heap.size w w7) := HBW7.out.trans (hbl.mono HBW7.out.size)
    clear hw' hbl HXA7 HXB7 HBW7 b0 b1 b2 b3
    go_wp2_with fail
    refine Calls.mono (HEB.out w7) ?_
    rintro e w8 ⟨u2, rfl, hbl⟩
    have HXA9 := hd (HXA8.out.keep hbl)
    have HXB9 := hd (HXB8.out.keep hbl)
    have HBW9 : Hid (Below w.heap.size w w8) := HBW8.out.trans (hbl.mono HBW8.out.size)
    clear hbl HXA8 HXB8 HBW8
    have a0 := HXA9.out.cell 0 _ rfl
    have a1 := HXA9.out.cell 1 _ rfl
    have a2 := HXA9.out.cell 2 _ rfl
    have a3 := HXA9.out.cell 3 _ rfl
    have b0 := HXB9.out.cell 0 _ rfl
    have b1 := HXB9.out.cell 1 _ rfl
    have b2 := HXB9.out.cell 2 _ rfl
    have b3 := HXB9.out.cell 3 _ rfl
    go_wp2_with fail
    go_ret
    exact ⟨rfl, HBW9.out⟩
  · omega
  · subst h1 h2
    have q5 : ((la : Int) == (lb : Int)) = false := by simp; omega
    have q6 : decide ((la : Int) < (lb : Int)) = false := by rw [decide_eq_false_iff_not]; omega
    have q7 : decide (la < lb) = false := by rw [decide_eq_false_iff_not]; omega
    clear HAB h4
    go_wp2_with fail
    refine Calls.mono (HOA.out _) ?_
    rintro e w' ⟨rfl, hw'⟩
    have hbl : Below w5.heap.size w5 w' := by rw [hw']; exact below_two _ _ _
    have HXA6 := hd (HXA5.out.keep hbl)
    have HXB6 := hd (HXB5.out.keep hbl)
    have HBW6 : Hid (Below w.heap.size w w') := HBW5.out.trans (hbl.mono HBW5.out.size)
    clear hw' hbl HXA5 HXB5 HBW5 a0 a1 a2 a3 b0 b1 b2 b3
    go_wp2_with fail
    refine Calls.mono (HEA.out w') ?_
    rintro e w6 ⟨u, rfl, hbl⟩
    have HXA7 := hd (HXA6.out.keep hbl)
    have HXB7 := hd (HXB6.out.keep hbl)
    have HBW7 : Hid (Below w.heap.size w w6) := HBW6.out.trans (hbl.mono HBW6.out.size)
    clear hbl HXA6 HXB6 HBW6
    have b0 := HXB7.out.cell 0 _ rfl
    have b1 := HXB7.out.cell 1 _ rfl
    have b2 := HXB7.out.cell 2 _ rfl
    have b3 := HXB7.out.cell 3 _ rfl
    go_wp2_with fail
    refine Calls.mono (HOB.out _) ?_
    rintro e w7 ⟨rfl, hw'⟩
    have hbl : Below w6.heap.size w6 w7 := by rw [hw']; exact below_two _ _ _
    have HXA8 := hd (HXA7.out.keep hbl)
    have HXB8 := hd (HXB7.out.keep hbl)
    have HBW8 : Hid (Below w.heap.size w w7) := HBW7.out.trans (hbl.mono HBW7.out.size)
    clear hw' hbl HXA7 HXB7 HBW7 b0 b1 b2 b3
    go_wp2_with fail
    refine Calls.mono (HEB.out w7) ?_
    rintro e w8 ⟨u2, rfl, hbl⟩
    have HXA9 := hd (HXA8.out.keep hbl)
    have HXB9 := hd (HXB8.out.keep hbl)
    have HBW9 : Hid (Below w.heap.size w w8) := HBW8.out.trans (hbl.mono HBW8.out.size)
    clear hbl HXA8 HXB8 HBW8
    have a0 := HXA9.out.cell 0 _ rfl
    have a1 := HXA9.out.cell 1 _ rfl
    have a2 := HXA9.out.cell 2 _ rfl
    have a3 := HXA9.out.cell 3 _ rfl
    have b0 := HXB9.out.cell 0 _ rfl
    have b1 := HXB9.out.cell 1 _ rfl
    have b2 := HXB9.out.cell 2 _ rfl
    have b3 := HXB9.out.cell 3 _ rfl
    go_wp2_with fail
    go_ret
    exact ⟨rfl, HBW9.out⟩
set_option maxRecDepth 100000 in
set_option maxHeartbeats 4000000 in
theorem walk_np (a b c : Rec) (w : World) (ha : a.lsn < 18446744073709551616) (hb : b.lsn < 18446744073709551616) (hc : c.lsn < 18446744073709551616) (hsign : cp a b < 0 ∧ 0 < cp b c) :
    Calls Try.prog 9 #[.agg (rv a), .agg (rv b), .agg (rv c)] w fun e w' => e = .returned (.bool true) ∧ Below w.heap.size w w' := by
  have HXY := hd (compare_is a b ha hb)
  have HYZ := hd (compare_is b c hb hc)
  have HXZ := hd (compare_is a c ha hc)
  have HYX := hd (compare_is b a hb ha)
  rw [cp_neg a b] at HYX
  have HT := hd (cp_trans a b c)
  have hr1 := cp_range a b
  have hr2 := cp_range b c
  have hr3 := cp_range a c
  have HS := hd (fun h hr => cp_same ha hb h hr)
  have HW := hd (cp_ways a b)
  have HOA := hd (of_is a)
  have HOB := hd (of_is b)
  have HEA := hd (encOf_is a ha)
  have HEB := hd (encOf_is b hb)
  obtain ⟨nb, hn1, hn2⟩ := rec_neq a b
  have HN2 := hd hn2
  clear hn2
  generalize rf (ofR a) = ea at *
  generalize rf (ofR b) = eb at *
  generalize cb (bd (ofR a)) (bd (ofR b)) = qq at *
  generalize cp a b = x at *
  generalize cp b c = y at *
  generalize cp a c = z at *
  have HAB : Hid (x = 0 → (ea = 0 ∨ eb = 0) → nb = false) := fun h1 h2 => HN2.out.2 (HS.out h1 h2)
  clear HS HN2
  obtain ⟨la, ka, keya, vala⟩ := a
  obtain ⟨lb, kb, keyb, valb⟩ := b
  obtain ⟨lc, kc, keyc, valc⟩ := c
  simp only [rv, fv, ofR, zp, ze] at *
  have hne : ∀ w, (binOp .neq 25 (.agg #[.int .u64 (la : Int), .int .i64 ka, .string keya, .string vala]) (.agg #[.int .u64 (lb : Int), .int .i64 kb, .string keyb, .string valb])).run Try.prog w = .ok (.bool nb) w := hn1
  clear hn1
  have HXA : Hid (Blk (((w.alloc (.cells #[.int .u64 (la : Int), .int .i64 ka, .string keya, .string vala] 25)).alloc (.cells #[.int .u64 (lb : Int), .int .i64 kb, .string keyb, .string valb] 25)).alloc (.cells #[.int .u64 (lc : Int), .int .i64 kc, .string keyc, .string valc] 25)) w.heap.size 25 [.int .u64 (la : Int), .int .i64 ka, .string keya, .string vala]) := ((Blk.new w _ _).alloc _).alloc _
  have HXB : Hid (Blk (((w.alloc (.cells #[.int .u64 (la : Int), .int .i64 ka, .string keya, .string vala] 25)).alloc (.cells #[.int .u64 (lb : Int), .int .i64 kb, .string keyb, .string valb] 25)).alloc (.cells #[.int .u64 (lc : Int), .int .i64 kc, .string keyc, .string valc] 25)) (w.heap.size + 1) 25 [.int .u64 (lb : Int), .int .i64 kb, .string keyb, .string valb]) := by
    have := (Blk.new (w.alloc (.cells #[.int .u64 (la : Int), .int .i64 ka, .string keya, .string vala] 25)) 25 [.int .u64 (lb : Int), .int .i64 kb, .string keyb, .string valb]).alloc (.cells #[.int .u64 (lc : Int), .int .i64 kc, .string keyc, .string valc] 25)
    rw [World.size_alloc] at this
    exact this
  have HXC : Hid (Blk (((w.alloc (.cells #[.int .u64 (la : Int), .int .i64 ka, .string keya, .string vala] 25)).alloc (.cells #[.int .u64 (lb : Int), .int .i64 kb, .string keyb, .string valb] 25)).alloc (.cells #[.int .u64 (lc : Int), .int .i64 kc, .string keyc, .string valc] 25)) (w.heap.size + 1 + 1) 25 [.int .u64 (lc : Int), .int .i64 kc, .string keyc, .string valc]) := by
    have := Blk.new ((w.alloc (.cells #[.int .u64 (la : Int), .int .i64 ka, .string keya, .string vala] 25)).alloc (.cells #[.int .u64 (lb : Int), .int .i64 kb, .string keyb, .string valb] 25)) 25 [.int .u64 (lc : Int), .int .i64 kc, .string keyc, .string valc]
    rw [World.size_alloc, World.size_alloc] at this
    exact this
  have HBW : Hid (Below w.heap.size w (((w.alloc (.cells #[.int .u64 (la : Int), .int .i64 ka, .string keya, .string vala] 25)).alloc (.cells #[.int .u64 (lb : Int), .int .i64 kb, .string keyb, .string valb] 25)).alloc (.cells #[.int .u64 (lc : Int), .int .i64 kc, .string keyc, .string valc] 25))) := (below_two _ _ _).alloc (by simp; omega) _
  have neg1 : -(-x) = x := by omega
  go_enter Try.func9, Try.ntmps9
  go_wp2_with fail
  refine Calls.mono (known_is _) ?_
  rintro e w1 ⟨rfl, hbl⟩
  have HXA1 := hd (HXA.out.keep hbl)
  have HXB1 := hd (HXB.out.keep hbl)
  have HXC1 := hd (HXC.out.keep hbl)
  have HBW1 : Hid (Below w.heap.size w w1) := HBW.out.trans (hbl.mono HBW.out.size)
  clear hbl HXA HXB HXC HBW
  have a0 := HXA1.out.cell 0 _ rfl
  have a1 := HXA1.out.cell 1 _ rfl
  have a2 := HXA1.out.cell 2 _ rfl
  have a3 := HXA1.out.cell 3 _ rfl
  have b0 := HXB1.out.cell 0 _ rfl
  have b1 := HXB1.out.cell 1 _ rfl
  have b2 := HXB1.out.cell 2 _ rfl
  have b3 := HXB1.out.cell 3 _ rfl
  have c0 := HXC1.out.cell 0 _ rfl
  have c1 := HXC1.out.cell 1 _ rfl
  have c2 := HXC1.out.cell 2 _ rfl
  have c3 := HXC1.out.cell 3 _ rfl
  go_wp2_with fail
  refine Calls.mono (HXY.out w1) ?_
  rintro e w2 ⟨rfl, hbl⟩
  have HXA2 := hd (HXA1.out.keep hbl)
  have HXB2 := hd (HXB1.out.keep hbl)
  have HXC2 := hd (HXC1.out.keep hbl)
  have HBW2 : Hid (Below w.heap.size w w2) := HBW1.out.trans (hbl.mono HBW1.out.size)
  clear hbl HXA1 HXB1 HXC1 HBW1 HXY a0 a1 a2 a3 b0 b1 b2 b3 c0 c1 c2 c3
  have a0 := HXA2.out.cell 0 _ rfl
  have a1 := HXA2.out.cell 1 _ rfl
  have a2 := HXA2.out.cell 2 _ rfl
  have a3 := HXA2.out.cell 3 _ rfl
  have b0 := HXB2.out.cell 0 _ rfl
  have b1 := HXB2.out.cell 1 _ rfl
  have b2 := HXB2.out.cell 2 _ rfl
  have b3 := HXB2.out.cell 3 _ rfl
  have c0 := HXC2.out.cell 0 _ rfl
  have c1 := HXC2.out.cell 1 _ rfl
  have c2 := HXC2.out.cell 2 _ rfl
  have c3 := HXC2.out.cell 3 _ rfl
  go_wp2_with fail
  refine Calls.mono (HYZ.out w2) ?_
  rintro e w3 ⟨rfl, hbl⟩
  have HXA3 := hd (HXA2.out.keep hbl)
  have HXB3 := hd (HXB2.out.keep hbl)
  have HXC3 := hd (HXC2.out.keep hbl)
  have HBW3 : Hid (Below w.heap.size w w3) := HBW2.out.trans (hbl.mono HBW2.out.size)
  clear hbl HXA2 HXB2 HXC2 HBW2 HYZ a0 a1 a2 a3 b0 b1 b2 b3 c0 c1 c2 c3
  have a0 := HXA3.out.cell 0 _ rfl
  have a1 := HXA3.out.cell 1 _ rfl
  have a2 := HXA3.out.cell 2 _ rfl
  have a3 := HXA3.out.cell 3 _ rfl
  have b0 := HXB3.out.cell 0 _ rfl
  have b1 := HXB3.out.cell 1 _ rfl
  have b2 := HXB3.out.cell 2 _ rfl
  have b3 := HXB3.out.cell 3 _ rfl
  have c0 := HXC3.out.cell 0 _ rfl
  have c1 := HXC3.out.cell 1 _ rfl
  have c2 := HXC3.out.cell 2 _ rfl
  have c3 := HXC3.out.cell 3 _ rfl
  go_wp2_with fail
  refine Calls.mono (HXZ.out w3) ?_
  rintro e w4 ⟨rfl, hbl⟩
  have HXA4 := hd (HXA3.out.keep hbl)
  have HXB4 := hd (HXB3.out.keep hbl)
  have HXC4 := hd (HXC3.out.keep hbl)
  have HBW4 : Hid (Below w.heap.size w w4) := HBW3.out.trans (hbl.mono HBW3.out.size)
  clear hbl HXA3 HXB3 HXC3 HBW3 HXZ a0 a1 a2 a3 b0 b1 b2 b3 c0 c1 c2 c3
  have a0 := HXA4.out.cell 0 _ rfl
  have a1 := HXA4.out.cell 1 _ rfl
  have a2 := HXA4.out.cell 2 _ rfl
  have a3 := HXA4.out.cell 3 _ rfl
  have b0 := HXB4.out.cell 0 _ rfl
  have b1 := HXB4.out.cell 1 _ rfl
  have b2 := HXB4.out.cell 2 _ rfl
  have b3 := HXB4.out.cell 3 _ rfl
  have HTAIL : Hid ((ea ≠ 0) ∨ (ea = 0 ∧ eb ≠ 0) ∨ (ea = 0 ∧ eb = 0 ∧ la = lb) ∨ (ea = 0 ∧ eb = 0 ∧ la < lb ∧ x < 0) ∨ (ea = 0 ∧ eb = 0 ∧ lb < la ∧ 0 < x)) := by
    show (ea ≠ 0) ∨ _
    have := HW.out
    omega
  clear HT HW
  have HSG := hd hsign
  go_wp2_with fail
  refine Calls.mono (HYX.out w4) ?_
  rintro e w5 ⟨rfl, hbl⟩
  have HXA5 := hd (HXA4.out.keep hbl)
  have HXB5 := hd (HXB4.out.keep hbl)
  have HBW5 : Hid (Below w.heap.size w w5) := HBW4.out.trans (hbl.mono HBW4.out.size)
  clear hbl HXA4 HXB4 HXC4 HBW4 HYX a0 a1 a2 a3 b0 b1 b2 b3
  have a0 := HXA5.out.cell 0 _ rfl
  have a1 := HXA5.out.cell 1 _ rfl
  have a2 := HXA5.out.cell 2 _ rfl
  have a3 := HXA5.out.cell 3 _ rfl
  have b0 := HXB5.out.cell 0 _ rfl
  have b1 := HXB5.out.cell 1 _ rfl
  have b2 := HXB5.out.cell 2 _ rfl
  have b3 := HXB5.out.cell 3 _ rfl
  have hsg := HSG.out
  have e1 : x = -1 := by omega
  have e2 : y = 1 := by omega
  subst e1 e2
  clear hsg HSG neg1
  rcases HTAIL.out with h1 | ⟨h1, h2⟩ | ⟨h1, h2, h3⟩ | ⟨h1, h2, h3, h4⟩ | ⟨h1, h2, h3, h4⟩
  · have q1 : (((ea : Nat) : Int) != 0) = true := by simp; omega
    clear HAB
    go_wp2_with fail
    refine Calls.mono (HOA.out _) ?_
    rintro e w' ⟨rfl, hw'⟩
    have hbl : Below w5.heap.size w5 w' := by rw [hw']; exact below_two _ _ _
    have HXA6 := hd (HXA5.out.keep hbl)
    have HXB6 := hd (HXB5.out.keep hbl)
    have HBW6 : Hid (Below w.heap.size w w') := HBW5.out.trans (hbl.mono HBW5.out.size)
    clear hw' hbl HXA5 HXB5 HBW5 a0 a1 a2 a3 b0 b1 b2 b3
    go_wp2_with fail
    refine Calls.mono (HEA.out w') ?_
    rintro e w6 ⟨u, rfl, hbl⟩
    have HXA7 := hd (HXA6.out.keep hbl)
    have HXB7 := hd (HXB6.out.keep hbl)
    have HBW7 : Hid (Below w.heap.size w w6) := HBW6.out.trans (hbl.mono HBW6.out.size)
    clear hbl HXA6 HXB6 HBW6
    have b0 := HXB7.out.cell 0 _ rfl
    have b1 := HXB7.out.cell 1 _ rfl
    have b2 := HXB7.out.cell 2 _ rfl
    have b3 := HXB7.out.cell 3 _ rfl
    go_wp2_with fail
    refine Calls.mono (HOB.out _) ?_
    rintro e w7 ⟨rfl, hw'⟩
    have hbl : Below w6.heap.size w6 w7 := by rw [hw']; exact below_two _ _ _
    have HXA8 := hd (HXA7.out.keep hbl)
    have HXB8 := hd (HXB7.out.keep hbl)
    have HBW8 : Hid (Below w.heap.size w w7) := HBW7.out.trans (hbl.mono HBW7.out.size)
    clear hw' hbl HXA7 HXB7 HBW7 b0 b1 b2 b3
    go_wp2_with fail
    refine Calls.mono (HEB.out w7) ?_
    rintro e w8 ⟨u2, rfl, hbl⟩
    have HXA9 := hd (HXA8.out.keep hbl)
    have HXB9 := hd (HXB8.out.keep hbl)
    have HBW9 : Hid (Below w.heap.size w w8) := HBW8.out.trans (hbl.mono HBW8.out.size)
    clear hbl HXA8 HXB8 HBW8
    have a0 := HXA9.out.cell 0 _ rfl
    have a1 := HXA9.out.cell 1 _ rfl
    have a2 := HXA9.out.cell 2 _ rfl
    have a3 := HXA9.out.cell 3 _ rfl
    have b0 := HXB9.out.cell 0 _ rfl
    have b1 := HXB9.out.cell 1 _ rfl
    have b2 := HXB9.out.cell 2 _ rfl
    have b3 := HXB9.out.cell 3 _ rfl
    go_wp2_with fail
    go_ret
    exact ⟨rfl, HBW9.out⟩
  · have q1 : (((eb : Nat) : Int) != 0) = true := by simp; omega
    subst h1
    clear HAB
    go_wp2_with fail
    refine Calls.mono (HOA.out _) ?_
    rintro e w' ⟨rfl, hw'⟩
    have hbl : Below w5.heap.size w5 w' := by rw [hw']; exact below_two _ _ _
    have HXA6 := hd (HXA5.out.keep hbl)
    have HXB6 := hd (HXB5.out.keep hbl)
    have HBW6 : Hid (Below w.heap.size w w') := HBW5.out.trans (hbl.mono HBW5.out.size)
    clear hw' hbl HXA5 HXB5 HBW5 a0 a1 a2 a3 b0 b1 b2 b3
    go_wp2_with fail
    refine Calls.mono (HEA.out w') ?_
    rintro e w6 ⟨u, rfl, hbl⟩
    have HXA7 := hd (HXA6.out.keep hbl)
    have HXB7 := hd (HXB6.out.keep hbl)
    have HBW7 : Hid (Below w.heap.size w w6) := HBW6.out.trans (hbl.mono HBW6.out.size)
    clear hbl HXA6 HXB6 HBW6
    have b0 := HXB7.out.cell 0 _ rfl
    have b1 := HXB7.out.cell 1 _ rfl
    have b2 := HXB7.out.cell 2 _ rfl
    have b3 := HXB7.out.cell 3 _ rfl
    go_wp2_with fail
    refine Calls.mono (HOB.out _) ?_
    rintro e w7 ⟨rfl, hw'⟩
    have hbl : Below w6.heap.size w6 w7 := by rw [hw']; exact below_two _ _ _
    have HXA8 := hd (HXA7.out.keep hbl)
    have HXB8 := hd (HXB7.out.keep hbl)
    have HBW8 : Hid (Below w.heap.size w w7) := HBW7.out.trans (hbl.mono HBW7.out.size)
    clear hw' hbl HXA7 HXB7 HBW7 b0 b1 b2 b3
    go_wp2_with fail
    refine Calls.mono (HEB.out w7) ?_
    rintro e w8 ⟨u2, rfl, hbl⟩
    have HXA9 := hd (HXA8.out.keep hbl)
    have HXB9 := hd (HXB8.out.keep hbl)
    have HBW9 : Hid (Below w.heap.size w w8) := HBW8.out.trans (hbl.mono HBW8.out.size)
    clear hbl HXA8 HXB8 HBW8
    have a0 := HXA9.out.cell 0 _ rfl
    have a1 := HXA9.out.cell 1 _ rfl
    have a2 := HXA9.out.cell 2 _ rfl
    have a3 := HXA9.out.cell 3 _ rfl
    have b0 := HXB9.out.cell 0 _ rfl
    have b1 := HXB9.out.cell 1 _ rfl
    have b2 := HXB9.out.cell 2 _ rfl
    have b3 := HXB9.out.cell 3 _ rfl
    go_wp2_with fail
    go_ret
    exact ⟨rfl, HBW9.out⟩
  · subst h1 h2 h3
    clear HAB
    go_wp2_with fail
    refine Calls.mono (HOA.out _) ?_
    rintro e w' ⟨rfl, hw'⟩
    have hbl : Below w5.heap.size w5 w' := by rw [hw']; exact below_two _ _ _
    have HXA6 := hd (HXA5.out.keep hbl)
    have HXB6 := hd (HXB5.out.keep hbl)
    have HBW6 : Hid (Below w.heap.size w w') := HBW5.out.trans (hbl.mono HBW5.out.size)
    clear hw' hbl HXA5 HXB5 HBW5 a0 a1 a2 a3 b0 b1 b2 b3
    go_wp2_with fail
    refine Calls.mono (HEA.out w') ?_
    rintro e w6 ⟨u, rfl, hbl⟩
    have HXA7 := hd (HXA6.out.keep hbl)
    have HXB7 := hd (HXB6.out.keep hbl)
    have HBW7 : Hid (Below w.heap.size w w6) := HBW6.out.trans (hbl.mono HBW6.out.size)
    clear hbl HXA6 HXB6 HBW6
    have b0 := HXB7.out.cell 0 _ rfl
    have b1 := HXB7.out.cell 1 _ rfl
    have b2 := HXB7.out.cell 2 _ rfl
    have b3 := HXB7.out.cell 3 _ rfl
    go_wp2_with fail
    refine Calls.mono (HOB.out _) ?_
    rintro e w7 ⟨rfl, hw'⟩
    have hbl : Below w6.heap.size w6 w7 := by rw [hw']; exact below_two _ _ _
    have HXA8 := hd (HXA7.out.keep hbl)
    have HXB8 := hd (HXB7.out.keep hbl)
    have HBW8 : Hid (Below w.heap.size w w7) := HBW7.out.trans (hbl.mono HBW7.out.size)
    clear hw' hbl HXA7 HXB7 HBW7 b0 b1 b2 b3
    go_wp2_with fail
    refine Calls.mono (HEB.out w7) ?_
    rintro e w8 ⟨u2, rfl, hbl⟩
    have HXA9 := hd (HXA8.out.keep hbl)
    have HXB9 := hd (HXB8.out.keep hbl)
    have HBW9 : Hid (Below w.heap.size w w8) := HBW8.out.trans (hbl.mono HBW8.out.size)
    clear hbl HXA8 HXB8 HBW8
    have a0 := HXA9.out.cell 0 _ rfl
    have a1 := HXA9.out.cell 1 _ rfl
    have a2 := HXA9.out.cell 2 _ rfl
    have a3 := HXA9.out.cell 3 _ rfl
    have b0 := HXB9.out.cell 0 _ rfl
    have b1 := HXB9.out.cell 1 _ rfl
    have b2 := HXB9.out.cell 2 _ rfl
    have b3 := HXB9.out.cell 3 _ rfl
    go_wp2_with fail
    go_ret
    exact ⟨rfl, HBW9.out⟩
  · subst h1 h2
    have q5 : ((la : Int) == (lb : Int)) = false := by simp; omega
    have q6 : decide ((la : Int) < (lb : Int)) = true := by rw [decide_eq_true_iff]; omega
    clear HAB h4
    go_wp2_with fail
    refine Calls.mono (HOA.out _) ?_
    rintro e w' ⟨rfl, hw'⟩
    have hbl : Below w5.heap.size w5 w' := by rw [hw']; exact below_two _ _ _
    have HXA6 := hd (HXA5.out.keep hbl)
    have HXB6 := hd (HXB5.out.keep hbl)
    have HBW6 : Hid (Below w.heap.size w w') := HBW5.out.trans (hbl.mono HBW5.out.size)
    clear hw' hbl HXA5 HXB5 HBW5 a0 a1 a2 a3 b0 b1 b2 b3
    go_wp2_with fail
    refine Calls.mono (HEA.out w') ?_
    rintro e w6 ⟨u, rfl, hbl⟩
    have HXA7 := hd (HXA6.out.keep hbl)
    have HXB7 := hd (HXB6.out.keep hbl)
    have HBW7 : Hid (Below w.heap.size w w6) := HBW6.out.trans (hbl.mono HBW6.out.size)
    clear hbl HXA6 HXB6 HBW6
    have b0 := HXB7.out.cell 0 _ rfl
    have b1 := HXB7.out.cell 1 _ rfl
    have b2 := HXB7.out.cell 2 _ rfl
    have b3 := HXB7.out.cell 3 _ rfl
    go_wp2_with fail
    refine Calls.mono (HOB.out _) ?_
    rintro e w7 ⟨rfl, hw'⟩
    have hbl : Below w6.heap.size w6 w7 := by rw [hw']; exact below_two _ _ _
    have HXA8 := hd (HXA7.out.keep hbl)
    have HXB8 := hd (HXB7.out.keep hbl)
    have HBW8 : Hid (Below w.heap.size w w7) := HBW7.out.trans (hbl.mono HBW7.out.size)
    clear hw' hbl HXA7 HXB7 HBW7 b0 b1 b2 b3
    go_wp2_with fail
    refine Calls.mono (HEB.out w7) ?_
    rintro e w8 ⟨u2, rfl, hbl⟩
    have HXA9 := hd (HXA8.out.keep hbl)
    have HXB9 := hd (HXB8.out.keep hbl)
    have HBW9 : Hid (Below w.heap.size w w8) := HBW8.out.trans (hbl.mono HBW8.out.size)
    clear hbl HXA8 HXB8 HBW8
    have a0 := HXA9.out.cell 0 _ rfl
    have a1 := HXA9.out.cell 1 _ rfl
    have a2 := HXA9.out.cell 2 _ rfl
    have a3 := HXA9.out.cell 3 _ rfl
    have b0 := HXB9.out.cell 0 _ rfl
    have b1 := HXB9.out.cell 1 _ rfl
    have b2 := HXB9.out.cell 2 _ rfl
    have b3 := HXB9.out.cell 3 _ rfl
    go_wp2_with fail
    go_ret
    exact ⟨rfl, HBW9.out⟩
  · omega
set_option maxRecDepth 100000 in
set_option maxHeartbeats 4000000 in
theorem walk_zp (a b c : Rec) (w : World) (ha : a.lsn < 18446744073709551616) (hb : b.lsn < 18446744073709551616) (hc : c.lsn < 18446744073709551616) (hsign : cp a b = 0 ∧ 0 < cp b c) :
    Calls Try.prog 9 #[.agg (rv a), .agg (rv b), .agg (rv c)] w fun e w' => e = .returned (.bool true) ∧ Below w.heap.size w w' := by
  have HXY := hd (compare_is a b ha hb)
  have HYZ := hd (compare_is b c hb hc)
  have HXZ := hd (compare_is a c ha hc)
  have HYX := hd (compare_is b a hb ha)
  rw [cp_neg a b] at HYX
  have HT := hd (cp_trans a b c)
  have hr1 := cp_range a b
  have hr2 := cp_range b c
  have hr3 := cp_range a c
  have HS := hd (fun h hr => cp_same ha hb h hr)
  have HW := hd (cp_ways a b)
  have HOA := hd (of_is a)
  have HOB := hd (of_is b)
  have HEA := hd (encOf_is a ha)
  have HEB := hd (encOf_is b hb)
  obtain ⟨nb, hn1, hn2⟩ := rec_neq a b
  have HN2 := hd hn2
  clear hn2
  generalize rf (ofR a) = ea at *
  generalize rf (ofR b) = eb at *
  generalize cb (bd (ofR a)) (bd (ofR b)) = qq at *
  generalize cp a b = x at *
  generalize cp b c = y at *
  generalize cp a c = z at *
  have HAB : Hid (x = 0 → (ea = 0 ∨ eb = 0) → nb = false) := fun h1 h2 => HN2.out.2 (HS.out h1 h2)
  clear HS HN2
  obtain ⟨la, ka, keya, vala⟩ := a
  obtain ⟨lb, kb, keyb, valb⟩ := b
  obtain ⟨lc, kc, keyc, valc⟩ := c
  simp only [rv, fv, ofR, zp, ze] at *
  have hne : ∀ w, (binOp .neq 25 (.agg #[.int .u64 (la : Int), .int .i64 ka, .string keya, .string vala]) (.agg #[.int .u64 (lb : Int), .int .i64 kb, .string keyb, .string valb])).run Try.prog w = .ok (.bool nb) w := hn1
  clear hn1
  have HXA : Hid (Blk (((w.alloc (.cells #[.int .u64 (la : Int), .int .i64 ka, .string keya, .string vala] 25)).alloc (.cells #[.int .u64 (lb : Int), .int .i64 kb, .string keyb, .string valb] 25)).alloc (.cells #[.int .u64 (lc : Int), .int .i64 kc, .string keyc, .string valc] 25)) w.heap.size 25 [.int .u64 (la : Int), .int .i64 ka, .string keya, .string vala]) := ((Blk.new w _ _).alloc _).alloc _
  have HXB : Hid (Blk (((w.alloc (.cells #[.int .u64 (la : Int), .int .i64 ka, .string keya, .string vala] 25)).alloc (.cells #[.int .u64 (lb : Int), .int .i64 kb, .string keyb, .string valb] 25)).alloc (.cells #[.int .u64 (lc : Int), .int .i64 kc, .string keyc, .string valc] 25)) (w.heap.size + 1) 25 [.int .u64 (lb : Int), .int .i64 kb, .string keyb, .string valb]) := by
    have := (Blk.new (w.alloc (.cells #[.int .u64 (la : Int), .int .i64 ka, .string keya, .string vala] 25)) 25 [.int .u64 (lb : Int), .int .i64 kb, .string keyb, .string valb]).alloc (.cells #[.int .u64 (lc : Int), .int .i64 kc, .string keyc, .string valc] 25)
    rw [World.size_alloc] at this
    exact this
  have HXC : Hid (Blk (((w.alloc (.cells #[.int .u64 (la : Int), .int .i64 ka, .string keya, .string vala] 25)).alloc (.cells #[.int .u64 (lb : Int), .int .i64 kb, .string keyb, .string valb] 25)).alloc (.cells #[.int .u64 (lc : Int), .int .i64 kc, .string keyc, .string valc] 25)) (w.heap.size + 1 + 1) 25 [.int .u64 (lc : Int), .int .i64 kc, .string keyc, .string valc]) := by
    have := Blk.new ((w.alloc (.cells #[.int .u64 (la : Int), .int .i64 ka, .string keya, .string vala] 25)).alloc (.cells #[.int .u64 (lb : Int), .int .i64 kb, .string keyb, .string valb] 25)) 25 [.int .u64 (lc : Int), .int .i64 kc, .string keyc, .string valc]
    rw [World.size_alloc, World.size_alloc] at this
    exact this
  have HBW : Hid (Below w.heap.size w (((w.alloc (.cells #[.int .u64 (la : Int), .int .i64 ka, .string keya, .string vala] 25)).alloc (.cells #[.int .u64 (lb : Int), .int .i64 kb, .string keyb, .string valb] 25)).alloc (.cells #[.int .u64 (lc : Int), .int .i64 kc, .string keyc, .string valc] 25))) := (below_two _ _ _).alloc (by simp; omega) _
  have neg1 : -(-x) = x := by omega
  go_enter Try.func9, Try.ntmps9
  go_wp2_with fail
  refine Calls.mono (known_is _) ?_
  rintro e w1 ⟨rfl, hbl⟩
  have HXA1 := hd (HXA.out.keep hbl)
  have HXB1 := hd (HXB.out.keep hbl)
  have HXC1 := hd (HXC.out.keep hbl)
  have HBW1 : Hid (Below w.heap.size w w1) := HBW.out.trans (hbl.mono HBW.out.size)
  clear hbl HXA HXB HXC HBW
  have a0 := HXA1.out.cell 0 _ rfl
  have a1 := HXA1.out.cell 1 _ rfl
  have a2 := HXA1.out.cell 2 _ rfl
  have a3 := HXA1.out.cell 3 _ rfl
  have b0 := HXB1.out.cell 0 _ rfl
  have b1 := HXB1.out.cell 1 _ rfl
  have b2 := HXB1.out.cell 2 _ rfl
  have b3 := HXB1.out.cell 3 _ rfl
  have c0 := HXC1.out.cell 0 _ rfl
  have c1 := HXC1.out.cell 1 _ rfl
  have c2 := HXC1.out.cell 2 _ rfl
  have c3 := HXC1.out.cell 3 _ rfl
  go_wp2_with fail
  refine Calls.mono (HXY.out w1) ?_
  rintro e w2 ⟨rfl, hbl⟩
  have HXA2 := hd (HXA1.out.keep hbl)
  have HXB2 := hd (HXB1.out.keep hbl)
  have HXC2 := hd (HXC1.out.keep hbl)
  have HBW2 : Hid (Below w.heap.size w w2) := HBW1.out.trans (hbl.mono HBW1.out.size)
  clear hbl HXA1 HXB1 HXC1 HBW1 HXY a0 a1 a2 a3 b0 b1 b2 b3 c0 c1 c2 c3
  have a0 := HXA2.out.cell 0 _ rfl
  have a1 := HXA2.out.cell 1 _ rfl
  have a2 := HXA2.out.cell 2 _ rfl
  have a3 := HXA2.out.cell 3 _ rfl
  have b0 := HXB2.out.cell 0 _ rfl
  have b1 := HXB2.out.cell 1 _ rfl
  have b2 := HXB2.out.cell 2 _ rfl
  have b3 := HXB2.out.cell 3 _ rfl
  have c0 := HXC2.out.cell 0 _ rfl
  have c1 := HXC2.out.cell 1 _ rfl
  have c2 := HXC2.out.cell 2 _ rfl
  have c3 := HXC2.out.cell 3 _ rfl
  go_wp2_with fail
  refine Calls.mono (HYZ.out w2) ?_
  rintro e w3 ⟨rfl, hbl⟩
  have HXA3 := hd (HXA2.out.keep hbl)
  have HXB3 := hd (HXB2.out.keep hbl)
  have HXC3 := hd (HXC2.out.keep hbl)
  have HBW3 : Hid (Below w.heap.size w w3) := HBW2.out.trans (hbl.mono HBW2.out.size)
  clear hbl HXA2 HXB2 HXC2 HBW2 HYZ a0 a1 a2 a3 b0 b1 b2 b3 c0 c1 c2 c3
  have a0 := HXA3.out.cell 0 _ rfl
  have a1 := HXA3.out.cell 1 _ rfl
  have a2 := HXA3.out.cell 2 _ rfl
  have a3 := HXA3.out.cell 3 _ rfl
  have b0 := HXB3.out.cell 0 _ rfl
  have b1 := HXB3.out.cell 1 _ rfl
  have b2 := HXB3.out.cell 2 _ rfl
  have b3 := HXB3.out.cell 3 _ rfl
  have c0 := HXC3.out.cell 0 _ rfl
  have c1 := HXC3.out.cell 1 _ rfl
  have c2 := HXC3.out.cell 2 _ rfl
  have c3 := HXC3.out.cell 3 _ rfl
  go_wp2_with fail
  refine Calls.mono (HXZ.out w3) ?_
  rintro e w4 ⟨rfl, hbl⟩
  have HXA4 := hd (HXA3.out.keep hbl)
  have HXB4 := hd (HXB3.out.keep hbl)
  have HXC4 := hd (HXC3.out.keep hbl)
  have HBW4 : Hid (Below w.heap.size w w4) := HBW3.out.trans (hbl.mono HBW3.out.size)
  clear hbl HXA3 HXB3 HXC3 HBW3 HXZ a0 a1 a2 a3 b0 b1 b2 b3 c0 c1 c2 c3
  have a0 := HXA4.out.cell 0 _ rfl
  have a1 := HXA4.out.cell 1 _ rfl
  have a2 := HXA4.out.cell 2 _ rfl
  have a3 := HXA4.out.cell 3 _ rfl
  have b0 := HXB4.out.cell 0 _ rfl
  have b1 := HXB4.out.cell 1 _ rfl
  have b2 := HXB4.out.cell 2 _ rfl
  have b3 := HXB4.out.cell 3 _ rfl
  have HTAIL : Hid ((ea ≠ 0) ∨ (ea = 0 ∧ eb ≠ 0) ∨ (ea = 0 ∧ eb = 0 ∧ la = lb) ∨ (ea = 0 ∧ eb = 0 ∧ la < lb ∧ x < 0) ∨ (ea = 0 ∧ eb = 0 ∧ lb < la ∧ 0 < x)) := by
    show (ea ≠ 0) ∨ _
    have := HW.out
    omega
  clear HT HW
  have HSG := hd hsign
  go_wp2_with fail
  refine Calls.mono (HYX.out w4) ?_
  rintro e w5 ⟨rfl, hbl⟩
  have HXA5 := hd (HXA4.out.keep hbl)
  have HXB5 := hd (HXB4.out.keep hbl)
  have HBW5 : Hid (Below w.heap.size w w5) := HBW4.out.trans (hbl.mono HBW4.out.size)
  clear hbl HXA4 HXB4 HXC4 HBW4 HYX a0 a1 a2 a3 b0 b1 b2 b3
  have a0 := HXA5.out.cell 0 _ rfl
  have a1 := HXA5.out.cell 1 _ rfl
  have a2 := HXA5.out.cell 2 _ rfl
  have a3 := HXA5.out.cell 3 _ rfl
  have b0 := HXB5.out.cell 0 _ rfl
  have b1 := HXB5.out.cell 1 _ rfl
  have b2 := HXB5.out.cell 2 _ rfl
  have b3 := HXB5.out.cell 3 _ rfl
  have hsg := HSG.out
  have e1 : x = 0 := by omega
  have e2 : y = 1 := by omega
  subst e1 e2
  clear hsg HSG neg1
  rcases HTAIL.out with h1 | ⟨h1, h2⟩ | ⟨h1, h2, h3⟩ | ⟨_, _, _, h4⟩ | ⟨_, _, _, h4⟩
  · have q1 : (((ea : Nat) : Int) != 0) = true := by simp; omega
    have q2 : (((ea : Nat) : Int) == 0) = false := by simp; omega
    cases nb
    · clear HAB
      go_wp2_with fail
      refine Calls.mono (HOA.out _) ?_
      rintro e w' ⟨rfl, hw'⟩
      have hbl : Below w5.heap.size w5 w' := by rw [hw']; exact below_two _ _ _
      have HXA6 := hd (HXA5.out.keep hbl)
      have HXB6 := hd (HXB5.out.keep hbl)
      have HBW6 : Hid (Below w.heap.size w w') := HBW5.out.trans (hbl.mono HBW5.out.size)
      clear hw' hbl HXA5 HXB5 HBW5 a0 a1 a2 a3 b0 b1 b2 b3
      go_wp2_with fail
      refine Calls.mono (HEA.out w') ?_
      rintro e w6 ⟨u, rfl, hbl⟩
      have HXA7 := hd (HXA6.out.keep hbl)
      have HXB7 := hd (HXB6.out.keep hbl)
      have HBW7 : Hid (Below w.heap.size w w6) := HBW6.out.trans (hbl.mono HBW6.out.size)
      clear hbl HXA6 HXB6 HBW6
      have b0 := HXB7.out.cell 0 _ rfl
      have b1 := HXB7.out.cell 1 _ rfl
      have b2 := HXB7.out.cell 2 _ rfl
      have b3 := HXB7.out.cell 3 _ rfl
      go_wp2_with fail
      refine Calls.mono (HOB.out _) ?_
      rintro e w7 ⟨rfl, hw'⟩
      have hbl : Below w6.heap.size w6 w7 := by rw [hw']; exact below_two _ _ _
      have HXA8 := hd (HXA7.out.keep hbl)
      have HXB8 := hd (HXB7.out.keep hbl)
      have HBW8 : Hid (Below w.heap.size w w7) := HBW7.out.trans (hbl.mono HBW7.out.size)
      clear hw' hbl HXA7 HXB7 HBW7 b0 b1 b2 b3
      go_wp2_with fail
      refine Calls.mono (HEB.out w7) ?_
      rintro e w8 ⟨u2, rfl, hbl⟩
      have HXA9 := hd (HXA8.out.keep hbl)
      have HXB9 := hd (HXB8.out.keep hbl)
      have HBW9 : Hid (Below w.heap.size w w8) := HBW8.out.trans (hbl.mono HBW8.out.size)
      clear hbl HXA8 HXB8 HBW8
      have a0 := HXA9.out.cell 0 _ rfl
      have a1 := HXA9.out.cell 1 _ rfl
      have a2 := HXA9.out.cell 2 _ rfl
      have a3 := HXA9.out.cell 3 _ rfl
      have b0 := HXB9.out.cell 0 _ rfl
      have b1 := HXB9.out.cell 1 _ rfl
      have b2 := HXB9.out.cell 2 _ rfl
      have b3 := HXB9.out.cell 3 _ rfl
      go_wp2_with fail
      go_ret
      exact ⟨rfl, HBW9.out⟩
    · have h2 : eb ≠ 0 := fun h => by have := HAB.out rfl (.inr h); cases this
      have q3 : (((eb : Nat) : Int) == 0) = false := by simp; omega
      clear HAB
      go_wp2_with fail
      refine Calls.mono (HOA.out _) ?_
      rintro e w' ⟨rfl, hw'⟩
      have hbl : Below w5.heap.size w5 w' := by rw [hw']; exact below_two _ _ _
      have HXA6 := hd (HXA5.out.keep hbl)
      have HXB6 := hd (HXB5.out.keep hbl)
      have HBW6 : Hid (Below w.heap.size w w') := HBW5.out.trans (hbl.mono HBW5.out.size)
      clear hw' hbl HXA5 HXB5 HBW5 a0 a1 a2 a3 b0 b1 b2 b3
      go_wp2_with fail
      refine Calls.mono (HEA.out w') ?_
      rintro e w6 ⟨u, rfl, hbl⟩
      have HXA7 := hd (HXA6.out.keep hbl)
      have HXB7 := hd (HXB6.out.keep hbl)
      have HBW7 : Hid (Below w.heap.size w w6) := HBW6.out.trans (hbl.mono HBW6.out.size)
      clear hbl HXA6 HXB6 HBW6
      have b0 := HXB7.out.cell 0 _ rfl
      have b1 := HXB7.out.cell 1 _ rfl
      have b2 := HXB7.out.cell 2 _ rfl
      have b3 := HXB7.out.cell 3 _ rfl
      go_wp2_with fail
      refine Calls.mono (HOB.out _) ?_
      rintro e w7 ⟨rfl, hw'⟩
      have hbl : Below w6.heap.size w6 w7 := by rw [hw']; exact below_two _ _ _
      have HXA8 := hd (HXA7.out.keep hbl)
      have HXB8 := hd (HXB7.out.keep hbl)
      have HBW8 : Hid (Below w.heap.size w w7) := HBW7.out.trans (hbl.mono HBW7.out.size)
      clear hw' hbl HXA7 HXB7 HBW7 b0 b1 b2 b3
      go_wp2_with fail
      refine Calls.mono (HEB.out w7) ?_
      rintro e w8 ⟨u2, rfl, hbl⟩
      have HXA9 := hd (HXA8.out.keep hbl)
      have HXB9 := hd (HXB8.out.keep hbl)
      have HBW9 : Hid (Below w.heap.size w w8) := HBW8.out.trans (hbl.mono HBW8.out.size)
      clear hbl HXA8 HXB8 HBW8
      have a0 := HXA9.out.cell 0 _ rfl
      have a1 := HXA9.out.cell 1 _ rfl
      have a2 := HXA9.out.cell 2 _ rfl
      have a3 := HXA9.out.cell 3 _ rfl
      have b0 := HXB9.out.cell 0 _ rfl
      have b1 := HXB9.out.cell 1 _ rfl
      have b2 := HXB9.out.cell 2 _ rfl
      have b3 := HXB9.out.cell 3 _ rfl
      go_wp2_with fail
      go_ret
      exact ⟨rfl, HBW9.out⟩
  · have q1 : (((eb : Nat) : Int) != 0) = true := by simp; omega
    obtain rfl := HAB.out rfl (.inl h1)
    subst h1
    clear HAB
    go_wp2_with fail
    refine Calls.mono (HOA.out _) ?_
    rintro e w' ⟨rfl, hw'⟩
    have hbl : Below w5.heap.size w5 w' := by rw [hw']; exact below_two _ _ _
    have HXA6 := hd (HXA5.out.keep hbl)
    have HXB6 := hd (HXB5.out.keep hbl)
    have HBW6 : Hid (Below w.heap.size w w') := HBW5.out.trans (hbl.mono HBW5.out.size)
    clear hw' hbl HXA5 HXB5 HBW5 a0 a1 a2 a3 b0 b1 b2 b3
    go_wp2_with fail
    refine Calls.mono (HEA.out w') ?_
    rintro e w6 ⟨u, rfl, hbl⟩
    have HXA7 := hd (HXA6.out.keep hbl)
    have HXB7 := hd (HXB6.out.keep hbl)
    have HBW7 : Hid (Below w.heap.size w w6) := HBW6.out.trans (hbl.mono HBW6.out.size)
    clear hbl HXA6 HXB6 HBW6
    have b0 := HXB7.out.cell 0 _ rfl
    have b1 := HXB7.out.cell 1 _ rfl
    have b2 := HXB7.out.cell 2 _ rfl
    have b3 := HXB7.out.cell 3 _ rfl
    go_wp2_with fail
    refine Calls.mono (HOB.out _) ?_
    rintro e w7 ⟨rfl, hw'⟩
    have hbl : Below w6.heap.size w6 w7 := by rw [hw']; exact below_two _ _ _
    have HXA8 := hd (HXA7.out.keep hbl)
    have HXB8 := hd (HXB7.out.keep hbl)
    have HBW8 : Hid (Below w.heap.size w w7) := HBW7.out.trans (hbl.mono HBW7.out.size)
    clear hw' hbl HXA7 HXB7 HBW7 b0 b1 b2 b3
    go_wp2_with fail
    refine Calls.mono (HEB.out w7) ?_
    rintro e w8 ⟨u2, rfl, hbl⟩
    have HXA9 := hd (HXA8.out.keep hbl)
    have HXB9 := hd (HXB8.out.keep hbl)
    have HBW9 : Hid (Below w.heap.size w w8) := HBW8.out.trans (hbl.mono HBW8.out.size)
    clear hbl HXA8 HXB8 HBW8
    have a0 := HXA9.out.cell 0 _ rfl
    have a1 := HXA9.out.cell 1 _ rfl
    have a2 := HXA9.out.cell 2 _ rfl
    have a3 := HXA9.out.cell 3 _ rfl
    have b0 := HXB9.out.cell 0 _ rfl
    have b1 := HXB9.out.cell 1 _ rfl
    have b2 := HXB9.out.cell 2 _ rfl
    have b3 := HXB9.out.cell 3 _ rfl
    go_wp2_with fail
    go_ret
    exact ⟨rfl, HBW9.out⟩
  · obtain rfl := HAB.out rfl (.inl h1)
    subst h1 h2 h3
    clear HAB
    go_wp2_with fail
    refine Calls.mono (HOA.out _) ?_
    rintro e w' ⟨rfl, hw'⟩
    have hbl : Below w5.heap.size w5 w' := by rw [hw']; exact below_two _ _ _
    have HXA6 := hd (HXA5.out.keep hbl)
    have HXB6 := hd (HXB5.out.keep hbl)
    have HBW6 : Hid (Below w.heap.size w w') := HBW5.out.trans (hbl.mono HBW5.out.size)
    clear hw' hbl HXA5 HXB5 HBW5 a0 a1 a2 a3 b0 b1 b2 b3
    go_wp2_with fail
    refine Calls.mono (HEA.out w') ?_
    rintro e w6 ⟨u, rfl, hbl⟩
    have HXA7 := hd (HXA6.out.keep hbl)
    have HXB7 := hd (HXB6.out.keep hbl)
    have HBW7 : Hid (Below w.heap.size w w6) := HBW6.out.trans (hbl.mono HBW6.out.size)
    clear hbl HXA6 HXB6 HBW6
    have b0 := HXB7.out.cell 0 _ rfl
    have b1 := HXB7.out.cell 1 _ rfl
    have b2 := HXB7.out.cell 2 _ rfl
    have b3 := HXB7.out.cell 3 _ rfl
    go_wp2_with fail
    refine Calls.mono (HOB.out _) ?_
    rintro e w7 ⟨rfl, hw'⟩
    have hbl : Below w6.heap.size w6 w7 := by rw [hw']; exact below_two _ _ _
    have HXA8 := hd (HXA7.out.keep hbl)
    have HXB8 := hd (HXB7.out.keep hbl)
    have HBW8 : Hid (Below w.heap.size w w7) := HBW7.out.trans (hbl.mono HBW7.out.size)
    clear hw' hbl HXA7 HXB7 HBW7 b0 b1 b2 b3
    go_wp2_with fail
    refine Calls.mono (HEB.out w7) ?_
    rintro e w8 ⟨u2, rfl, hbl⟩
    have HXA9 := hd (HXA8.out.keep hbl)
    have HXB9 := hd (HXB8.out.keep hbl)
    have HBW9 : Hid (Below w.heap.size w w8) := HBW8.out.trans (hbl.mono HBW8.out.size)
    clear hbl HXA8 HXB8 HBW8
    have a0 := HXA9.out.cell 0 _ rfl
    have a1 := HXA9.out.cell 1 _ rfl
    have a2 := HXA9.out.cell 2 _ rfl
    have a3 := HXA9.out.cell 3 _ rfl
    have b0 := HXB9.out.cell 0 _ rfl
    have b1 := HXB9.out.cell 1 _ rfl
    have b2 := HXB9.out.cell 2 _ rfl
    have b3 := HXB9.out.cell 3 _ rfl
    go_wp2_with fail
    go_ret
    exact ⟨rfl, HBW9.out⟩
  · omega
  · omega
set_option maxRecDepth 100000 in
set_option maxHeartbeats 4000000 in
theorem walk_nn (a b c : Rec) (w : World) (ha : a.lsn < 18446744073709551616) (hb : b.lsn < 18446744073709551616) (hc : c.lsn < 18446744073709551616) (hsign : cp a b < 0 ∧ cp b c < 0) :
    Calls Try.prog 9 #[.agg (rv a), .agg (rv b), .agg (rv c)] w fun e w' => e = .returned (.bool true) ∧ Below w.heap.size w w' := by
  have HXY := hd (compare_is a b ha hb)
  have HYZ := hd (compare_is b c hb hc)
  have HXZ := hd (compare_is a c ha hc)
  have HYX := hd (compare_is b a hb ha)
  rw [cp_neg a b] at HYX
  have HT := hd (cp_trans a b c)
  have hr1 := cp_range a b
  have hr2 := cp_range b c
  have hr3 := cp_range a c
  have HS := hd (fun h hr => cp_same ha hb h hr)
  have HW := hd (cp_ways a b)
  have HOA := hd (of_is a)
  have HOB := hd (of_is b)
  have HEA := hd (encOf_is a ha)
  have HEB := hd (encOf_is b hb)
  obtain ⟨nb, hn1, hn2⟩ := rec_neq a b
  have HN2 := hd hn2
  clear hn2
  generalize rf (ofR a) = ea at *
  generalize rf (ofR b) = eb at *
  generalize cb (bd (ofR a)) (bd (ofR b)) = qq at *
  generalize cp a b = x at *
  generalize cp b c = y at *
  generalize cp a c = z at *
  have HAB : Hid (x = 0 → (ea = 0 ∨ eb = 0) → nb = false) := fun h1 h2 => HN2.out.2 (HS.out h1 h2)
  clear HS HN2
  obtain ⟨la, ka, keya, vala⟩ := a
  obtain ⟨lb, kb, keyb, valb⟩ := b
  obtain ⟨lc, kc, keyc, valc⟩ := c
  simp only [rv, fv, ofR, zp, ze] at *
  have hne : ∀ w, (binOp .neq 25 (.agg #[.int .u64 (la : Int), .int .i64 ka, .string keya, .string vala]) (.agg #[.int .u64 (lb : Int), .int .i64 kb, .string keyb, .string valb])).run Try.prog w = .ok (.bool nb) w := hn1
  clear hn1
  have HXA : Hid (Blk (((w.alloc (.cells #[.int .u64 (la : Int), .int .i64 ka, .string keya, .string vala] 25)).alloc (.cells #[.int .u64 (lb : Int), .int .i64 kb, .string keyb, .string valb] 25)).alloc (.cells #[.int .u64 (lc : Int), .int .i64 kc, .string keyc, .string valc] 25)) w.heap.size 25 [.int .u64 (la : Int), .int .i64 ka, .string keya, .string vala]) := ((Blk.new w _ _).alloc _).alloc _
  have HXB : Hid (Blk (((w.alloc (.cells #[.int .u64 (la : Int), .int .i64 ka, .string keya, .string vala] 25)).alloc (.cells #[.int .u64 (lb : Int), .int .i64 kb, .string keyb, .string valb] 25)).alloc (.cells #[.int .u64 (lc : Int), .int .i64 kc, .string keyc, .string valc] 25)) (w.heap.size + 1) 25 [.int .u64 (lb : Int), .int .i64 kb, .string keyb, .string valb]) := by
    have := (Blk.new (w.alloc (.cells #[.int .u64 (la : Int), .int .i64 ka, .string keya, .string vala] 25)) 25 [.int .u64 (lb : Int), .int .i64 kb, .string keyb, .string valb]).alloc (.cells #[.int .u64 (lc : Int), .int .i64 kc, .string keyc, .string valc] 25)
    rw [World.size_alloc] at this
    exact this
  have HXC : Hid (Blk (((w.alloc (.cells #[.int .u64 (la : Int), .int .i64 ka, .string keya, .string vala] 25)).alloc (.cells #[.int .u64 (lb : Int), .int .i64 kb, .string keyb, .string valb] 25)).alloc (.cells #[.int .u64 (lc : Int), .int .i64 kc, .string keyc, .string valc] 25)) (w.heap.size + 1 + 1) 25 [.int .u64 (lc : Int), .int .i64 kc, .string keyc, .string valc]) := by
    have := Blk.new ((w.alloc (.cells #[.int .u64 (la : Int), .int .i64 ka, .string keya, .string vala] 25)).alloc (.cells #[.int .u64 (lb : Int), .int .i64 kb, .string keyb, .string valb] 25)) 25 [.int .u64 (lc : Int), .int .i64 kc, .string keyc, .string valc]
    rw [World.size_alloc, World.size_alloc] at this
    exact this
  have HBW : Hid (Below w.heap.size w (((w.alloc (.cells #[.int .u64 (la : Int), .int .i64 ka, .string keya, .string vala] 25)).alloc (.cells #[.int .u64 (lb : Int), .int .i64 kb, .string keyb, .string valb] 25)).alloc (.cells #[.int .u64 (lc : Int), .int .i64 kc, .string keyc, .string valc] 25))) := (below_two _ _ _).alloc (by simp; omega) _
  have neg1 : -(-x) = x := by omega
  go_enter Try.func9, Try.ntmps9
  go_wp2_with fail
  refine Calls.mono (known_is _) ?_
  rintro e w1 ⟨rfl, hbl⟩
  have HXA1 := hd (HXA.out.keep hbl)
  have HXB1 := hd (HXB.out.keep hbl)
  have HXC1 := hd (HXC.out.keep hbl)
  have HBW1 : Hid (Below w.heap.size w w1) := HBW.out.trans (hbl.mono HBW.out.size)
  clear hbl HXA HXB HXC HBW
  have a0 := HXA1.out.cell 0 _ rfl
  have a1 := HXA1.out.cell 1 _ rfl
  have a2 := HXA1.out.cell 2 _ rfl
  have a3 := HXA1.out.cell 3 _ rfl
  have b0 := HXB1.out.cell 0 _ rfl
  have b1 := HXB1.out.cell 1 _ rfl
  have b2 := HXB1.out.cell 2 _ rfl
  have b3 := HXB1.out.cell 3 _ rfl
  have c0 := HXC1.out.cell 0 _ rfl
  have c1 := HXC1.out.cell 1 _ rfl
  have c2 := HXC1.out.cell 2 _ rfl
  have c3 := HXC1.out.cell 3 _ rfl
  go_wp2_with fail
  refine Calls.mono (HXY.out w1) ?_
  rintro e w2 ⟨rfl, hbl⟩
  have HXA2 := hd (HXA1.out.keep hbl)
  have HXB2 := hd (HXB1.out.keep hbl)
  have HXC2 := hd (HXC1.out.keep hbl)
  have HBW2 : Hid (Below w.heap.size w w2) := HBW1.out.trans (hbl.mono HBW1.out.size)
  clear hbl HXA1 HXB1 HXC1 HBW1 HXY a0 a1 a2 a3 b0 b1 b2 b3 c0 c1 c2 c3
  have a0 := HXA2.out.cell 0 _ rfl
  have a1 := HXA2.out.cell 1 _ rfl
  have a2 := HXA2.out.cell 2 _ rfl
  have a3 := HXA2.out.cell 3 _ rfl
  have b0 := HXB2.out.cell 0 _ rfl
  have b1 := HXB2.out.cell 1 _ rfl
  have b2 := HXB2.out.cell 2 _ rfl
  have b3 := HXB2.out.cell 3 _ rfl
  have c0 := HXC2.out.cell 0 _ rfl
  have c1 := HXC2.out.cell 1 _ rfl
  have c2 := HXC2.out.cell 2 _ rfl
  have c3 := HXC2.out.cell 3 _ rfl
  go_wp2_with fail
  refine Calls.mono (HYZ.out w2) ?_
  rintro e w3 ⟨rfl, hbl⟩
  have HXA3 := hd (HXA2.out.keep hbl)
  have HXB3 := hd (HXB2.out.keep hbl)
  have HXC3 := hd (HXC2.out.keep hbl)
  have HBW3 : Hid (Below w.heap.size w w3) := HBW2.out.trans (hbl.mono HBW2.out.size)
  clear hbl HXA2 HXB2 HXC2 HBW2 HYZ a0 a1 a2 a3 b0 b1 b2 b3 c0 c1 c2 c3
  have a0 := HXA3.out.cell 0 _ rfl
  have a1 := HXA3.out.cell 1 _ rfl
  have a2 := HXA3.out.cell 2 _ rfl
  have a3 := HXA3.out.cell 3 _ rfl
  have b0 := HXB3.out.cell 0 _ rfl
  have b1 := HXB3.out.cell 1 _ rfl
  have b2 := HXB3.out.cell 2 _ rfl
  have b3 := HXB3.out.cell 3 _ rfl
  have c0 := HXC3.out.cell 0 _ rfl
  have c1 := HXC3.out.cell 1 _ rfl
  have c2 := HXC3.out.cell 2 _ rfl
  have c3 := HXC3.out.cell 3 _ rfl
  go_wp2_with fail
  refine Calls.mono (HXZ.out w3) ?_
  rintro e w4 ⟨rfl, hbl⟩
  have HXA4 := hd (HXA3.out.keep hbl)
  have HXB4 := hd (HXB3.out.keep hbl)
  have HXC4 := hd (HXC3.out.keep hbl)
  have HBW4 : Hid (Below w.heap.size w w4) := HBW3.out.trans (hbl.mono HBW3.out.size)
  clear hbl HXA3 HXB3 HXC3 HBW3 HXZ a0 a1 a2 a3 b0 b1 b2 b3 c0 c1 c2 c3
  have a0 := HXA4.out.cell 0 _ rfl
  have a1 := HXA4.out.cell 1 _ rfl
  have a2 := HXA4.out.cell 2 _ rfl
  have a3 := HXA4.out.cell 3 _ rfl
  have b0 := HXB4.out.cell 0 _ rfl
  have b1 := HXB4.out.cell 1 _ rfl
  have b2 := HXB4.out.cell 2 _ rfl
  have b3 := HXB4.out.cell 3 _ rfl
  have hz : x ≤ 0 → y ≤ 0 → z ≤ 0 ∧ (x < 0 ∨ y < 0 → z < 0) := HT.out
  have HTAIL : Hid ((ea ≠ 0) ∨ (ea = 0 ∧ eb ≠ 0) ∨ (ea = 0 ∧ eb = 0 ∧ la = lb) ∨ (ea = 0 ∧ eb = 0 ∧ la < lb ∧ x < 0) ∨ (ea = 0 ∧ eb = 0 ∧ lb < la ∧ 0 < x)) := by
    show (ea ≠ 0) ∨ _
    have := HW.out
    omega
  clear HT HW
  have hz2 := hz (by omega) (by omega)
  clear hz
  have HSG := hd hsign
  go_wp2_with fail
  refine Calls.mono (HYX.out w4) ?_
  rintro e w5 ⟨rfl, hbl⟩
  have HXA5 := hd (HXA4.out.keep hbl)
  have HXB5 := hd (HXB4.out.keep hbl)
  have HBW5 : Hid (Below w.heap.size w w5) := HBW4.out.trans (hbl.mono HBW4.out.size)
  clear hbl HXA4 HXB4 HXC4 HBW4 HYX a0 a1 a2 a3 b0 b1 b2 b3
  have a0 := HXA5.out.cell 0 _ rfl
  have a1 := HXA5.out.cell 1 _ rfl
  have a2 := HXA5.out.cell 2 _ rfl
  have a3 := HXA5.out.cell 3 _ rfl
  have b0 := HXB5.out.cell 0 _ rfl
  have b1 := HXB5.out.cell 1 _ rfl
  have b2 := HXB5.out.cell 2 _ rfl
  have b3 := HXB5.out.cell 3 _ rfl
  have hsg := HSG.out
  have e1 : x = -1 := by omega
  have e2 : y = -1 := by omega
  have e3 : z = -1 := by omega
  subst e1 e2 e3
  clear hsg HSG hz2 neg1
  rcases HTAIL.out with h1 | ⟨h1, h2⟩ | ⟨h1, h2, h3⟩ | ⟨h1, h2, h3, h4⟩ | ⟨h1, h2, h3, h4⟩
  · have q1 : (((ea : Nat) : Int) != 0) = true := by simp; omega
    clear HAB
    go_wp2_with fail
    refine Calls.mono (HOA.out _) ?_
    rintro e w' ⟨rfl, hw'⟩
    have hbl : Below w5.heap.size w5 w' := by rw [hw']; exact below_two _ _ _
    have HXA6 := hd (HXA5.out.keep hbl)
    have HXB6 := hd (HXB5.out.keep hbl)
    have HBW6 : Hid (Below w.heap.size w w') := HBW5.out.trans (hbl.mono HBW5.out.size)
    clear hw' hbl HXA5 HXB5 HBW5 a0 a1 a2 a3 b0 b1 b2 b3
    go_wp2_with fail
    refine Calls.mono (HEA.out w') ?_
    rintro e w6 ⟨u, rfl, hbl⟩
    have HXA7 := hd (HXA6.out.keep hbl)
    have HXB7 := hd (HXB6.out.keep hbl)
    have HBW7 : Hid (Below w.heap.size w w6) := HBW6.out.trans (hbl.mono HBW6.out.size)
    clear hbl HXA6 HXB6 HBW6
    have b0 := HXB7.out.cell 0 _ rfl
    have b1 := HXB7.out.cell 1 _ rfl
    have b2 := HXB7.out.cell 2 _ rfl
    have b3 := HXB7.out.cell 3 _ rfl
    go_wp2_with fail
    refine Calls.mono (HOB.out _) ?_
    rintro e w7 ⟨rfl, hw'⟩
    have hbl : Below w6.heap.size w6 w7 := by rw [hw']; exact below_two _ _ _
    have HXA8 := hd (HXA7.out.keep hbl)
    have HXB8 := hd (HXB7.out.keep hbl)
    have HBW8 : Hid (Below w.heap.size w w7) := HBW7.out.trans (hbl.mono HBW7.out.size)
    clear hw' hbl HXA7 HXB7 HBW7 b0 b1 b2 b3
    go_wp2_with fail
    refine Calls.mono (HEB.out w7) ?_
    rintro e w8 ⟨u2, rfl, hbl⟩
    have HXA9 := hd (HXA8.out.keep hbl)
    have HXB9 := hd (HXB8.out.keep hbl)
    have HBW9 : Hid (Below w.heap.size w w8) := HBW8.out.trans (hbl.mono HBW8.out.size)
    clear hbl HXA8 HXB8 HBW8
    have a0 := HXA9.out.cell 0 _ rfl
    have a1 := HXA9.out.cell 1 _ rfl
    have a2 := HXA9.out.cell 2 _ rfl
    have a3 := HXA9.out.cell 3 _ rfl
    have b0 := HXB9.out.cell 0 _ rfl
    have b1 := HXB9.out.cell 1 _ rfl
    have b2 := HXB9.out.cell 2 _ rfl
    have b3 := HXB9.out.cell 3 _ rfl
    go_wp2_with fail
    go_ret
    exact ⟨rfl, HBW9.out⟩
  · have q1 : (((eb : Nat) : Int) != 0) = true := by simp; omega
    subst h1
    clear HAB
    go_wp2_with fail
    refine Calls.mono (HOA.out _) ?_
    rintro e w' ⟨rfl, hw'⟩
    have hbl : Below w5.heap.size w5 w' := by rw [hw']; exact below_two _ _ _
    have HXA6 := hd (HXA5.out.keep hbl)
    have HXB6 := hd (HXB5.out.keep hbl)
    have HBW6 : Hid (Below w.heap.size w w') := HBW5.out.trans (hbl.mono HBW5.out.size)
    clear hw' hbl HXA5 HXB5 HBW5 a0 a1 a2 a3 b0 b1 b2 b3
    go_wp2_with fail
    refine Calls.mono (HEA.out w') ?_
    rintro e w6 ⟨u, rfl, hbl⟩
    have HXA7 := hd (HXA6.out.keep hbl)
    have HXB7 := hd (HXB6.out.keep hbl)
    have HBW7 : Hid (Below w.heap.size w w6) := HBW6.out.trans (hbl.mono HBW6.out.size)
    clear hbl HXA6 HXB6 HBW6
    have b0 := HXB7.out.cell 0 _ rfl
    have b1 := HXB7.out.cell 1 _ rfl
    have b2 := HXB7.out.cell 2 _ rfl
    have b3 := HXB7.out.cell 3 _ rfl
    go_wp2_with fail
    refine Calls.mono (HOB.out _) ?_
    rintro e w7 ⟨rfl, hw'⟩
    have hbl : Below w6.heap.size w6 w7 := by rw [hw']; exact below_two _ _ _
    have HXA8 := hd (HXA7.out.keep hbl)
    have HXB8 := hd (HXB7.out.keep hbl)
    have HBW8 : Hid (Below w.heap.size w w7) := HBW7.out.trans (hbl.mono HBW7.out.size)
    clear hw' hbl HXA7 HXB7 HBW7 b0 b1 b2 b3
    go_wp2_with fail
    refine Calls.mono (HEB.out w7) ?_
    rintro e w8 ⟨u2, rfl, hbl⟩
    have HXA9 := hd (HXA8.out.keep hbl)
    have HXB9 := hd (HXB8.out.keep hbl)
    have HBW9 : Hid (Below w.heap.size w w8) := HBW8.out.trans (hbl.mono HBW8.out.size)
    clear hbl HXA8 HXB8 HBW8
    have a0 := HXA9.out.cell 0 _ rfl
    have a1 := HXA9.out.cell 1 _ rfl
    have a2 := HXA9.out.cell 2 _ rfl
    have a3 := HXA9.out.cell 3 _ rfl
    have b0 := HXB9.out.cell 0 _ rfl
    have b1 := HXB9.out.cell 1 _ rfl
    have b2 := HXB9.out.cell 2 _ rfl
    have b3 := HXB9.out.cell 3 _ rfl
    go_wp2_with fail
    go_ret
    exact ⟨rfl, HBW9.out⟩
  · subst h1 h2 h3
    clear HAB
    go_wp2_with fail
    refine Calls.mono (HOA.out _) ?_
    rintro e w' ⟨rfl, hw'⟩
    have hbl : Below w5.heap.size w5 w' := by rw [hw']; exact below_two _ _ _
    have HXA6 := hd (HXA5.out.keep hbl)
    have HXB6 := hd (HXB5.out.keep hbl)
    have HBW6 : Hid (Below w.heap.size w w') := HBW5.out.trans (hbl.mono HBW5.out.size)
    clear hw' hbl HXA5 HXB5 HBW5 a0 a1 a2 a3 b0 b1 b2 b3
    go_wp2_with fail
    refine Calls.mono (HEA.out w') ?_
    rintro e w6 ⟨u, rfl, hbl⟩
    have HXA7 := hd (HXA6.out.keep hbl)
    have HXB7 := hd (HXB6.out.keep hbl)
    have HBW7 : Hid (Below w.heap.size w w6) := HBW6.out.trans (hbl.mono HBW6.out.size)
    clear hbl HXA6 HXB6 HBW6
    have b0 := HXB7.out.cell 0 _ rfl
    have b1 := HXB7.out.cell 1 _ rfl
    have b2 := HXB7.out.cell 2 _ rfl
    have b3 := HXB7.out.cell 3 _ rfl
    go_wp2_with fail
    refine Calls.mono (HOB.out _) ?_
    rintro e w7 ⟨rfl, hw'⟩
    have hbl : Below w6.heap.size w6 w7 := by rw [hw']; exact below_two _ _ _
    have HXA8 := hd (HXA7.out.keep hbl)
    have HXB8 := hd (HXB7.out.keep hbl)
    have HBW8 : Hid (Below w.heap.size w w7) := HBW7.out.trans (hbl.mono HBW7.out.size)
    clear hw' hbl HXA7 HXB7 HBW7 b0 b1 b2 b3
    go_wp2_with fail
    refine Calls.mono (HEB.out w7) ?_
    rintro e w8 ⟨u2, rfl, hbl⟩
    have HXA9 := hd (HXA8.out.keep hbl)
    have HXB9 := hd (HXB8.out.keep hbl)
    have HBW9 : Hid (Below w.heap.size w w8) := HBW8.out.trans (hbl.mono HBW8.out.size)
    clear hbl HXA8 HXB8 HBW8
    have a0 := HXA9.out.cell 0 _ rfl
    have a1 := HXA9.out.cell 1 _ rfl
    have a2 := HXA9.out.cell 2 _ rfl
    have a3 := HXA9.out.cell 3 _ rfl
    have b0 := HXB9.out.cell 0 _ rfl
    have b1 := HXB9.out.cell 1 _ rfl
    have b2 := HXB9.out.cell 2 _ rfl
    have b3 := HXB9.out.cell 3 _ rfl
    go_wp2_with fail
    go_ret
    exact ⟨rfl, HBW9.out⟩
  · subst h1 h2
    have q5 : ((la : Int) == (lb : Int)) = false := by simp; omega
    have q6 : decide ((la : Int) < (lb : Int)) = true := by rw [decide_eq_true_iff]; omega
    clear HAB h4
    go_wp2_with fail
    refine Calls.mono (HOA.out _) ?_
    rintro e w' ⟨rfl, hw'⟩
    have hbl : Below w5.heap.size w5 w' := by rw [hw']; exact below_two _ _ _
    have HXA6 := hd (HXA5.out.keep hbl)
    have HXB6 := hd (HXB5.out.keep hbl)
    have HBW6 : Hid (Below w.heap.size w w') := HBW5.out.trans (hbl.mono HBW5.out.size)
    clear hw' hbl HXA5 HXB5 HBW5 a0 a1 a2 a3 b0 b1 b2 b3
    go_wp2_with fail
    refine Calls.mono (HEA.out w') ?_
    rintro e w6 ⟨u, rfl, hbl⟩
    have HXA7 := hd (HXA6.out.keep hbl)
    have HXB7 := hd (HXB6.out.keep hbl)
    have HBW7 : Hid (Below w.heap.size w w6) := HBW6.out.trans (hbl.mono HBW6.out.size)
    clear hbl HXA6 HXB6 HBW6
    have b0 := HXB7.out.cell 0 _ rfl
    have b1 := HXB7.out.cell 1 _ rfl
    have b2 := HXB7.out.cell 2 _ rfl
    have b3 := HXB7.out.cell 3 _ rfl
    go_wp2_with fail
    refine Calls.mono (HOB.out _) ?_
    rintro e w7 ⟨rfl, hw'⟩
    have hbl : Below w6.heap.size w6 w7 := by rw [hw']; exact below_two _ _ _
    have HXA8 := hd (HXA7.out.keep hbl)
    have HXB8 := hd (HXB7.out.keep hbl)
    have HBW8 : Hid (Below w.heap.size w w7) := HBW7.out.trans (hbl.mono HBW7.out.size)
    clear hw' hbl HXA7 HXB7 HBW7 b0 b1 b2 b3
    go_wp2_with fail
    refine Calls.mono (HEB.out w7) ?_
    rintro e w8 ⟨u2, rfl, hbl⟩
    have HXA9 := hd (HXA8.out.keep hbl)
    have HXB9 := hd (HXB8.out.keep hbl)
    have HBW9 : Hid (Below w.heap.size w w8) := HBW8.out.trans (hbl.mono HBW8.out.size)
    clear hbl HXA8 HXB8 HBW8
    have a0 := HXA9.out.cell 0 _ rfl
    have a1 := HXA9.out.cell 1 _ rfl
    have a2 := HXA9.out.cell 2 _ rfl
    have a3 := HXA9.out.cell 3 _ rfl
    have b0 := HXB9.out.cell 0 _ rfl
    have b1 := HXB9.out.cell 1 _ rfl
    have b2 := HXB9.out.cell 2 _ rfl
    have b3 := HXB9.out.cell 3 _ rfl
    go_wp2_with fail
    go_ret
    exact ⟨rfl, HBW9.out⟩
  · omega
set_option maxRecDepth 100000 in
set_option maxHeartbeats 4000000 in
theorem walk_nz (a b c : Rec) (w : World) (ha : a.lsn < 18446744073709551616) (hb : b.lsn < 18446744073709551616) (hc : c.lsn < 18446744073709551616) (hsign : cp a b < 0 ∧ cp b c = 0) :
    Calls Try.prog 9 #[.agg (rv a), .agg (rv b), .agg (rv c)] w fun e w' => e = .returned (.bool true) ∧ Below w.heap.size w w' := by
  have HXY := hd (compare_is a b ha hb)
  have HYZ := hd (compare_is b c hb hc)
  have HXZ := hd (compare_is a c ha hc)
  have HYX := hd (compare_is b a hb ha)
  rw [cp_neg a b] at HYX
  have HT := hd (cp_trans a b c)
  have hr1 := cp_range a b
  have hr2 := cp_range b c
  have hr3 := cp_range a c
  have HS := hd (fun h hr => cp_same ha hb h hr)
  have HW := hd (cp_ways a b)
  have HOA := hd (of_is a)
  have HOB := hd (of_is b)
  have HEA := hd (encOf_is a ha)
  have HEB := hd (encOf_is b hb)
  obtain ⟨nb, hn1, hn2⟩ := rec_neq a b
  have HN2 := hd hn2
  clear hn2
  generalize rf (ofR a) = ea at *
  generalize rf (ofR b) = eb at *
  generalize cb (bd (ofR a)) (bd (ofR b)) = qq at *
  generalize cp a b = x at *
  generalize cp b c = y at *
  generalize cp a c = z at *
  have HAB : Hid (x = 0 → (ea = 0 ∨ eb = 0) → nb = false) := fun h1 h2 => HN2.out.2 (HS.out h1 h2)
  clear HS HN2
  obtain ⟨la, ka, keya, vala⟩ := a
  obtain ⟨lb, kb, keyb, valb⟩ := b
  obtain ⟨lc, kc, keyc, valc⟩ := c
  simp only [rv, fv, ofR, zp, ze] at *
  have hne : ∀ w, (binOp .neq 25 (.agg #[.int .u64 (la : Int), .int .i64 ka, .string keya, .string vala]) (.agg #[.int .u64 (lb : Int), .int .i64 kb, .string keyb, .string valb])).run Try.prog w = .ok (.bool nb) w := hn1
  clear hn1
  have HXA : Hid (Blk (((w.alloc (.cells #[.int .u64 (la : Int), .int .i64 ka, .string keya, .string vala] 25)).alloc (.cells #[.int .u64 (lb : Int), .int .i64 kb, .string keyb, .string valb] 25)).alloc (.cells #[.int .u64 (lc : Int), .int .i64 kc, .string keyc, .string valc] 25)) w.heap.size 25 [.int .u64 (la : Int), .int .i64 ka, .string keya, .string vala]) := ((Blk.new w _ _).alloc _).alloc _
  have HXB : Hid (Blk (((w.alloc (.cells #[.int .u64 (la : Int), .int .i64 ka, .string keya, .string vala] 25)).alloc (.cells #[.int .u64 (lb : Int), .int .i64 kb, .string keyb, .string valb] 25)).alloc (.cells #[.int .u64 (lc : Int), .int .i64 kc, .string keyc, .string valc] 25)) (w.heap.size + 1) 25 [.int .u64 (lb : Int), .int .i64 kb, .string keyb, .string valb]) := by
    have := (Blk.new (w.alloc (.cells #[.int .u64 (la : Int), .int .i64 ka, .string keya, .string vala] 25)) 25 [.int .u64 (lb : Int), .int .i64 kb, .string keyb, .string valb]).alloc (.cells #[.int .u64 (lc : Int), .int .i64 kc, .string keyc, .string valc] 25)
    rw [World.size_alloc] at this
    exact this
  have HXC : Hid (Blk (((w.alloc (.cells #[.int .u64 (la : Int), .int .i64 ka, .string keya, .string vala] 25)).alloc (.cells #[.int .u64 (lb : Int), .int .i64 kb, .string keyb, .string valb] 25)).alloc (.cells #[.int .u64 (lc : Int), .int .i64 kc, .string keyc, .string valc] 25)) (w.heap.size + 1 + 1) 25 [.int .u64 (lc : Int), .int .i64 kc, .string keyc, .string valc]) := by
    have := Blk.new ((w.alloc (.cells #[.int .u64 (la : Int), .int .i64 ka, .string keya, .string vala] 25)).alloc (.cells #[.int .u64 (lb : Int), .int .i64 kb, .string keyb, .string valb] 25)) 25 [.int .u64 (lc : Int), .int .i64 kc, .string keyc, .string valc]
    rw [World.size_alloc, World.size_alloc] at this
    exact this
  have HBW : Hid (Below w.heap.size w (((w.alloc (.cells #[.int .u64 (la : Int), .int .i64 ka, .string keya, .string vala] 25)).alloc (.cells #[.int .u64 (lb : Int), .int .i64 kb, .string keyb, .string valb] 25)).alloc (.cells #[.int .u64 (lc : Int), .int .i64 kc, .string keyc, .string valc] 25))) := (below_two _ _ _).alloc (by simp; omega) _
  have neg1 : -(-x) = x := by omega
  go_enter Try.func9, Try.ntmps9
  go_wp2_with fail
  refine Calls.mono (known_is _) ?_
  rintro e w1 ⟨rfl, hbl⟩
  have HXA1 := hd (HXA.out.keep hbl)
  have HXB1 := hd (HXB.out.keep hbl)
  have HXC1 := hd (HXC.out.keep hbl)
  have HBW1 : Hid (Below w.heap.size w w1) := HBW.out.trans (hbl.mono HBW.out.size)
  clear hbl HXA HXB HXC HBW
  have a0 := HXA1.out.cell 0 _ rfl
  have a1 := HXA1.out.cell 1 _ rfl
  have a2 := HXA1.out.cell 2 _ rfl
  have a3 := HXA1.out.cell 3 _ rfl
  have b0 := HXB1.out.cell 0 _ rfl
  have b1 := HXB1.out.cell 1 _ rfl
  have b2 := HXB1.out.cell 2 _ rfl
  have b3 := HXB1.out.cell 3 _ rfl
  have c0 := HXC1.out.cell 0 _ rfl
  have c1 := HXC1.out.cell 1 _ rfl
  have c2 := HXC1.out.cell 2 _ rfl
  have c3 := HXC1.out.cell 3 _ rfl
  go_wp2_with fail
  refine Calls.mono (HXY.out w1) ?_
  rintro e w2 ⟨rfl, hbl⟩
  have HXA2 := hd (HXA1.out.keep hbl)
  have HXB2 := hd (HXB1.out.keep hbl)
  have HXC2 := hd (HXC1.out.keep hbl)
  have HBW2 : Hid (Below w.heap.size w w2) := HBW1.out.trans (hbl.mono HBW1.out.size)
  clear hbl HXA1 HXB1 HXC1 HBW1 HXY a0 a1 a2 a3 b0 b1 b2 b3 c0 c1 c2 c3
  have a0 := HXA2.out.cell 0 _ rfl
  have a1 := HXA2.out.cell 1 _ rfl
  have a2 := HXA2.out.cell 2 _ rfl
  have a3 := HXA2.out.cell 3 _ rfl
  have b0 := HXB2.out.cell 0 _ rfl
  have b1 := HXB2.out.cell 1 _ rfl
  have b2 := HXB2.out.cell 2 _ rfl
  have b3 := HXB2.out.cell 3 _ rfl
  have c0 := HXC2.out.cell 0 _ rfl
  have c1 := HXC2.out.cell 1 _ rfl
  have c2 := HXC2.out.cell 2 _ rfl
  have c3 := HXC2.out.cell 3 _ rfl
  go_wp2_with fail
  refine Calls.mono (HYZ.out w2) ?_
  rintro e w3 ⟨rfl, hbl⟩
  have HXA3 := hd (HXA2.out.keep hbl)
  have HXB3 := hd (HXB2.out.keep hbl)
  have HXC3 := hd (HXC2.out.keep hbl)
  have HBW3 : Hid (Below w.heap.size w w3) := HBW2.out.trans (hbl.mono HBW2.out.size)
  clear hbl HXA2 HXB2 HXC2 HBW2 HYZ a0 a1 a2 a3 b0 b1 b2 b3 c0 c1 c2 c3
  have a0 := HXA3.out.cell 0 _ rfl
  have a1 := HXA3.out.cell 1 _ rfl
  have a2 := HXA3.out.cell 2 _ rfl
  have a3 := HXA3.out.cell 3 _ rfl
  have b0 := HXB3.out.cell 0 _ rfl
  have b1 := HXB3.out.cell 1 _ rfl
  have b2 := HXB3.out.cell 2 _ rfl
  have b3 := HXB3.out.cell 3 _ rfl
  have c0 := HXC3.out.cell 0 _ rfl
  have c1 := HXC3.out.cell 1 _ rfl
  have c2 := HXC3.out.cell 2 _ rfl
  have c3 := HXC3.out.cell 3 _ rfl
  go_wp2_with fail
  refine Calls.mono (HXZ.out w3) ?_
  rintro e w4 ⟨rfl, hbl⟩
  have HXA4 := hd (HXA3.out.keep hbl)
  have HXB4 := hd (HXB3.out.keep hbl)
  have HXC4 := hd (HXC3.out.keep hbl)
  have HBW4 : Hid (Below w.heap.size w w4) := HBW3.out.trans (hbl.mono HBW3.out.size)
  clear hbl HXA3 HXB3 HXC3 HBW3 HXZ a0 a1 a2 a3 b0 b1 b2 b3 c0 c1 c2 c3
  have a0 := HXA4.out.cell 0 _ rfl
  have a1 := HXA4.out.cell 1 _ rfl
  have a2 := HXA4.out.cell 2 _ rfl
  have a3 := HXA4.out.cell 3 _ rfl
  have b0 := HXB4.out.cell 0 _ rfl
  have b1 := HXB4.out.cell 1 _ rfl
  have b2 := HXB4.out.cell 2 _ rfl
  have b3 := HXB4.out.cell 3 _ rfl
  have hz : x ≤ 0 → y ≤ 0 → z ≤ 0 ∧ (x < 0 ∨ y < 0 → z < 0) := HT.out
  have HTAIL : Hid ((ea ≠ 0) ∨ (ea = 0 ∧ eb ≠ 0) ∨ (ea = 0 ∧ eb = 0 ∧ la = lb) ∨ (ea = 0 ∧ eb = 0 ∧ la < lb ∧ x < 0) ∨ (ea = 0 ∧ eb = 0 ∧ lb < la ∧ 0 < x)) := by
    show (ea ≠ 0) ∨ _
    have := HW.out
    omega
  clear HT HW
  have hz2 := hz (by omega) (by omega)
  clear hz
  have HSG := hd hsign
  go_wp2_with fail
  refine Calls.mono (HYX.out w4) ?_
  rintro e w5 ⟨rfl, hbl⟩
  have HXA5 := hd (HXA4.out.keep hbl)
  have HXB5 := hd (HXB4.out.keep hbl)
  have HBW5 : Hid (Below w.heap.size w w5) := HBW4.out.trans (hbl.mono HBW4.out.size)
  clear hbl HXA4 HXB4 HXC4 HBW4 HYX a0 a1 a2 a3 b0 b1 b2 b3
  have a0 := HXA5.out.cell 0 _ rfl
  have a1 := HXA5.out.cell 1 _ rfl
  have a2 := HXA5.out.cell 2 _ rfl
  have a3 := HXA5.out.cell 3 _ rfl
  have b0 := HXB5.out.cell 0 _ rfl
  have b1 := HXB5.out.cell 1 _ rfl
  have b2 := HXB5.out.cell 2 _ rfl
  have b3 := HXB5.out.cell 3 _ rfl
  have hsg := HSG.out
  have e1 : x = -1 := by omega
  have e2 : y = 0 := by omega
  have e3 : z = -1 := by omega
  subst e1 e2 e3
  clear hsg HSG hz2 neg1
  rcases HTAIL.out with h1 | ⟨h1, h2⟩ | ⟨h1, h2, h3⟩ | ⟨h1, h2, h3, h4⟩ | ⟨h1, h2, h3, h4⟩
  · have q1 : (((ea : Nat) : Int) != 0) = true := by simp; omega
    clear HAB
    go_wp2_with fail
    refine Calls.mono (HOA.out _) ?_
    rintro e w' ⟨rfl, hw'⟩
    have hbl : Below w5.heap.size w5 w' := by rw [hw']; exact below_two _ _ _
    have HXA6 := hd (HXA5.out.keep hbl)
    have HXB6 := hd (HXB5.out.keep hbl)
    have HBW6 : Hid (Below w.heap.size w w') := HBW5.out.trans (hbl.mono HBW5.out.size)
    clear hw' hbl HXA5 HXB5 HBW5 a0 a1 a2 a3 b0 b1 b2 b3
    go_wp2_with fail
    refine Calls.mono (HEA.out w') ?_
    rintro e w6 ⟨u, rfl, hbl⟩
    have HXA7 := hd (HXA6.out.keep hbl)
    have HXB7 := hd (HXB6.out.keep hbl)
    have HBW7 : Hid (Below w.heap.size w w6) := HBW6.out.trans (hbl.mono HBW6.out.size)
    clear hbl HXA6 HXB6 HBW6
    have b0 := HXB7.out.cell 0 _ rfl
    have b1 := HXB7.out.cell 1 _ rfl
    have b2 := HXB7.out.cell 2 _ rfl
    have b3 := HXB7.out.cell 3 _ rfl
    go_wp2_with fail
    refine Calls.mono (HOB.out _) ?_
    rintro e w7 ⟨rfl, hw'⟩
    have hbl : Below w6.heap.size w6 w7 := by rw [hw']; exact below_two _ _ _
    have HXA8 := hd (HXA7.out.keep hbl)
    have HXB8 := hd (HXB7.out.keep hbl)
    have HBW8 : Hid (Below w.heap.size w w7) := HBW7.out.trans (hbl.mono HBW7.out.size)
    clear hw' hbl HXA7 HXB7 HBW7 b0 b1 b2 b3
    go_wp2_with fail
    refine Calls.mono (HEB.out w7) ?_
    rintro e w8 ⟨u2, rfl, hbl⟩
    have HXA9 := hd (HXA8.out.keep hbl)
    have HXB9 := hd (HXB8.out.keep hbl)
    have HBW9 : Hid (Below w.heap.size w w8) := HBW8.out.trans (hbl.mono HBW8.out.size)
    clear hbl HXA8 HXB8 HBW8
    have a0 := HXA9.out.cell 0 _ rfl
    have a1 := HXA9.out.cell 1 _ rfl
    have a2 := HXA9.out.cell 2 _ rfl
    have a3 := HXA9.out.cell 3 _ rfl
    have b0 := HXB9.out.cell 0 _ rfl
    have b1 := HXB9.out.cell 1 _ rfl
    have b2 := HXB9.out.cell 2 _ rfl
    have b3 := HXB9.out.cell 3 _ rfl
    go_wp2_with fail
    go_ret
    exact ⟨rfl, HBW9.out⟩
  · have q1 : (((eb : Nat) : Int) != 0) = true := by simp; omega
    subst h1
    clear HAB
    go_wp2_with fail
    refine Calls.mono (HOA.out _) ?_
    rintro e w' ⟨rfl, hw'⟩
    have hbl : Below w5.heap.size w5 w' := by rw [hw']; exact below_two _ _ _
    have HXA6 := hd (HXA5.out.keep hbl)
    have HXB6 := hd (HXB5.out.keep hbl)
    have HBW6 : Hid (Below w.heap.size w w') := HBW5.out.trans (hbl.mono HBW5.out.size)
    clear hw' hbl HXA5 HXB5 HBW5 a0 a1 a2 a3 b0 b1 b2 b3
    go_wp2_with fail
    refine Calls.mono (HEA.out w') ?_
    rintro e w6 ⟨u, rfl, hbl⟩
    have HXA7 := hd (HXA6.out.keep hbl)
    have HXB7 := hd (HXB6.out.keep hbl)
    have HBW7 : Hid (Below w.heap.size w w6) := HBW6.out.trans (hbl.mono HBW6.out.size)
    clear hbl HXA6 HXB6 HBW6
    have b0 := HXB7.out.cell 0 _ rfl
    have b1 := HXB7.out.cell 1 _ rfl
    have b2 := HXB7.out.cell 2 _ rfl
    have b3 := HXB7.out.cell 3 _ rfl
    go_wp2_with fail
    refine Calls.mono (HOB.out _) ?_
    rintro e w7 ⟨rfl, hw'⟩
    have hbl : Below w6.heap.size w6 w7 := by rw [hw']; exact below_two _ _ _
    have HXA8 := hd (HXA7.out.keep hbl)
    have HXB8 := hd (HXB7.out.keep hbl)
    have HBW8 : Hid (Below w.heap.size w w7) := HBW7.out.trans (hbl.mono HBW7.out.size)
    clear hw' hbl HXA7 HXB7 HBW7 b0 b1 b2 b3
    go_wp2_with fail
    refine Calls.mono (HEB.out w7) ?_
    rintro e w8 ⟨u2, rfl, hbl⟩
    have HXA9 := hd (HXA8.out.keep hbl)
    have HXB9 := hd (HXB8.out.keep hbl)
    have HBW9 : Hid (Below w.heap.size w w8) := HBW8.out.trans (hbl.mono HBW8.out.size)
    clear hbl HXA8 HXB8 HBW8
    have a0 := HXA9.out.cell 0 _ rfl
    have a1 := HXA9.out.cell 1 _ rfl
    have a2 := HXA9.out.cell 2 _ rfl
    have a3 := HXA9.out.cell 3 _ rfl
    have b0 := HXB9.out.cell 0 _ rfl
    have b1 := HXB9.out.cell 1 _ rfl
    have b2 := HXB9.out.cell 2 _ rfl
    have b3 := HXB9.out.cell 3 _ rfl
    go_wp2_with fail
    go_ret
    exact ⟨rfl, HBW9.out⟩
  · subst h1 h2 h3
    clear HAB
    go_wp2_with fail
    refine Calls.mono (HOA.out _) ?_
    rintro e w' ⟨rfl, hw'⟩
    have hbl : Below w5.heap.size w5 w' := by rw [hw']; exact below_two _ _ _
    have HXA6 := hd (HXA5.out.keep hbl)
    have HXB6 := hd (HXB5.out.keep hbl)
    have HBW6 : Hid (Below w.heap.size w w') := HBW5.out.trans (hbl.mono HBW5.out.size)
    clear hw' hbl HXA5 HXB5 HBW5 a0 a1 a2 a3 b0 b1 b2 b3
    go_wp2_with fail
    refine Calls.mono (HEA.out w') ?_
    rintro e w6 ⟨u, rfl, hbl⟩
    have HXA7 := hd (HXA6.out.keep hbl)
    have HXB7 := hd (HXB6.out.keep hbl)
    have HBW7 : Hid (Below w.heap.size w w6) := HBW6.out.trans (hbl.mono HBW6.out.size)
    clear hbl HXA6 HXB6 HBW6
    have b0 := HXB7.out.cell 0 _ rfl
    have b1 := HXB7.out.cell 1 _ rfl
    have b2 := HXB7.out.cell 2 _ rfl
    have b3 := HXB7.out.cell 3 _ rfl
    go_wp2_with fail
    refine Calls.mono (HOB.out _) ?_
    rintro e w7 ⟨rfl, hw'⟩
    have hbl : Below w6.heap.size w6 w7 := by rw [hw']; exact below_two _ _ _
    have HXA8 := hd (HXA7.out.keep hbl)
    have HXB8 := hd (HXB7.out.keep hbl)
    have HBW8 : Hid (Below w.heap.size w w7) := HBW7.out.trans (hbl.mono HBW7.out.size)
    clear hw' hbl HXA7 HXB7 HBW7 b0 b1 b2 b3
    go_wp2_with fail
    refine Calls.mono (HEB.out w7) ?_
    rintro e w8 ⟨u2, rfl, hbl⟩
    have HXA9 := hd (HXA8.out.keep hbl)
    have HXB9 := hd (HXB8.out.keep hbl)
    have HBW9 : Hid (Below w.heap.size w w8) := HBW8.out.trans (hbl.mono HBW8.out.size)
    clear hbl HXA8 HXB8 HBW8
    have a0 := HXA9.out.cell 0 _ rfl
    have a1 := HXA9.out.cell 1 _ rfl
    have a2 := HXA9.out.cell 2 _ rfl
    have a3 := HXA9.out.cell 3 _ rfl
    have b0 := HXB9.out.cell 0 _ rfl
    have b1 := HXB9.out.cell 1 _ rfl
    have b2 := HXB9.out.cell 2 _ rfl
    have b3 := HXB9.out.cell 3 _ rfl
    go_wp2_with fail
    go_ret
    exact ⟨rfl, HBW9.out⟩
  · subst h1 h2
    have q5 : ((la : Int) == (lb : Int)) = false := by simp; omega
    have q6 : decide ((la : Int) < (lb : Int)) = true := by rw [decide_eq_true_iff]; omega
    clear HAB h4
    go_wp2_with fail
    refine Calls.mono (HOA.out _) ?_
    rintro e w' ⟨rfl, hw'⟩
    have hbl : Below w5.heap.size w5 w' := by rw [hw']; exact below_two _ _ _
    have HXA6 := hd (HXA5.out.keep hbl)
    have HXB6 := hd (HXB5.out.keep hbl)
    have HBW6 : Hid (Below w.heap.size w w') := HBW5.out.trans (hbl.mono HBW5.out.size)
    clear hw' hbl HXA5 HXB5 HBW5 a0 a1 a2 a3 b0 b1 b2 b3
    go_wp2_with fail
    refine Calls.mono (HEA.out w') ?_
    rintro e w6 ⟨u, rfl, hbl⟩
    have HXA7 := hd (HXA6.out.keep hbl)
    have HXB7 := hd (HXB6.out.keep hbl)
    have HBW7 : Hid (Below w.heap.size w w6) := HBW6.out.trans (hbl.mono HBW6.out.size)
    clear hbl HXA6 HXB6 HBW6
    have b0 := HXB7.out.cell 0 _ rfl
    have b1 := HXB7.out.cell 1 _ rfl
    have b2 := HXB7.out.cell 2 _ rfl
    have b3 := HXB7.out.cell 3 _ rfl
    go_wp2_with fail
    refine Calls.mono (HOB.out _) ?_
    rintro e w7 ⟨rfl, hw'⟩
    have hbl : Below w6.heap.size w6 w7 := by rw [hw']; exact below_two _ _ _
    have HXA8 := hd (HXA7.out.keep hbl)
    have HXB8 := hd (HXB7.out.keep hbl)
    have HBW8 : Hid (Below w.heap.size w w7) := HBW7.out.trans (hbl.mono HBW7.out.size)
    clear hw' hbl HXA7 HXB7 HBW7 b0 b1 b2 b3
    go_wp2_with fail
    refine Calls.mono (HEB.out w7) ?_
    rintro e w8 ⟨u2, rfl, hbl⟩
    have HXA9 := hd (HXA8.out.keep hbl)
    have HXB9 := hd (HXB8.out.keep hbl)
    have HBW9 : Hid (Below w.heap.size w w8) := HBW8.out.trans (hbl.mono HBW8.out.size)
    clear hbl HXA8 HXB8 HBW8
    have a0 := HXA9.out.cell 0 _ rfl
    have a1 := HXA9.out.cell 1 _ rfl
    have a2 := HXA9.out.cell 2 _ rfl
    have a3 := HXA9.out.cell 3 _ rfl
    have b0 := HXB9.out.cell 0 _ rfl
    have b1 := HXB9.out.cell 1 _ rfl
    have b2 := HXB9.out.cell 2 _ rfl
    have b3 := HXB9.out.cell 3 _ rfl
    go_wp2_with fail
    go_ret
    exact ⟨rfl, HBW9.out⟩
  · omega
set_option maxRecDepth 100000 in
set_option maxHeartbeats 4000000 in
theorem walk_zn (a b c : Rec) (w : World) (ha : a.lsn < 18446744073709551616) (hb : b.lsn < 18446744073709551616) (hc : c.lsn < 18446744073709551616) (hsign : cp a b = 0 ∧ cp b c < 0) :
    Calls Try.prog 9 #[.agg (rv a), .agg (rv b), .agg (rv c)] w fun e w' => e = .returned (.bool true) ∧ Below w.heap.size w w' := by
  have HXY := hd (compare_is a b ha hb)
  have HYZ := hd (compare_is b c hb hc)
  have HXZ := hd (compare_is a c ha hc)
  have HYX := hd (compare_is b a hb ha)
  rw [cp_neg a b] at HYX
  have HT := hd (cp_trans a b c)
  have hr1 := cp_range a b
  have hr2 := cp_range b c
  have hr3 := cp_range a c
  have HS := hd (fun h hr => cp_same ha hb h hr)
  have HW := hd (cp_ways a b)
  have HOA := hd (of_is a)
  have HOB := hd (of_is b)
  have HEA := hd (encOf_is a ha)
  have HEB := hd (encOf_is b hb)
  obtain ⟨nb, hn1, hn2⟩ := rec_neq a b
  have HN2 := hd hn2
  clear hn2
  generalize rf (ofR a) = ea at *
  generalize rf (ofR b) = eb at *
  generalize cb (bd (ofR a)) (bd (ofR b)) = qq at *
  generalize cp a b = x at *
  generalize cp b c = y at *
  generalize cp a c = z at *
  have HAB : Hid (x = 0 → (ea = 0 ∨ eb = 0) → nb = false) := fun h1 h2 => HN2.out.2 (HS.out h1 h2)
  clear HS HN2
  obtain ⟨la, ka, keya, vala⟩ := a
  obtain ⟨lb, kb, keyb, valb⟩ := b
  obtain ⟨lc, kc, keyc, valc⟩ := c
  simp only [rv, fv, ofR, zp, ze] at *
  have hne : ∀ w, (binOp .neq 25 (.agg #[.int .u64 (la : Int), .int .i64 ka, .string keya, .string vala]) (.agg #[.int .u64 (lb : Int), .int .i64 kb, .string keyb, .string valb])).run Try.prog w = .ok (.bool nb) w := hn1
  clear hn1
  have HXA : Hid (Blk (((w.alloc (.cells #[.int .u64 (la : Int), .int .i64 ka, .string keya, .string vala] 25)).alloc (.cells #[.int .u64 (lb : Int), .int .i64 kb, .string keyb, .string valb] 25)).alloc (.cells #[.int .u64 (lc : Int), .int .i64 kc, .string keyc, .string valc] 25)) w.heap.size 25 [.int .u64 (la : Int), .int .i64 ka, .string keya, .string vala]) := ((Blk.new w _ _).alloc _).alloc _
  have HXB : Hid (Blk (((w.alloc (.cells #[.int .u64 (la : Int), .int .i64 ka, .string keya, .string vala] 25)).alloc (.cells #[.int .u64 (lb : Int), .int .i64 kb, .string keyb, .string valb] 25)).alloc (.cells #[.int .u64 (lc : Int), .int .i64 kc, .string keyc, .string valc] 25)) (w.heap.size + 1) 25 [.int .u64 (lb : Int), .int .i64 kb, .string keyb, .string valb]) := by
    have := (Blk.new (w.alloc (.cells #[.int .u64 (la : Int), .int .i64 ka, .string keya, .string vala] 25)) 25 [.int .u64 (lb : Int), .int .i64 kb, .string keyb, .string valb]).alloc (.cells #[.int .u64 (lc : Int), .int .i64 kc, .string keyc, .string valc] 25)
    rw [World.size_alloc] at this
    exact this
  have HXC : Hid (Blk (((w.alloc (.cells #[.int .u64 (la : Int), .int .i64 ka, .string keya, .string vala] 25)).alloc (.cells #[.int .u64 (lb : Int), .int .i64 kb, .string keyb, .string valb] 25)).alloc (.cells #[.int .u64 (lc : Int), .int .i64 kc, .string keyc, .string valc] 25)) (w.heap.size + 1 + 1) 25 [.int .u64 (lc : Int), .int .i64 kc, .string keyc, .string valc]) := by
    have := Blk.new ((w.alloc (.cells #[.int .u64 (la : Int), .int .i64 ka, .string keya, .string vala] 25)).alloc (.cells #[.int .u64 (lb : Int), .int .i64 kb, .string keyb, .string valb] 25)) 25 [.int .u64 (lc : Int), .int .i64 kc, .string keyc, .string valc]
    rw [World.size_alloc, World.size_alloc] at this
    exact this
  have HBW : Hid (Below w.heap.size w (((w.alloc (.cells #[.int .u64 (la : Int), .int .i64 ka, .string keya, .string vala] 25)).alloc (.cells #[.int .u64 (lb : Int), .int .i64 kb, .string keyb, .string valb] 25)).alloc (.cells #[.int .u64 (lc : Int), .int .i64 kc, .string keyc, .string valc] 25))) := (below_two _ _ _).alloc (by simp; omega) _
  have neg1 : -(-x) = x := by omega
  go_enter Try.func9, Try.ntmps9
  go_wp2_with fail
  refine Calls.mono (known_is _) ?_
  rintro e w1 ⟨rfl, hbl⟩
  have HXA1 := hd (HXA.out.keep hbl)
  have HXB1 := hd (HXB.out.keep hbl)
  have HXC1 := hd (HXC.out.keep hbl)
  have HBW1 : Hid (Below w.heap.size w w1) := HBW.out.trans (hbl.mono HBW.out.size)
  clear hbl HXA HXB HXC HBW
  have a0 := HXA1.out.cell 0 _ rfl
  have a1 := HXA1.out.cell 1 _ rfl
  have a2 := HXA1.out.cell 2 _ rfl
  have a3 := HXA1.out.cell 3 _ rfl
  have b0 := HXB1.out.cell 0 _ rfl
  have b1 := HXB1.out.cell 1 _ rfl
  have b2 := HXB1.out.cell 2 _ rfl
  have b3 := HXB1.out.cell 3 _ rfl
  have c0 := HXC1.out.cell 0 _ rfl
  have c1 := HXC1.out.cell 1 _ rfl
  have c2 := HXC1.out.cell 2 _ rfl
  have c3 := HXC1.out.cell 3 _ rfl
  go_wp2_with fail
  refine Calls.mono (HXY.out w1) ?_
  rintro e w2 ⟨rfl, hbl⟩
  have HXA2 := hd (HXA1.out.keep hbl)
  have HXB2 := hd (HXB1.out.keep hbl)
  have HXC2 := hd (HXC1.out.keep hbl)
  have HBW2 : Hid (Below w.heap.size w w2) := HBW1.out.trans (hbl.mono HBW1.out.size)
  clear hbl HXA1 HXB1 HXC1 HBW1 HXY a0 a1 a2 a3 b0 b1 b2 b3 c0 c1 c2 c3
  have a0 := HXA2.out.cell 0 _ rfl
  have a1 := HXA2.out.cell 1 _ rfl
  have a2 := HXA2.out.cell 2 _ rfl
  have a3 := HXA2.out.cell 3 _ rfl
  have b0 := HXB2.out.cell 0 _ rfl
  have b1 := HXB2.out.cell 1 _ rfl
  have b2 := HXB2.out.cell 2 _ rfl
  have b3 := HXB2.out.cell 3 _ rfl
  have c0 := HXC2.out.cell 0 _ rfl
  have c1 := HXC2.out.cell 1 _ rfl
  have c2 := HXC2.out.cell 2 _ rfl
  have c3 := HXC2.out.cell 3 _ rfl
  go_wp2_with fail
  refine Calls.mono (HYZ.out w2) ?_
  rintro e w3 ⟨rfl, hbl⟩
  have HXA3 := hd (HXA2.out.keep hbl)
  have HXB3 := hd (HXB2.out.keep hbl)
  have HXC3 := hd (HXC2.out.keep hbl)
  have HBW3 : Hid (Below w.heap.size w w3) := HBW2.out.trans (hbl.mono HBW2.out.size)
  clear hbl HXA2 HXB2 HXC2 HBW2 HYZ a0 a1 a2 a3 b0 b1 b2 b3 c0 c1 c2 c3
  have a0 := HXA3.out.cell 0 _ rfl
  have a1 := HXA3.out.cell 1 _ rfl
  have a2 := HXA3.out.cell 2 _ rfl
  have a3 := HXA3.out.cell 3 _ rfl
  have b0 := HXB3.out.cell 0 _ rfl
  have b1 := HXB3.out.cell 1 _ rfl
  have b2 := HXB3.out.cell 2 _ rfl
  have b3 := HXB3.out.cell 3 _ rfl
  have c0 := HXC3.out.cell 0 _ rfl
  have c1 := HXC3.out.cell 1 _ rfl
  have c2 := HXC3.out.cell 2 _ rfl
  have c3 := HXC3.out.cell 3 _ rfl
  go_wp2_with fail
  refine Calls.mono (HXZ.out w3) ?_
  rintro e w4 ⟨rfl, hbl⟩
  have HXA4 := hd (HXA3.out.keep hbl)
  have HXB4 := hd (HXB3.out.keep hbl)
  have HXC4 := hd (HXC3.out.keep hbl)
  have HBW4 : Hid (Below w.heap.size w w4) := HBW3.out.trans (hbl.mono HBW3.out.size)
  clear hbl HXA3 HXB3 HXC3 HBW3 HXZ a0 a1 a2 a3 b0 b1 b2 b3 c0 c1 c2 c3
  have a0 := HXA4.out.cell 0 _ rfl
  have a1 := HXA4.out.cell 1 _ rfl
  have a2 := HXA4.out.cell 2 _ rfl
  have a3 := HXA4.out.cell 3 _ rfl
  have b0 := HXB4.out.cell 0 _ rfl
  have b1 := HXB4.out.cell 1 _ rfl
  have b2 := HXB4.out.cell 2 _ rfl
  have b3 := HXB4.out.cell 3 _ rfl
  have hz : x ≤ 0 → y ≤ 0 → z ≤ 0 ∧ (x < 0 ∨ y < 0 → z < 0) := HT.out
  have HTAIL : Hid ((ea ≠ 0) ∨ (ea = 0 ∧ eb ≠ 0) ∨ (ea = 0 ∧ eb = 0 ∧ la = lb) ∨ (ea = 0 ∧ eb = 0 ∧ la < lb ∧ x < 0) ∨ (ea = 0 ∧ eb = 0 ∧ lb < la ∧ 0 < x)) := by
    show (ea ≠ 0) ∨ _
    have := HW.out
    omega
  clear HT HW
  have hz2 := hz (by omega) (by omega)
  clear hz
  have HSG := hd hsign
  go_wp2_with fail
  refine Calls.mono (HYX.out w4) ?_
  rintro e w5 ⟨rfl, hbl⟩
  have HXA5 := hd (HXA4.out.keep hbl)
  have HXB5 := hd (HXB4.out.keep hbl)
  have HBW5 : Hid (Below w.heap.size w w5) := HBW4.out.trans (hbl.mono HBW4.out.size)
  clear hbl HXA4 HXB4 HXC4 HBW4 HYX a0 a1 a2 a3 b0 b1 b2 b3
  have a0 := HXA5.out.cell 0 _ rfl
  have a1 := HXA5.out.cell 1 _ rfl
  have a2 := HXA5.out.cell 2 _ rfl
  have a3 := HXA5.out.cell 3 _ rfl
  have b0 := HXB5.out.cell 0 _ rfl
  have b1 := HXB5.out.cell 1 _ rfl
  have b2 := HXB5.out.cell 2 _ rfl
  have b3 := HXB5.out.cell 3 _ rfl
  have hsg := HSG.out
  have e1 : x = 0 := by omega
  have e2 : y = -1 := by omega
  have e3 : z = -1 := by omega
  subst e1 e2 e3
  clear hsg HSG hz2 neg1
  rcases HTAIL.out with h1 | ⟨h1, h2⟩ | ⟨h1, h2, h3⟩ | ⟨_, _, _, h4⟩ | ⟨_, _, _, h4⟩
  · have q1 : (((ea : Nat) : Int) != 0) = true := by simp; omega
    have q2 : (((ea : Nat) : Int) == 0) = false := by simp; omega
    cases nb
    · clear HAB
      go_wp2_with fail
      refine Calls.mono (HOA.out _) ?_
      rintro e w' ⟨rfl, hw'⟩
      have hbl : Below w5.heap.size w5 w' := by rw [hw']; exact below_two _ _ _
      have HXA6 := hd (HXA5.out.keep hbl)
      have HXB6 := hd (HXB5.out.keep hbl)
      have HBW6 : Hid (Below w.heap.size w w') := HBW5.out.trans (hbl.mono HBW5.out.size)
      clear hw' hbl HXA5 HXB5 HBW5 a0 a1 a2 a3 b0 b1 b2 b3
      go_wp2_with fail
      refine Calls.mono (HEA.out w') ?_
      rintro e w6 ⟨u, rfl, hbl⟩
      have HXA7 := hd (HXA6.out.keep hbl)
      have HXB7 := hd (HXB6.out.keep hbl)
      have HBW7 : Hid (Below w.heap.size w w6) := HBW6.out.trans (hbl.mono HBW6.out.size)
      clear hbl HXA6 HXB6 HBW6
      have b0 := HXB7.out.cell 0 _ rfl
      have b1 := HXB7.out.cell 1 _ rfl
      have b2 := HXB7.out.cell 2 _ rfl
      have b3 := HXB7.out.cell 3 _ rfl
      go_wp2_with fail
      refine Calls.mono (HOB.out _) ?_
      rintro e w7 ⟨rfl, hw'⟩
      have hbl : Below w6.heap.size w6 w7 := by rw [hw']; exact below_two _ _ _
      have HXA8 := hd (HXA7.out.keep hbl)
      have HXB8 := hd (HXB7.out.keep hbl)
      have HBW8 : Hid (Below w.heap.size w w7) := HBW7.out.trans (hbl.mono HBW7.out.size)
      clear hw' hbl HXA7 HXB7 HBW7 b0 b1 b2 b3
      go_wp2_with fail
      refine Calls.mono (HEB.out w7) ?_
      rintro e w8 ⟨u2, rfl, hbl⟩
      have HXA9 := hd (HXA8.out.keep hbl)
      have HXB9 := hd (HXB8.out.keep hbl)
      have HBW9 : Hid (Below w.heap.size w w8) := HBW8.out.trans (hbl.mono HBW8.out.size)
      clear hbl HXA8 HXB8 HBW8
      have a0 := HXA9.out.cell 0 _ rfl
      have a1 := HXA9.out.cell 1 _ rfl
      have a2 := HXA9.out.cell 2 _ rfl
      have a3 := HXA9.out.cell 3 _ rfl
      have b0 := HXB9.out.cell 0 _ rfl
      have b1 := HXB9.out.cell 1 _ rfl
      have b2 := HXB9.out.cell 2 _ rfl
      have b3 := HXB9.out.cell 3 _ rfl
      go_wp2_with fail
      go_ret
      exact ⟨rfl, HBW9.out⟩
    · have h2 : eb ≠ 0 := fun h => by have := HAB.out rfl (.inr h); cases this
      have q3 : (((eb : Nat) : Int) == 0) = false := by simp; omega
      clear HAB
      go_wp2_with fail
      refine Calls.mono (HOA.out _) ?_
      rintro e w' ⟨rfl, hw'⟩
      have hbl : Below w5.heap.size w5 w' := by rw [hw']; exact below_two _ _ _
      have HXA6 := hd (HXA5.out.keep hbl)
      have HXB6 := hd (HXB5.out.keep hbl)
      have HBW6 : Hid (Below w.heap.size w w') := HBW5.out.trans (hbl.mono HBW5.out.size)
      clear hw' hbl HXA5 HXB5 HBW5 a0 a1 a2 a3 b0 b1 b2 b3
      go_wp2_with fail
      refine Calls.mono (HEA.out w') ?_
      rintro e w6 ⟨u, rfl, hbl⟩
      have HXA7 := hd (HXA6.out.keep hbl)
      have HXB7 := hd (HXB6.out.keep hbl)
      have HBW7 : Hid (Below w.heap.size w w6) := HBW6.out.trans (hbl.mono HBW6.out.size)
      clear hbl HXA6 HXB6 HBW6
      have b0 := HXB7.out.cell 0 _ rfl
      have b1 := HXB7.out.cell 1 _ rfl
      have b2 := HXB7.out.cell 2 _ rfl
      have b3 := HXB7.out.cell 3 _ rfl
      go_wp2_with fail
      refine Calls.mono (HOB.out _) ?_
      rintro e w7 ⟨rfl, hw'⟩
      have hbl : Below w6.heap.size w6 w7 := by rw [hw']; exact below_two _ _ _
      have HXA8 := hd (HXA7.out.keep hbl)
      have HXB8 := hd (HXB7.out.keep hbl)
      have HBW8 : Hid (Below w.heap.size w w7) := HBW7.out.trans (hbl.mono HBW7.out.size)
      clear hw' hbl HXA7 HXB7 HBW7 b0 b1 b2 b3
      go_wp2_with fail
      refine Calls.mono (HEB.out w7) ?_
      rintro e w8 ⟨u2, rfl, hbl⟩
      have HXA9 := hd (HXA8.out.keep hbl)
      have HXB9 := hd (HXB8.out.keep hbl)
      have HBW9 : Hid (Below w.heap.size w w8) := HBW8.out.trans (hbl.mono HBW8.out.size)
      clear hbl HXA8 HXB8 HBW8
      have a0 := HXA9.out.cell 0 _ rfl
      have a1 := HXA9.out.cell 1 _ rfl
      have a2 := HXA9.out.cell 2 _ rfl
      have a3 := HXA9.out.cell 3 _ rfl
      have b0 := HXB9.out.cell 0 _ rfl
      have b1 := HXB9.out.cell 1 _ rfl
      have b2 := HXB9.out.cell 2 _ rfl
      have b3 := HXB9.out.cell 3 _ rfl
      go_wp2_with fail
      go_ret
      exact ⟨rfl, HBW9.out⟩
  · have q1 : (((eb : Nat) : Int) != 0) = true := by simp; omega
    obtain rfl := HAB.out rfl (.inl h1)
    subst h1
    clear HAB
    go_wp2_with fail
    refine Calls.mono (HOA.out _) ?_
    rintro e w' ⟨rfl, hw'⟩
    have hbl : Below w5.heap.size w5 w' := by rw [hw']; exact below_two _ _ _
    have HXA6 := hd (HXA5.out.keep hbl)
    have HXB6 := hd (HXB5.out.keep hbl)
    have HBW6 : Hid (Below w.heap.size w w') := HBW5.out.trans (hbl.mono HBW5.out.size)
    clear hw' hbl HXA5 HXB5 HBW5 a0 a1 a2 a3 b0 b1 b2 b3
    go_wp2_with fail
    refine Calls.mono (HEA.out w') ?_
    rintro e w6 ⟨u, rfl, hbl⟩
    have HXA7 := hd (HXA6.out.keep hbl)
    have HXB7 := hd (HXB6.out.keep hbl)
    have HBW7 : Hid (Below w.heap.size w w6) := HBW6.out.trans (hbl.mono HBW6.out.size)
    clear hbl HXA6 HXB6 HBW6
    have b0 := HXB7.out.cell 0 _ rfl
    have b1 := HXB7.out.cell 1 _ rfl
    have b2 := HXB7.out.cell 2 _ rfl
    have b3 := HXB7.out.cell 3 _ rfl
    go_wp2_with fail
    refine Calls.mono (HOB.out _) ?_
    rintro e w7 ⟨rfl, hw'⟩
    have hbl : Below w6.heap.size w6 w7 := by rw [hw']; exact below_two _ _ _
    have HXA8 := hd (HXA7.out.keep hbl)
    have HXB8 := hd (HXB7.out.keep hbl)
    have HBW8 : Hid (Below w.heap.size w w7) := HBW7.out.trans (hbl.mono HBW7.out.size)
    clear hw' hbl HXA7 HXB7 HBW7 b0 b1 b2 b3
    go_wp2_with fail
    refine Calls.mono (HEB.out w7) ?_
    rintro e w8 ⟨u2, rfl, hbl⟩
    have HXA9 := hd (HXA8.out.keep hbl)
    have HXB9 := hd (HXB8.out.keep hbl)
    have HBW9 : Hid (Below w.heap.size w w8) := HBW8.out.trans (hbl.mono HBW8.out.size)
    clear hbl HXA8 HXB8 HBW8
    have a0 := HXA9.out.cell 0 _ rfl
    have a1 := HXA9.out.cell 1 _ rfl
    have a2 := HXA9.out.cell 2 _ rfl
    have a3 := HXA9.out.cell 3 _ rfl
    have b0 := HXB9.out.cell 0 _ rfl
    have b1 := HXB9.out.cell 1 _ rfl
    have b2 := HXB9.out.cell 2 _ rfl
    have b3 := HXB9.out.cell 3 _ rfl
    go_wp2_with fail
    go_ret
    exact ⟨rfl, HBW9.out⟩
  · obtain rfl := HAB.out rfl (.inl h1)
    subst h1 h2 h3
    clear HAB
    go_wp2_with fail
    refine Calls.mono (HOA.out _) ?_
    rintro e w' ⟨rfl, hw'⟩
    have hbl : Below w5.heap.size w5 w' := by rw [hw']; exact below_two _ _ _
    have HXA6 := hd (HXA5.out.keep hbl)
    have HXB6 := hd (HXB5.out.keep hbl)
    have HBW6 : Hid (Below w.heap.size w w') := HBW5.out.trans (hbl.mono HBW5.out.size)
    clear hw' hbl HXA5 HXB5 HBW5 a0 a1 a2 a3 b0 b1 b2 b3
    go_wp2_with fail
    refine Calls.mono (HEA.out w') ?_
    rintro e w6 ⟨u, rfl, hbl⟩
    have HXA7 := hd (HXA6.out.keep hbl)
    have HXB7 := hd (HXB6.out.keep hbl)
    have HBW7 : Hid (Below w.heap.size w w6) := HBW6.out.trans (hbl.mono HBW6.out.size)
    clear hbl HXA6 HXB6 HBW6
    have b0 := HXB7.out.cell 0 _ rfl
    have b1 := HXB7.out.cell 1 _ rfl
    have b2 := HXB7.out.cell 2 _ rfl
    have b3 := HXB7.out.cell 3 _ rfl
    go_wp2_with fail
    refine Calls.mono (HOB.out _) ?_
    rintro e w7 ⟨rfl, hw'⟩
    have hbl : Below w6.heap.size w6 w7 := by rw [hw']; exact below_two _ _ _
    have HXA8 := hd (HXA7.out.keep hbl)
    have HXB8 := hd (HXB7.out.keep hbl)
    have HBW8 : Hid (Below w.heap.size w w7) := HBW7.out.trans (hbl.mono HBW7.out.size)
    clear hw' hbl HXA7 HXB7 HBW7 b0 b1 b2 b3
    go_wp2_with fail
    refine Calls.mono (HEB.out w7) ?_
    rintro e w8 ⟨u2, rfl, hbl⟩
    have HXA9 := hd (HXA8.out.keep hbl)
    have HXB9 := hd (HXB8.out.keep hbl)
    have HBW9 : Hid (Below w.heap.size w w8) := HBW8.out.trans (hbl.mono HBW8.out.size)
    clear hbl HXA8 HXB8 HBW8
    have a0 := HXA9.out.cell 0 _ rfl
    have a1 := HXA9.out.cell 1 _ rfl
    have a2 := HXA9.out.cell 2 _ rfl
    have a3 := HXA9.out.cell 3 _ rfl
    have b0 := HXB9.out.cell 0 _ rfl
    have b1 := HXB9.out.cell 1 _ rfl
    have b2 := HXB9.out.cell 2 _ rfl
    have b3 := HXB9.out.cell 3 _ rfl
    go_wp2_with fail
    go_ret
    exact ⟨rfl, HBW9.out⟩
  · omega
  · omega
set_option maxRecDepth 100000 in
set_option maxHeartbeats 4000000 in
theorem walk_zz (a b c : Rec) (w : World) (ha : a.lsn < 18446744073709551616) (hb : b.lsn < 18446744073709551616) (hc : c.lsn < 18446744073709551616) (hsign : cp a b = 0 ∧ cp b c = 0) :
    Calls Try.prog 9 #[.agg (rv a), .agg (rv b), .agg (rv c)] w fun e w' => e = .returned (.bool true) ∧ Below w.heap.size w w' := by
  have HXY := hd (compare_is a b ha hb)
  have HYZ := hd (compare_is b c hb hc)
  have HXZ := hd (compare_is a c ha hc)
  have HYX := hd (compare_is b a hb ha)
  rw [cp_neg a b] at HYX
  have HT := hd (cp_trans a b c)
  have hr1 := cp_range a b
  have hr2 := cp_range b c
  have hr3 := cp_range a c
  have HS := hd (fun h hr => cp_same ha hb h hr)
  have HW := hd (cp_ways a b)
  have HOA := hd (of_is a)
  have HOB := hd (of_is b)
  have HEA := hd (encOf_is a ha)
  have HEB := hd (encOf_is b hb)
  obtain ⟨nb, hn1, hn2⟩ := rec_neq a b
  have HN2 := hd hn2
  clear hn2
  generalize rf (ofR a) = ea at *
  generalize rf (ofR b) = eb at *
  generalize cb (bd (ofR a)) (bd (ofR b)) = qq at *
  generalize cp a b = x at *
  generalize cp b c = y at *
  generalize cp a c = z at *
  have HAB : Hid (x = 0 → (ea = 0 ∨ eb = 0) → nb = false) := fun h1 h2 => HN2.out.2 (HS.out h1 h2)
  clear HS HN2
  obtain ⟨la, ka, keya, vala⟩ := a
  obtain ⟨lb, kb, keyb, valb⟩ := b
  obtain ⟨lc, kc, keyc, valc⟩ := c
  simp only [rv, fv, ofR, zp, ze] at *
  have hne : ∀ w, (binOp .neq 25 (.agg #[.int .u64 (la : Int), .int .i64 ka, .string keya, .string vala]) (.agg #[.int .u64 (lb : Int), .int .i64 kb, .string keyb, .string valb])).run Try.prog w = .ok (.bool nb) w := hn1
  clear hn1
  have HXA : Hid (Blk (((w.alloc (.cells #[.int .u64 (la : Int), .int .i64 ka, .string keya, .string vala] 25)).alloc (.cells #[.int .u64 (lb : Int), .int .i64 kb, .string keyb, .string valb] 25)).alloc (.cells #[.int .u64 (lc : Int), .int .i64 kc, .string keyc, .string valc] 25)) w.heap.size 25 [.int .u64 (la : Int), .int .i64 ka, .string keya, .string vala]) := ((Blk.new w _ _).alloc _).alloc _
  have HXB : Hid (Blk (((w.alloc (.cells #[.int .u64 (la : Int), .int .i64 ka, .string keya, .string vala] 25)).alloc (.cells #[.int .u64 (lb : Int), .int .i64 kb, .string keyb, .string valb] 25)).alloc (.cells #[.int .u64 (lc : Int), .int .i64 kc, .string keyc, .string valc] 25)) (w.heap.size + 1) 25 [.int .u64 (lb : Int), .int .i64 kb, .string keyb, .string valb]) := by
    have := (Blk.new (w.alloc (.cells #[.int .u64 (la : Int), .int .i64 ka, .string keya, .string vala] 25)) 25 [.int .u64 (lb : Int), .int .i64 kb, .string keyb, .string valb]).alloc (.cells #[.int .u64 (lc : Int), .int .i64 kc, .string keyc, .string valc] 25)
    rw [World.size_alloc] at this
    exact this
  have HXC : Hid (Blk (((w.alloc (.cells #[.int .u64 (la : Int), .int .i64 ka, .string keya, .string vala] 25)).alloc (.cells #[.int .u64 (lb : Int), .int .i64 kb, .string keyb, .string valb] 25)).alloc (.cells #[.int .u64 (lc : Int), .int .i64 kc, .string keyc, .string valc] 25)) (w.heap.size + 1 + 1) 25 [.int .u64 (lc : Int), .int .i64 kc, .string keyc, .string valc]) := by
    have := Blk.new ((w.alloc (.cells #[.int .u64 (la : Int), .int .i64 ka, .string keya, .string vala] 25)).alloc (.cells #[.int .u64 (lb : Int), .int .i64 kb, .string keyb, .string valb] 25)) 25 [.int .u64 (lc : Int), .int .i64 kc, .string keyc, .string valc]
    rw [World.size_alloc, World.size_alloc] at this
    exact this
  have HBW : Hid (Below w.heap.size w (((w.alloc (.cells #[.int .u64 (la : Int), .int .i64 ka, .string keya, .string vala] 25)).alloc (.cells #[.int .u64 (lb : Int), .int .i64 kb, .string keyb, .string valb] 25)).alloc (.cells #[.int .u64 (lc : Int), .int .i64 kc, .string keyc, .string valc] 25))) := (below_two _ _ _).alloc (by simp; omega) _
  have neg1 : -(-x) = x := by omega
  go_enter Try.func9, Try.ntmps9
  go_wp2_with fail
  refine Calls.mono (known_is _) ?_
  rintro e w1 ⟨rfl, hbl⟩
  have HXA1 := hd (HXA.out.keep hbl)
  have HXB1 := hd (HXB.out.keep hbl)
  have HXC1 := hd (HXC.out.keep hbl)
  have HBW1 : Hid (Below w.heap.size w w1) := HBW.out.trans (hbl.mono HBW.out.size)
  clear hbl HXA HXB HXC HBW
  have a0 := HXA1.out.cell 0 _ rfl
  have a1 := HXA1.out.cell 1 _ rfl
  have a2 := HXA1.out.cell 2 _ rfl
  have a3 := HXA1.out.cell 3 _ rfl
  have b0 := HXB1.out.cell 0 _ rfl
  have b1 := HXB1.out.cell 1 _ rfl
  have b2 := HXB1.out.cell 2 _ rfl
  have b3 := HXB1.out.cell 3 _ rfl
  have c0 := HXC1.out.cell 0 _ rfl
  have c1 := HXC1.out.cell 1 _ rfl
  have c2 := HXC1.out.cell 2 _ rfl
  have c3 := HXC1.out.cell 3 _ rfl
  go_wp2_with fail
  refine Calls.mono (HXY.out w1) ?_
  rintro e w2 ⟨rfl, hbl⟩
  have HXA2 := hd (HXA1.out.keep hbl)
  have HXB2 := hd (HXB1.out.keep hbl)
  have HXC2 := hd (HXC1.out.keep hbl)
  have HBW2 : Hid (Below w.heap.size w w2) := HBW1.out.trans (hbl.mono HBW1.out.size)
  clear hbl HXA1 HXB1 HXC1 HBW1 HXY a0 a1 a2 a3 b0 b1 b2 b3 c0 c1 c2 c3
  have a0 := HXA2.out.cell 0 _ rfl
  have a1 := HXA2.out.cell 1 _ rfl
  have a2 := HXA2.out.cell 2 _ rfl
  have a3 := HXA2.out.cell 3 _ rfl
  have b0 := HXB2.out.cell 0 _ rfl
  have b1 := HXB2.out.cell 1 _ rfl
  have b2 := HXB2.out.cell 2 _ rfl
  have b3 := HXB2.out.cell 3 _ rfl
  have c0 := HXC2.out.cell 0 _ rfl
  have c1 := HXC2.out.cell 1 _ rfl
  have c2 := HXC2.out.cell 2 _ rfl
  have c3 := HXC2.out.cell 3 _ rfl
  go_wp2_with fail
  refine Calls.mono (HYZ.out w2) ?_
  rintro e w3 ⟨rfl, hbl⟩
  have HXA3 := hd (HXA2.out.keep hbl)
  have HXB3 := hd (HXB2.out.keep hbl)
  have HXC3 := hd (HXC2.out.keep hbl)
  have HBW3 : Hid (Below w.heap.size w w3) := HBW2.out.trans (hbl.mono HBW2.out.size)
  clear hbl HXA2 HXB2 HXC2 HBW2 HYZ a0 a1 a2 a3 b0 b1 b2 b3 c0 c1 c2 c3
  have a0 := HXA3.out.cell 0 _ rfl
  have a1 := HXA3.out.cell 1 _ rfl
  have a2 := HXA3.out.cell 2 _ rfl
  have a3 := HXA3.out.cell 3 _ rfl
  have b0 := HXB3.out.cell 0 _ rfl
  have b1 := HXB3.out.cell 1 _ rfl
  have b2 := HXB3.out.cell 2 _ rfl
  have b3 := HXB3.out.cell 3 _ rfl
  have c0 := HXC3.out.cell 0 _ rfl
  have c1 := HXC3.out.cell 1 _ rfl
  have c2 := HXC3.out.cell 2 _ rfl
  have c3 := HXC3.out.cell 3 _ rfl
  go_wp2_with fail
  refine Calls.mono (HXZ.out w3) ?_
  rintro e w4 ⟨rfl, hbl⟩
  have HXA4 := hd (HXA3.out.keep hbl)
  have HXB4 := hd (HXB3.out.keep hbl)
  have HXC4 := hd (HXC3.out.keep hbl)
  have HBW4 : Hid (Below w.heap.size w w4) := HBW3.out.trans (hbl.mono HBW3.out.size)
  clear hbl HXA3 HXB3 HXC3 HBW3 HXZ a0 a1 a2 a3 b0 b1 b2 b3 c0 c1 c2 c3
  have a0 := HXA4.out.cell 0 _ rfl
  have a1 := HXA4.out.cell 1 _ rfl
  have a2 := HXA4.out.cell 2 _ rfl
  have a3 := HXA4.out.cell 3 _ rfl
  have b0 := HXB4.out.cell 0 _ rfl
  have b1 := HXB4.out.cell 1 _ rfl
  have b2 := HXB4.out.cell 2 _ rfl
  have b3 := HXB4.out.cell 3 _ rfl
  have hz : x ≤ 0 → y ≤ 0 → z ≤ 0 ∧ (x < 0 ∨ y < 0 → z < 0) := HT.out
  have HTAIL : Hid ((ea ≠ 0) ∨ (ea = 0 ∧ eb ≠ 0) ∨ (ea = 0 ∧ eb = 0 ∧ la = lb) ∨ (ea = 0 ∧ eb = 0 ∧ la < lb ∧ x < 0) ∨ (ea = 0 ∧ eb = 0 ∧ lb < la ∧ 0 < x)) := by
    show (ea ≠ 0) ∨ _
    have := HW.out
    omega
  clear HT HW
  have hz2 := hz (by omega) (by omega)
  clear hz
  have HSG := hd hsign
  go_wp2_with fail
  refine Calls.mono (HYX.out w4) ?_
  rintro e w5 ⟨rfl, hbl⟩
  have HXA5 := hd (HXA4.out.keep hbl)
  have HXB5 := hd (HXB4.out.keep hbl)
  have HBW5 : Hid (Below w.heap.size w w5) := HBW4.out.trans (hbl.mono HBW4.out.size)
  clear hbl HXA4 HXB4 HXC4 HBW4 HYX a0 a1 a2 a3 b0 b1 b2 b3
  have a0 := HXA5.out.cell 0 _ rfl
  have a1 := HXA5.out.cell 1 _ rfl
  have a2 := HXA5.out.cell 2 _ rfl
  have a3 := HXA5.out.cell 3 _ rfl
  have b0 := HXB5.out.cell 0 _ rfl
  have b1 := HXB5.out.cell 1 _ rfl
  have b2 := HXB5.out.cell 2 _ rfl
  have b3 := HXB5.out.cell 3 _ rfl
  have hsg := HSG.out
  have e1 : x = 0 := by omega
  have e2 : y = 0 := by omega
  have e3 : decide (0 < z) = false := by rw [decide_eq_false_iff_not]; omega
  subst e1 e2
  clear hsg HSG hz2 neg1
  rcases HTAIL.out with h1 | ⟨h1, h2⟩ | ⟨h1, h2, h3⟩ | ⟨_, _, _, h4⟩ | ⟨_, _, _, h4⟩
  · have q1 : (((ea : Nat) : Int) != 0) = true := by simp; omega
    have q2 : (((ea : Nat) : Int) == 0) = false := by simp; omega
    cases nb
    · clear HAB
      go_wp2_with fail
      refine Calls.mono (HOA.out _) ?_
      rintro e w' ⟨rfl, hw'⟩
      have hbl : Below w5.heap.size w5 w' := by rw [hw']; exact below_two _ _ _
      have HXA6 := hd (HXA5.out.keep hbl)
      have HXB6 := hd (HXB5.out.keep hbl)
      have HBW6 : Hid (Below w.heap.size w w') := HBW5.out.trans (hbl.mono HBW5.out.size)
      clear hw' hbl HXA5 HXB5 HBW5 a0 a1 a2 a3 b0 b1 b2 b3
      go_wp2_with fail
      refine Calls.mono (HEA.out w') ?_
      rintro e w6 ⟨u, rfl, hbl⟩
      have HXA7 := hd (HXA6.out.keep hbl)
      have HXB7 := hd (HXB6.out.keep hbl)
      have HBW7 : Hid (Below w.heap.size w w6) := HBW6.out.trans (hbl.mono HBW6.out.size)
      clear hbl HXA6 HXB6 HBW6
      have b0 := HXB7.out.cell 0 _ rfl
      have b1 := HXB7.out.cell 1 _ rfl
      have b2 := HXB7.out.cell 2 _ rfl
      have b3 := HXB7.out.cell 3 _ rfl
      go_wp2_with fail
      refine Calls.mono (HOB.out _) ?_
      rintro e w7 ⟨rfl, hw'⟩
      have hbl : Below w6.heap.size w6 w7 := by rw [hw']; exact below_two _ _ _
      have HXA8 := hd (HXA7.out.keep hbl)
      have HXB8 := hd (HXB7.out.keep hbl)
      have HBW8 : Hid (Below w.heap.size w w7) := HBW7.out.trans (hbl.mono HBW7.out.size)
      clear hw' hbl HXA7 HXB7 HBW7 b0 b1 b2 b3
      go_wp2_with fail
      refine Calls.mono (HEB.out w7) ?_
      rintro e w8 ⟨u2, rfl, hbl⟩
      have HXA9 := hd (HXA8.out.keep hbl)
      have HXB9 := hd (HXB8.out.keep hbl)
      have HBW9 : Hid (Below w.heap.size w w8) := HBW8.out.trans (hbl.mono HBW8.out.size)
      clear hbl HXA8 HXB8 HBW8
      have a0 := HXA9.out.cell 0 _ rfl
      have a1 := HXA9.out.cell 1 _ rfl
      have a2 := HXA9.out.cell 2 _ rfl
      have a3 := HXA9.out.cell 3 _ rfl
      have b0 := HXB9.out.cell 0 _ rfl
      have b1 := HXB9.out.cell 1 _ rfl
      have b2 := HXB9.out.cell 2 _ rfl
      have b3 := HXB9.out.cell 3 _ rfl
      go_wp2_with fail
      go_ret
      exact ⟨rfl, HBW9.out⟩
    · have h2 : eb ≠ 0 := fun h => by have := HAB.out rfl (.inr h); cases this
      have q3 : (((eb : Nat) : Int) == 0) = false := by simp; omega
      clear HAB
      go_wp2_with fail
      refine Calls.mono (HOA.out _) ?_
      rintro e w' ⟨rfl, hw'⟩
      have hbl : Below w5.heap.size w5 w' := by rw [hw']; exact below_two _ _ _
      have HXA6 := hd (HXA5.out.keep hbl)
      have HXB6 := hd (HXB5.out.keep hbl)
      have HBW6 : Hid (Below w.heap.size w w') := HBW5.out.trans (hbl.mono HBW5.out.size)
      clear hw' hbl HXA5 HXB5 HBW5 a0 a1 a2 a3 b0 b1 b2 b3
      go_wp2_with fail
      refine Calls.mono (HEA.out w') ?_
      rintro e w6 ⟨u, rfl, hbl⟩
      have HXA7 := hd (HXA6.out.keep hbl)
      have HXB7 := hd (HXB6.out.keep hbl)
      have HBW7 : Hid (Below w.heap.size w w6) := HBW6.out.trans (hbl.mono HBW6.out.size)
      clear hbl HXA6 HXB6 HBW6
      have b0 := HXB7.out.cell 0 _ rfl
      have b1 := HXB7.out.cell 1 _ rfl
      have b2 := HXB7.out.cell 2 _ rfl
      have b3 := HXB7.out.cell 3 _ rfl
      go_wp2_with fail
      refine Calls.mono (HOB.out _) ?_
      rintro e w7 ⟨rfl, hw'⟩
      have hbl : Below w6.heap.size w6 w7 := by rw [hw']; exact below_two _ _ _
      have HXA8 := hd (HXA7.out.keep hbl)
      have HXB8 := hd (HXB7.out.keep hbl)
      have HBW8 : Hid (Below w.heap.size w w7) := HBW7.out.trans (hbl.mono HBW7.out.size)
      clear hw' hbl HXA7 HXB7 HBW7 b0 b1 b2 b3
      go_wp2_with fail
      refine Calls.mono (HEB.out w7) ?_
      rintro e w8 ⟨u2, rfl, hbl⟩
      have HXA9 := hd (HXA8.out.keep hbl)
      have HXB9 := hd (HXB8.out.keep hbl)
      have HBW9 : Hid (Below w.heap.size w w8) := HBW8.out.trans (hbl.mono HBW8.out.size)
      clear hbl HXA8 HXB8 HBW8
      have a0 := HXA9.out.cell 0 _ rfl
      have a1 := HXA9.out.cell 1 _ rfl
      have a2 := HXA9.out.cell 2 _ rfl
      have a3 := HXA9.out.cell 3 _ rfl
      have b0 := HXB9.out.cell 0 _ rfl
      have b1 := HXB9.out.cell 1 _ rfl
      have b2 := HXB9.out.cell 2 _ rfl
      have b3 := HXB9.out.cell 3 _ rfl
      go_wp2_with fail
      go_ret
      exact ⟨rfl, HBW9.out⟩
  · have q1 : (((eb : Nat) : Int) != 0) = true := by simp; omega
    obtain rfl := HAB.out rfl (.inl h1)
    subst h1
    clear HAB
    go_wp2_with fail
    refine Calls.mono (HOA.out _) ?_
    rintro e w' ⟨rfl, hw'⟩
    have hbl : Below w5.heap.size w5 w' := by rw [hw']; exact below_two _ _ _
    have HXA6 := hd (HXA5.out.keep hbl)
    have HXB6 := hd (HXB5.out.keep hbl)
    have HBW6 : Hid (Below w.heap.size w w') := HBW5.out.trans (hbl.mono HBW5.out.size)
    clear hw' hbl HXA5 HXB5 HBW5 a0 a1 a2 a3 b0 b1 b2 b3
    go_wp2_with fail
    refine Calls.mono (HEA.out w') ?_
    rintro e w6 ⟨u, rfl, hbl⟩
    have HXA7 := hd (HXA6.out.keep hbl)
    have HXB7 := hd (HXB6.out.keep hbl)
    have HBW7 : Hid (Below w.heap.size w w6) := HBW6.out.trans (hbl.mono HBW6.out.size)
    clear hbl HXA6 HXB6 HBW6
    have b0 := HXB7.out.cell 0 _ rfl
    have b1 := HXB7.out.cell 1 _ rfl
    have b2 := HXB7.out.cell 2 _ rfl
    have b3 := HXB7.out.cell 3 _ rfl
    go_wp2_with fail
    refine Calls.mono (HOB.out _) ?_
    rintro e w7 ⟨rfl, hw'⟩
    have hbl : Below w6.heap.size w6 w7 := by rw [hw']; exact below_two _ _ _
    have HXA8 := hd (HXA7.out.keep hbl)
    have HXB8 := hd (HXB7.out.keep hbl)
    have HBW8 : Hid (Below w.heap.size w w7) := HBW7.out.trans (hbl.mono HBW7.out.size)
    clear hw' hbl HXA7 HXB7 HBW7 b0 b1 b2 b3
    go_wp2_with fail
    refine Calls.mono (HEB.out w7) ?_
    rintro e w8 ⟨u2, rfl, hbl⟩
    have HXA9 := hd (HXA8.out.keep hbl)
    have HXB9 := hd (HXB8.out.keep hbl)
    have HBW9 : Hid (Below w.heap.size w w8) := HBW8.out.trans (hbl.mono HBW8.out.size)
    clear hbl HXA8 HXB8 HBW8
    have a0 := HXA9.out.cell 0 _ rfl
    have a1 := HXA9.out.cell 1 _ rfl
    have a2 := HXA9.out.cell 2 _ rfl
    have a3 := HXA9.out.cell 3 _ rfl
    have b0 := HXB9.out.cell 0 _ rfl
    have b1 := HXB9.out.cell 1 _ rfl
    have b2 := HXB9.out.cell 2 _ rfl
    have b3 := HXB9.out.cell 3 _ rfl
    go_wp2_with fail
    go_ret
    exact ⟨rfl, HBW9.out⟩
  · obtain rfl := HAB.out rfl (.inl h1)
    subst h1 h2 h3
    clear HAB
    go_wp2_with fail
    refine Calls.mono (HOA.out _) ?_
    rintro e w' ⟨rfl, hw'⟩
    have hbl : Below w5.heap.size w5 w' := by rw [hw']; exact below_two _ _ _
    have HXA6 := hd (HXA5.out.keep hbl)
    have HXB6 := hd (HXB5.out.keep hbl)
    have HBW6 : Hid (Below w.heap.size w w') := HBW5.out.trans (hbl.mono HBW5.out.size)
    clear hw' hbl HXA5 HXB5 HBW5 a0 a1 a2 a3 b0 b1 b2 b3
    go_wp2_with fail
    refine Calls.mono (HEA.out w') ?_
    rintro e w6 ⟨u, rfl, hbl⟩
    have HXA7 := hd (HXA6.out.keep hbl)
    have HXB7 := hd (HXB6.out.keep hbl)
    have HBW7 : Hid (Below w.heap.size w w6) := HBW6.out.trans (hbl.mono HBW6.out.size)
    clear hbl HXA6 HXB6 HBW6
    have b0 := HXB7.out.cell 0 _ rfl
    have b1 := HXB7.out.cell 1 _ rfl
    have b2 := HXB7.out.cell 2 _ rfl
    have b3 := HXB7.out.cell 3 _ rfl
    go_wp2_with fail
    refine Calls.mono (HOB.out _) ?_
    rintro e w7 ⟨rfl, hw'⟩
    have hbl : Below w6.heap.size w6 w7 := by rw [hw']; exact below_two _ _ _
    have HXA8 := hd (HXA7.out.keep hbl)
    have HXB8 := hd (HXB7.out.keep hbl)
    have HBW8 : Hid (Below w.heap.size w w7) := HBW7.out.trans (hbl.mono HBW7.out.size)
    clear hw' hbl HXA7 HXB7 HBW7 b0 b1 b2 b3
    go_wp2_with fail
    refine Calls.mono (HEB.out w7) ?_
    rintro e w8 ⟨u2, rfl, hbl⟩
    have HXA9 := hd (HXA8.out.keep hbl)
    have HXB9 := hd (HXB8.out.keep hbl)
    have HBW9 : Hid (Below w.heap.size w w8) := HBW8.out.trans (hbl.mono HBW8.out.size)
    clear hbl HXA8 HXB8 HBW8
    have a0 := HXA9.out.cell 0 _ rfl
    have a1 := HXA9.out.cell 1 _ rfl
    have a2 := HXA9.out.cell 2 _ rfl
    have a3 := HXA9.out.cell 3 _ rfl
    have b0 := HXB9.out.cell 0 _ rfl
    have b1 := HXB9.out.cell 1 _ rfl
    have b2 := HXB9.out.cell 2 _ rfl
    have b3 := HXB9.out.cell 3 _ rfl
    go_wp2_with fail
    go_ret
    exact ⟨rfl, HBW9.out⟩
  · omega
  · omega
theorem walk (f0 f1 f2 : Rec) (w : World) (h0 : f0.lsn < 18446744073709551616) (h1 : f1.lsn < 18446744073709551616) (h2 : f2.lsn < 18446744073709551616) :
    Calls Try.prog 9 #[.agg (rv f0), .agg (rv f1), .agg (rv f2)] w fun e w' => e = .returned (.bool true) ∧ Below w.heap.size w w' := by
  by_cases p : 0 < cp f0 f1
  · exact walk_p f0 f1 f2 w h0 h1 h2 p
  · by_cases p0 : cp f0 f1 = 0
    · by_cases r : 0 < cp f1 f2
      · exact walk_zp f0 f1 f2 w h0 h1 h2 ⟨p0, r⟩
      · by_cases r0 : cp f1 f2 = 0
        · exact walk_zz f0 f1 f2 w h0 h1 h2 ⟨p0, r0⟩
        · exact walk_zn f0 f1 f2 w h0 h1 h2 ⟨p0, by omega⟩
    · by_cases r : 0 < cp f1 f2
      · exact walk_np f0 f1 f2 w h0 h1 h2 ⟨by omega, r⟩
      · by_cases r0 : cp f1 f2 = 0
        · exact walk_nz f0 f1 f2 w h0 h1 h2 ⟨by omega, r0⟩
        · exact walk_nn f0 f1 f2 w h0 h1 h2 ⟨by omega, by omega⟩
set_option linter.unusedVariables false
set_option maxRecDepth 100000 in
theorem lifted (os : Os) (started : os.Started) (H : Type) (enc : TypeId × Value → H) :
    ReturnsInHanded {} Try.checked os 9 .any (Rows.frameRanksSpec.pre6 enc Try.prog Try.f9 Rows.frameRanksRow.domain false) (Rows.frameRanksSpec.post enc Try.prog Try.f9 false true false false) := by
  refine returnsInHanded_of_change (C := Try.checked) own started (by kernel_rfl) Try.func9
    (ChangeSpec.witness6 (enc := enc) (C := Try.checked) false ⟨#[], #[.agg #[.int .u64 0, .int .i64 0, .string ⟨#[]⟩, .string ⟨#[]⟩], .agg #[.int .u64 0, .int .i64 0, .string ⟨#[]⟩, .string ⟨#[]⟩], .agg #[.int .u64 0, .int .i64 0, .string ⟨#[]⟩, .string ⟨#[]⟩]], []⟩ 8 (by kernel_rfl) (by kernel_rfl) (by kernel_rfl) (by kernel_rfl)) ?_
  intro W base args ds gs before hval0 hW hcnd _
  have hval : ∀ (j : Nat) t v, Try.f9.params[j]? = some t → args[j]? = some v → Value.okWide Try.prog W .any base t v := hval0
  have hW' := hW
  obtain ⟨p, q, hA0, hV, rfl, hfz, hnd⟩ := hW
  have hA : DataW.TrodAll enc Try.prog W 0 (fun _ => true) true Try.f9.params.toList args.toList ds p := hA0
  rw [Try.params9] at hA hval
  obtain ⟨v0, vs0, d0, ds0, p0, q0, hargs, rfl, rfl, h0, r0⟩ := trodAll_cons hA
  obtain ⟨v1, vs1, d1, ds1, p1, q1, rfl, rfl, rfl, h1, r1⟩ := trodAll_cons r0
  obtain ⟨v2, vs2, d2, ds2, p2, q2, rfl, rfl, rfl, h2, r2⟩ := trodAll_cons r1
  obtain ⟨rfl, rfl, rfl⟩ := trodAll_nil r2
  obtain rfl : args = #[v0, v1, v2] := by cases args; simp_all
  obtain ⟨rfl, rfl⟩ := trodVars_none hV
  obtain ⟨f0, rfl, w0⟩ := record_arg (hval 0 25 v0 rfl rfl)
  have lt0 : ∀ x ∈ p0, x.block < W.heap.size := by obtain ⟨m, hm⟩ := h0; exact DataW.trod_lt m _ _ _ hm
  obtain ⟨f1, rfl, w1⟩ := record_arg (hval 1 25 v1 rfl rfl)
  have lt1 : ∀ x ∈ p1, x.block < W.heap.size := by obtain ⟨m, hm⟩ := h1; exact DataW.trod_lt m _ _ _ hm
  obtain ⟨f2, rfl, w2⟩ := record_arg (hval 2 25 v2 rfl rfl)
  have lt2 : ∀ x ∈ p2, x.block < W.heap.size := by obtain ⟨m, hm⟩ := h2; exact DataW.trod_lt m _ _ _ hm
  clear hA0 hval0
  refine (walk f0 f1 f2 W w0 w1 w2).mono fun e W' ⟨he, bel⟩ => ?_
  subst he
  exact ⟨_, rfl, _, _, _, [], _, [], hW', trodAll_mk1 (shut_bool Try.underlying4 _), (trodAll_cons_mk (Below.trod laidOut (by kernel_rfl) (of_decide_eq_true (by kernel_rfl)) h0 bel lt0) (trodAll_cons_mk (Below.trod laidOut (by kernel_rfl) (of_decide_eq_true (by kernel_rfl)) h1 bel lt1) (trodAll_cons_mk (Below.trod laidOut (by kernel_rfl) (of_decide_eq_true (by kernel_rfl)) h2 bel lt2) trodAll_mk0))), rfl, bel.frame _, fun h => by cases h⟩

theorem over : Rows.frameRanksRow.holds Try.pinned (OpenSpec.ofChange Rows.frameRanksSpec) :=
  OpenClaim.holds_of_wide 9 Try.f9 rfl rfl rfl rfl rfl rfl rfl ⟨rfl, rfl, rfl, rfl, rfl⟩ rfl rfl rfl rfl rfl (by kernel_rfl) Try.func9 (by kernel_rfl)
    (of_decide_eq_true (by kernel_rfl)) (by unfold Func.isWrapper; first | (rw [if_pos (by decide +kernel)]; kernel_rfl) | (rw [if_neg (by decide +kernel)]; exact ⟨rfl, rfl⟩))
    (fun os started H enc _ => lifted os started H enc)
end Fra

theorem frameRanks_holds : Rows.FrameRanksSaid := Fra.over
#print axioms frameRanks_holds
end Go.Proofs.Yticcmeicpkgfnaa
