/-
  THE REFERENCE OF LAYER 10: Check says what the program's says.
  HintChecks' walk; a pointer as a parameter.
  FrameReads' walk.
-/
import Derived.Test.YtmcipkogkibkaaaMbx
import Derived.Test.YtmcipkogkibkaaaMbe
import Derived.Test.YtmcipkogkibkaaaMbj
import Derived.Test.YtmcipkogkibkaaaMbk
import Derived.Test.YtmcipkogkibkaaaMbl
import Derived.Test.YtmcipkogkibkaaaMbm
namespace Go.Proofs.Ytmcipkogkibkaaa
open Go.RowKit
namespace Vt
attribute [local go_sem] Oper.semAt_some
set_option maxRecDepth 100000 in
set_option maxHeartbeats 1000000 in
theorem r10_isRecord (f : Fr) (w : World) : Calls Try.prog 32 #[.agg (fv f)] w fun e w' => e = .returned (.bool (isRec f)) ∧ Below w.heap.size w w' := by
  obtain ⟨k, ⟨rl, rk, rkey, rval⟩, ⟨pl, pk, pa, pn, pkey⟩, ⟨ec, eb, ef, es⟩⟩ := f
  simp only [fv]
  by_cases h1 : k = 1
  · subst h1
    go_enter Try.func32, Try.ntmps32
    go_wp2
    go_ret
    exact ⟨rfl, (Below.refl _ _).alloc (Nat.le_refl _) _⟩
  · by_cases h2 : k = 2
    · subst h2
      go_enter Try.func32, Try.ntmps32
      go_wp2
      go_ret
      exact ⟨rfl, (Below.refl _ _).alloc (Nat.le_refl _) _⟩
    · have e1 : (k == 1) = false := by simp [h1]
      have e2 : (k == 2) = false := by simp [h2]
      have HR := hd (show isRec ⟨k, ⟨rl, rk, rkey, rval⟩, ⟨pl, pk, pa, pn, pkey⟩, ⟨ec, eb, ef, es⟩⟩ = false by unfold isRec; simp [h1, h2])
      go_enter Try.func32, Try.ntmps32
      go_wp2
      go_ret
      exact ⟨by rw [HR.out]; rfl, (Below.refl _ _).alloc (Nat.le_refl _) _⟩
open Classical in
set_option maxRecDepth 100000 in
set_option maxHeartbeats 2000000 in
theorem r10_check (v : Value) (l : List Nat) (p : Ptr) (w : World) (hI : IsB w v l) (hm : l.length ≤ 9223372036854775000) :
    Calls Try.prog 13 #[v, .agg (pv p)] w fun e w' => e = .returned (.bool (chk l p)) ∧ Below w.heap.size w w' := by
  obtain ⟨a, c, rfl⟩ := hI.shape
  have HC : Hid (∀ w', Below w.heap.size w w' → Calls Try.prog 7 #[.slice a l.length c, .int .i64 p.at_] w' fun e w'' => e = .returned (dval (decF l p.at_)) ∧ Below w'.heap.size w' w'') := fun w' h => r4_decode _ l p.at_ w' (hI.below h) hm
  obtain ⟨f, q, er, hdd⟩ : ∃ f q er, decF l p.at_ = (f, q, er) := ⟨_, _, _, rfl⟩
  have HH := hd (r10_isRecord f)
  have hk : chk l p = (decide (er = 0) && isRec f && decide ((q : Int) = p.len) && decide (f.r.lsn = p.lsn) && decide (f.r.kind = p.kind) && decide (f.r.key = p.key)) := by
    have h1 : chk l p = true ↔ (er = 0 ∧ isRec f = true ∧ p = ptr f p.at_ (q : Int)) := by unfold chk; rw [hdd]; exact decide_eq_true_iff
    rw [Bool.eq_iff_iff, h1]
    simp only [Bool.and_eq_true, decide_eq_true_eq, and_assoc, ptr]
    constructor
    · rintro ⟨h1, h2, h3⟩
      refine ⟨h1, h2, ?_⟩
      rw [h3]
      exact ⟨rfl, rfl, rfl, rfl⟩
    · rintro ⟨h1, h2, h3, h4, h5, h6⟩
      refine ⟨h1, h2, ?_⟩
      obtain ⟨p1, p2, p3, p4, p5⟩ := p
      simp only at h3 h4 h5 h6
      rw [h3, h4, h5, h6]
  obtain ⟨bR, hbR⟩ : ∃ b, b = isRec f := ⟨_, rfl⟩
  obtain ⟨b1, hb1⟩ : ∃ b, b = decide (er = 0) := ⟨_, rfl⟩
  obtain ⟨b3, hb3⟩ : ∃ b, b = decide ((q : Int) = p.len) := ⟨_, rfl⟩
  obtain ⟨b4, hb4⟩ : ∃ b, b = decide (f.r.lsn = p.lsn) := ⟨_, rfl⟩
  obtain ⟨b5, hb5⟩ : ∃ b, b = decide (f.r.kind = p.kind) := ⟨_, rfl⟩
  obtain ⟨b6, hb6⟩ : ∃ b, b = decide (f.r.key = p.key) := ⟨_, rfl⟩
  rw [← hbR, ← hb1, ← hb3, ← hb4, ← hb5, ← hb6] at hk
  rw [← hbR] at HH
  rw [hdd] at HC
  have HK := hd hk
  obtain ⟨bc, hbc⟩ : ∃ b, b = chk l p := ⟨_, rfl⟩
  rw [← hbc] at HK ⊢
  have t1 : ((er : Int) == 0) = b1 := by rw [hb1]; by_cases h : er = 0 <;> simp [h]
  have t3 : ((q : Int) == p.len) = b3 := by rw [hb3]; by_cases h : (q : Int) = p.len <;> simp [h]
  have t4 : ((f.r.lsn : Int) == (p.lsn : Int)) = b4 := by
    rw [hb4]
    by_cases h : f.r.lsn = p.lsn
    · simp [h]
    · rw [decide_eq_false h, beq_eq_false_iff_ne]; omega
  have t4' : (f.r.lsn == p.lsn) = b4 := by rw [hb4]; by_cases h : f.r.lsn = p.lsn <;> simp [h]
  have t4'' : decide (f.r.lsn = p.lsn) = b4 := hb4.symm
  have t5 : (f.r.kind == p.kind) = b5 := by rw [hb5]; by_cases h : f.r.kind = p.kind <;> simp [h]
  have t6 : (f.r.key.toList == p.key.toList) = b6 := by rw [hb6]; exact str_beq _ _
  clear hdd hI hk hbR hb1 hb3 hb4 hb5 hb6 hbc
  obtain ⟨p1, p2, p3, p4, p5⟩ := p
  obtain ⟨k, ⟨rl, rk, rkey, rval⟩, ⟨pl, pk, pa, pn, pkey⟩, ⟨ec, eb, ef, es⟩⟩ := f
  simp only [pv, dval, fv] at *
  go_enter Try.func13, Try.ntmps13
  go_wp2_with fail
  refine Calls.mono (HC.out _ ((Below.refl _ _).alloc (Nat.le_refl _) _)) ?_
  rintro e w1 ⟨rfl, hb⟩
  have HB := hd (below_alloc1 hb)
  have HPW := hd ((Blk.new w 29 _).keep hb)
  have hsz := hb.size
  rw [World.size_alloc] at hsz
  clear hb HC
  go_wp2_with fail
  refine Calls.mono (HH.out _) ?_
  rintro e w2 ⟨rfl, hb2⟩
  have hsz2 := hb2.size
  rw [World.size_alloc] at hsz2
  have HB2 := hd (HB.out.trans ((below_alloc1 hb2).mono HB.out.size))
  have hPB := (HPW.out.alloc (.cells #[.int .i64 k, .int .u64 (rl : Int), .int .i64 rk, .string rkey, .string rval, .int .u64 (pl : Int), .int .i64 pk, .int .i64 pa, .int .i64 pn, .string pkey, .int .i64 ec, .int .i64 eb, .int .i64 ef, .int .u32 (es : Int)] 36)).keep hb2
  have hFB := (Blk.new w1 36 [.int .i64 k, .int .u64 (rl : Int), .int .i64 rk, .string rkey, .string rval, .int .u64 (pl : Int), .int .i64 pk, .int .i64 pa, .int .i64 pn, .string pkey, .int .i64 ec, .int .i64 eb, .int .i64 ef, .int .u32 (es : Int)]).keep hb2
  have y0 := hPB.cell 0 _ rfl
  have y1 := hPB.cell 1 _ rfl
  have y3 := hPB.cell 3 _ rfl
  have y4 := hPB.cell 4 _ rfl
  have x1 := hFB.cell 1 _ rfl
  have x2 := hFB.cell 2 _ rfl
  have x3 := hFB.cell 3 _ rfl
  have hmx : Try.prog.follows .mixedOrders = true := by kernel_rfl
  clear hPB hFB hb2 HB HPW HH hsz hsz2
  cases b1 with
  | false =>
    go_wp2_with fail
    go_ret
    exact ⟨by rw [HK.out]; rfl, HB2.out⟩
  | true =>
    cases bR with
    | false =>
      go_wp2_with fail
      go_ret
      exact ⟨by rw [HK.out]; rfl, HB2.out⟩
    | true =>
      cases b3 with
      | false =>
        go_wp2_with fail
        go_ret
        exact ⟨by rw [HK.out]; rfl, HB2.out⟩
      | true =>
        cases b4 with
        | false =>
          go_wp2_with fail
          go_ret
          exact ⟨by rw [HK.out]; rfl, HB2.out⟩
        | true =>
          cases b5 with
          | false =>
            go_wp2_with fail
            go_ret
            exact ⟨by rw [HK.out]; rfl, HB2.out⟩
          | true =>
            cases b6 with
            | false =>
              go_wp2_with fail
              go_ret
              exact ⟨by rw [HK.out]; rfl, HB2.out⟩
            | true =>
              go_wp2_with fail
              go_ret
              exact ⟨by rw [HK.out]; rfl, HB2.out⟩
end Vt
end Go.Proofs.Ytmcipkogkibkaaa
namespace Go.Proofs.Ytmcipkogkibkaaa
open Go.ChangeShapes Go.WideShapes Go.ChangeAt Go.RowKit Go.Shelf
namespace Vt
theorem cells_ptr : Try.prog.cellTypes Try.prog.depth 29 = some [25, 24, 3, 3, 9] := by kernel_rfl
theorem size_ptr : Try.prog.cellsOf 29 = 5 := by kernel_rfl
theorem list5 {α : Type} {l : List α} (h : l.length = 5) : ∃ a b c d e, l = [a, b, c, d, e] := by
  match l, h with
  | [a, b, c, d, e], _ => exact ⟨a, b, c, d, e, rfl⟩
set_option maxRecDepth 100000 in
/-- a pointer that comes in -/
theorem pointer_arg {w : World} {r : Reach} {base : Nat} {v : Value} (h : Value.okWide Try.prog w r base 29 v) : ∃ f : Ptr, v = .agg (pv f) ∧ f.lsn < 18446744073709551616 := by
  obtain ⟨cs, rfl, hsz, ts, hts, _, hcell⟩ := okW_struct Try.underlying29 h
  rw [size_ptr] at hsz
  rw [cells_ptr] at hts
  injection hts with hts
  subst hts
  obtain ⟨l⟩ := cs
  obtain ⟨v0, v1, v2, v3, v4, rfl⟩ := list5 (l := l) (by simpa using hsz)
  have key : ∀ i v u, (#[v0, v1, v2, v3, v4] : Array Value)[i]? = some v → [25, 24, 3, 3, 9][i % 5]? = some u → Cell.okWide Try.prog w r base u v := by
    intro i v u hv hu
    obtain ⟨u', hu', hc⟩ := hcell i v hv
    have e : some u' = some u := hu'.symm.trans hu
    injection e with e
    subst e
    exact hc
  obtain ⟨n1, rfl, b1⟩ := cell_int Try.underlying25 (key 0 _ _ rfl rfl)
  obtain ⟨n2, rfl, _⟩ := cell_int Try.underlying24 (key 1 _ _ rfl rfl)
  obtain ⟨n3, rfl, _⟩ := cell_int Try.underlying3 (key 2 _ _ rfl rfl)
  obtain ⟨n4, rfl, _⟩ := cell_int Try.underlying3 (key 3 _ _ rfl rfl)
  obtain ⟨s5, rfl⟩ := cell_string Try.underlying9 (key 4 _ _ rfl rfl)
  have u1 : 0 ≤ n1 ∧ n1 < 18446744073709551616 := has_u64 b1
  obtain ⟨m1, rfl⟩ : ∃ m : Nat, n1 = (m : Int) := ⟨n1.toNat, by omega⟩
  exact ⟨⟨m1, n2, n3, n4, s5⟩, rfl, by show m1 < _; omega⟩
attribute [local go_sem] Oper.semAt_some
set_option maxRecDepth 100000 in
set_option maxHeartbeats 2000000 in
theorem checks_walk (v : Value) (l : List Nat) (p : Ptr) (w : World) (hI : IsB w v l) (hm : l.length ≤ 140737488351232) :
    Calls Try.prog 4 #[v, .agg (pv p)] w fun e w' => e = .returned (.bool true) ∧ Below w.heap.size w w' := by
  obtain ⟨a, c, rfl⟩ := hI.shape
  have HI := hd hI
  clear hI
  have HCK := hd (fun (v : Value) (w : World) (h : IsB w v l) => check_is v l p w h)
  have HRK := hd (fun (v : Value) (w : World) (h : IsB w v l) => r10_check v l p w h (by omega))
  obtain ⟨bc, hbc⟩ : ∃ b, b = chk l p := ⟨_, rfl⟩
  rw [← hbc] at HCK HRK
  clear hbc
  obtain ⟨p1, p2, p3, p4, p5⟩ := p
  simp only [pv] at *
  go_enter Try.func4, Try.ntmps4
  have HX0 := hd (Blk.new w 29 [.int .u64 (p1 : Int), .int .i64 p2, .int .i64 p3, .int .i64 p4, .string p5])
  go_wp2_with fail
  refine Calls.mono (hknown_is _) ?_
  rintro e w1 ⟨rfl, hb1⟩
  have HB1 := hd (below_alloc1 hb1)
  have HX1 := hd (HX0.out.keep hb1)
  have HI1 := hd (HI.out.below HB1.out)
  clear hb1 HI HX0
  go_wp2_with fail
  refine Calls.mono (hlent_is _ l w1 HI1.out hm) ?_
  rintro e w2 ⟨g, gc, rfl, hJ2, hb2⟩
  have HB2 := hd (HB1.out.trans (hb2.mono HB1.out.size))
  have HX2 := hd (HX1.out.keep hb2)
  have HI2 := hd (HI1.out.below hb2)
  have HJ2 := hd hJ2
  clear hb2 hJ2 HB1 HX1 HI1
  have c0 := HX2.out.cell 0 _ rfl
  have c1 := HX2.out.cell 1 _ rfl
  have c2 := HX2.out.cell 2 _ rfl
  have c3 := HX2.out.cell 3 _ rfl
  have c4 := HX2.out.cell 4 _ rfl
  go_wp2_with fail
  refine Calls.mono (HCK.out _ w2 (lent2_isB HJ2.out)) ?_
  rintro e w3 ⟨rfl, hb3⟩
  have HB3 := hd (HB2.out.trans (hb3.mono HB2.out.size))
  have HX3 := hd (HX2.out.keep hb3)
  have HI3 := hd (HI2.out.below hb3)
  have HJ3 := hd (HJ2.out.keepAll hb3)
  clear hb3 HB2 HX2 HI2 HJ2 c0 c1 c2 c3 c4
  go_wp2_with fail
  refine Calls.mono (hkept_is g gc _ l _ w3 HJ3.out HI3.out hm) ?_
  rintro e w4 ⟨rfl, hb4⟩
  have HB4 := hd (HB3.out.trans (hb4.mono HB3.out.size))
  have HX4 := hd (HX3.out.keep hb4)
  have HI4 := hd (HI3.out.below hb4)
  clear hb4 HB3 HX3 HI3 HJ3
  have c0 := HX4.out.cell 0 _ rfl
  have c1 := HX4.out.cell 1 _ rfl
  have c2 := HX4.out.cell 2 _ rfl
  have c3 := HX4.out.cell 3 _ rfl
  have c4 := HX4.out.cell 4 _ rfl
  have hmx : Try.prog.follows .mixedOrders = true := by kernel_rfl
  have HRK4 : Hid (∀ m : Nat, Calls Try.prog 13 #[.slice a l.length c, .agg #[.int .u64 (p1 : Int), .int .i64 p2, .int .i64 p3, .int .i64 p4, .string p5]] (w4.drewN m) fun e w' => e = .returned (.bool bc) ∧ Below w.heap.size w w') := fun m => by
    refine (HRK.out _ (w4.drewN m) (HI4.out.below (below_drewN (Below.refl _ _) m))).mono ?_
    rintro e w5 ⟨rfl, hb5⟩
    exact ⟨rfl, HB4.out.trans (((below_drewN (Below.refl _ _) m).trans hb5).mono HB4.out.size)⟩
  go_wp2_with fail
  refine Calls.mono (HRK4.out 0) ?_
  rintro e w5 ⟨rfl, hb5⟩
  have HB5 := hd hb5
  have hbb : (bc == bc) = true := by simp
  clear hb5 HRK4
  go_wp2_with fail
  go_ret
  exact ⟨rfl, HB5.out⟩
end Vt
end Go.Proofs.Ytmcipkogkibkaaa
namespace Go.Proofs.Ytmcipkogkibkaaa
open Go.ChangeShapes Go.WideShapes Go.ChangeAt Go.RowKit
namespace Vt
theorem tail_at (l : List Nat) : (l ++ [167, 17, 34]).getD l.length 0 = 167 ∧ (l ++ [167, 17, 34]).getD (l.length + 1) 0 = 17 ∧ (l ++ [167, 17, 34]).getD (l.length + 2) 0 = 34 := by
  refine ⟨?_, ?_, ?_⟩
  · rw [List.getD_eq_getElem?_getD, List.getElem?_append_right (Nat.le_refl _)]; simp
  · rw [List.getD_eq_getElem?_getD, List.getElem?_append_right (by omega)]; simp
  · rw [List.getD_eq_getElem?_getD, List.getElem?_append_right (by omega)]; simp
theorem jb_buf {w : World} {base g n cap : Nat} {l : List Nat} (h : JB w base (.slice (some ⟨g, 0, none⟩) n cap) l) : Buf w g cap l := by
  obtain ⟨a, c, e, _⟩ := h.shape
  injection e with e1 e2 e3
  subst e2
  exact buf_of_own h.1 rfl h.lt.1 h.2
attribute [local go_sem] Oper.semAt_some
set_option maxRecDepth 100000 in
set_option maxHeartbeats 2000000 in
theorem reads_walk (v : Value) (l : List Nat) (z : Int) (w : World) (hI : IsB w v l) (hm : l.length ≤ 140737488351232) :
    Calls Try.prog 3 #[v, .int .i64 z] w fun e w' => e = .returned (.bool true) ∧ Below w.heap.size w w' := by
  obtain ⟨a, c, rfl⟩ := hI.shape
  have HI := hd hI
  clear hI
  go_enter Try.func3, Try.ntmps3
  go_wp2_with fail
  refine Calls.mono (known_is _) ?_
  rintro e w1 ⟨rfl, hb⟩
  have HB1 := hd hb
  have HI1 := hd (HI.out.below hb)
  clear hb HI
  go_wp2_with (first
    | (at_builtin; refine wpList_append_jb _ rfl _ _ rfl w1.heap.size _ _ [] l rfl rfl (jb_nil _ _) HI1.out l.length (by simp) l (by simp) (by omega) (Nat.le_refl _) ?_; intro a3 c3 w3 hJ3 hg3 hc3; have HJ3 := hd hJ3; have HG3 := hd ((jb_nil w1 w1.heap.size).grown (Below.refl _ _) (Nat.le_refl _) (Nat.le_refl _) hg3); clear hJ3 hg3; have hs3 := HG3.out.size)
    | (at_builtin; refine wpList_append_jb _ rfl _ _ rfl w1.heap.size _ _ l [167, 17, 34] rfl rfl (HJ3.out.keepAll ((Below.refl _ _).alloc (Nat.le_refl _) _)) (lit_isK .u8 256 _ _ 5 [167, 17, 34] 3 rfl (by simp) (by intro y hy; simp at hy; omega) (by simp [maxLen])) (l.length + 3) (by simp) (l ++ [167, 17, 34]) rfl (by omega) (by simp; omega) ?_; intro a4 c4 w4 hJ4 hg4 hc4; have HG4 := hd ((HJ3.out.keepAll ((Below.refl _ _).alloc (Nat.le_refl _) (.cells #[.int .u8 167, .int .u8 17, .int .u8 34] 5))).grown (HG3.out.alloc hs3 _) (Nat.le_refl _) (by simp; omega) hg4); have HJ4 := hd hJ4; clear hJ4 hg4))
  obtain ⟨g, rfl⟩ : ∃ g, a4 = some ⟨g, 0, none⟩ := by
    rcases HJ4.out.2.2 with ⟨e, h0⟩ | ⟨g', cap', cur, e, _⟩
    · simp at h0
    · injection e with e1; exact ⟨g', e1⟩
  have HI4 := hd (IsK.take HJ4.out.isB l.length (by simp))
  rw [List.take_left] at HI4
  have HB4 := hd (HB1.out.trans (HG4.out.mono HB1.out.size))
  have HV4 := hd (HI1.out.below HG4.out)
  have HWS : Hid (w.heap.size ≤ w1.heap.size) := hd HB1.out.size
  clear HJ3 HG3 hs3 hc3 HG4 HB1
  refine Calls.mono (decode_all _ l z w4 HI4.out) ?_
  rintro e w5 ⟨rfl, hb5⟩
  have HJ5 := hd (HJ4.out.keepAll hb5)
  have HI5 := hd (HI4.out.below hb5)
  have HB5 := hd (HB4.out.trans (hb5.mono HB4.out.size))
  have HV5 := hd (HV4.out.below hb5)
  clear hb5 HJ4 HI4 HB4 HV4
  have HRD := hd (fun (v : Value) (w : World) (h : IsB w v l) => r4_decode v l z w h (by omega))
  obtain ⟨f, n, e, hde⟩ : ∃ f n e, decF l z = (f, n, e) := ⟨_, _, _, rfl⟩
  rw [hde] at HRD ⊢
  clear hde
  obtain ⟨k, ⟨rl, rk, rkey, rval⟩, ⟨pl, pk, pa, pn, pkey⟩, ⟨ec, eb, ef, es⟩⟩ := f
  simp only [dval, fv] at HRD ⊢
  have HU5 : Hid (Buf w5 g c4 (l ++ [167, 17, 34])) := hd (jb_buf HJ5.out)
  have hgw : g < w5.heap.size ∧ w1.heap.size ≤ g := HJ5.out.lt
  have HF5 := hd (Blk.new w5 36 [.int .i64 k, .int .u64 (rl : Int), .int .i64 rk, .string rkey, .string rval, .int .u64 (pl : Int), .int .i64 pk, .int .i64 pa, .int .i64 pn, .string pkey, .int .i64 ec, .int .i64 eb, .int .i64 ef, .int .u32 (es : Int)])
  have heqf := fun w => eql_yes (f := ⟨k, ⟨rl, rk, rkey, rval⟩, ⟨pl, pk, pa, pn, pkey⟩, ⟨ec, eb, ef, es⟩⟩) (g := ⟨k, ⟨rl, rk, rkey, rval⟩, ⟨pl, pk, pa, pn, pkey⟩, ⟨ec, eb, ef, es⟩⟩) rfl w
  simp only [fv] at heqf
  have HEQ := hd heqf
  clear HJ5 heqf
  have HR5 := hd (fun o => HRD.out _ (w5.alloc o) (HV5.out.below ((Below.refl _ w5).alloc (Nat.le_refl _) o)))
  have hgw1 := hgw.1
  have hgw2 := hgw.2
  clear hgw
  go_wp2_with fail
  refine Calls.mono (HR5.out _) ?_
  rintro e6 w6 ⟨rfl, hb6⟩
  have hb6' := below_alloc1 hb6
  have HU6 := hd (HU5.out.below hgw1 hb6')
  have HI6 := hd (HI5.out.below hb6')
  have HV6 := hd (HV5.out.below hb6')
  have HB6 := hd (HB5.out.trans (hb6'.mono HB5.out.size))
  have HF6 := hd (HF5.out.keep hb6)
  have hgw6 : g < w6.heap.size := Nat.lt_of_lt_of_le hgw1 hb6'.size
  have hg5 : w5.heap.size < w6.heap.size := by have := hb6.size; rw [World.size_alloc] at this; omega
  clear hb6 hb6' HU5 HI5 HV5 HB5 HF5 HR5
  go_wp2_with fail
  obtain ⟨Wa, hWa⟩ : ∃ Wa, Wa = w6.alloc (.cells #[.int .i64 k, .int .u64 (rl : Int), .int .i64 rk, .string rkey, .string rval, .int .u64 (pl : Int), .int .i64 pk, .int .i64 pa, .int .i64 pn, .string pkey, .int .i64 ec, .int .i64 eb, .int .i64 ef, .int .u32 (es : Int)] 36) := ⟨_, rfl⟩
  rw [← hWa]
  have hba : Below w6.heap.size w6 Wa := by rw [hWa]; exact (Below.refl _ _).alloc (Nat.le_refl _) _
  have HUa := hd (HU6.out.below hgw6 hba)
  have HIa := hd (HI6.out.below hba)
  have HVa := hd (HV6.out.below hba)
  have HBa := hd (HB6.out.trans (hba.mono HB6.out.size))
  have HFa := hd (HF6.out.keep hba)
  have HGa : Hid (Blk Wa w6.heap.size 36 [.int .i64 k, .int .u64 (rl : Int), .int .i64 rk, .string rkey, .string rval, .int .u64 (pl : Int), .int .i64 pk, .int .i64 pa, .int .i64 pn, .string pkey, .int .i64 ec, .int .i64 eb, .int .i64 ef, .int .u32 (es : Int)]) := hd (by rw [hWa]; exact Blk.new w6 _ _)
  have hga : g < Wa.heap.size := Nat.lt_of_lt_of_le hgw6 hba.size
  have hza : w6.heap.size < Wa.heap.size := by rw [hWa, World.size_alloc]; omega
  clear hba hWa HU6 HI6 HV6 HB6 HF6
  have HSA := hd (fsame_is _ _ l l Wa HIa.out HVa.out)
  have HYY : Hid (decide (l = l) = true) := by simp [Hid]
  refine Calls.mono HSA.out ?_
  rintro e7 w7 ⟨rfl, nn, rfl⟩
  rw [HYY.out]
  have t0 : Wa.cell? ⟨g, l.length, none⟩ = some (.int .u8 167) := by
    have := HUa.out.cell (j := l.length) (by simp)
    rw [(tail_at l).1] at this
    exact this
  have t1 : Wa.cell? ⟨g, l.length + 1, none⟩ = some (.int .u8 17) := by
    have := HUa.out.cell (j := l.length + 1) (by simp)
    rw [(tail_at l).2.1] at this
    exact this
  have t2 : Wa.cell? ⟨g, l.length + 2, none⟩ = some (.int .u8 34) := by
    have := HUa.out.cell (j := l.length + 2) (by simp)
    rw [(tail_at l).2.2] at this
    exact this
  clear HSA HYY
  go_wp2_with fail
  go_loopw [15] (fun i wr => ∃ (q : Nat), q ≤ l.length ∧ i = .int .i64 (q : Int) ∧ (∃ F', F'.length = l.length + 3 ∧ Buf wr g c4 F') ∧ Blk wr w5.heap.size 36 [.int .i64 k, .int .u64 (rl : Int), .int .i64 rk, .string rkey, .string rval, .int .u64 (pl : Int), .int .i64 pk, .int .i64 pa, .int .i64 pn, .string pkey, .int .i64 ec, .int .i64 eb, .int .i64 ef, .int .u32 (es : Int)] ∧ Blk wr w6.heap.size 36 [.int .i64 k, .int .u64 (rl : Int), .int .i64 rk, .string rkey, .string rval, .int .u64 (pl : Int), .int .i64 pk, .int .i64 pa, .int .i64 pn, .string pkey, .int .i64 ec, .int .i64 eb, .int .i64 ef, .int .u32 (es : Int)] ∧ Below w.heap.size w wr) (fun i _ => l.length - (intOf i).toNat)
  case atStart => exact ⟨0, by omega, rfl, ⟨_, by simp, HUa.out.below hga (below_drewN (Below.refl _ _) nn)⟩, HFa.out.keep (below_drewN (Below.refl _ _) nn), HGa.out.keep (below_drewN (Below.refl _ _) nn), below_drewN HBa.out nn⟩
  case round =>
    obtain ⟨q, hq, rfl, ⟨F', hF, hB'⟩, hbf, hbg, hB⟩ := hrel
    have HF := hd hB'
    have HB := hd hB
    have HBF := hd hbf
    have HBG := hd hbg
    clear hB' hB hbf hbg HUa HIa HVa HBa HFa HGa t0 t1 t2
    by_cases hlt : q < l.length
    · have hcell := HF.out.cell (j := q) (by omega)
      have hfro := HF.out.2.2.2.2.2 q (by omega)
      have hp := getD_lt HF.out.2.2.2.1 q
      have HS := hd (HF.out.set (j := q) (y := F'.getD q 0 ^^^ 1) (by omega) (Nat.xor_lt_two_pow (n := 8) hp (by decide)))
      have hx : bits .xor .u8 ((F'.getD q 0 : Nat) : Int) 1 = ((F'.getD q 0 ^^^ 1 : Nat) : Int) := u8_xor_nat (F'.getD q 0) 1 hp (by decide)
      have HX := hd hx
      have HFL := hd hF
      clear hx hF
      generalize F'.getD q 0 = p at *
      go_wp2_with fail
      rw [HX.out]
      go_roundw
      case rel => exact ⟨q + 1, by omega, by go_num, ⟨_, by rw [List.length_set]; exact HFL.out, HS.out⟩, HBF.out.other (p := ⟨g, q, none⟩) (by show g ≠ w5.heap.size; omega) _, HBG.out.other (p := ⟨g, q, none⟩) (by show g ≠ w6.heap.size; omega) _, HB.out.setCell (p := ⟨g, q, none⟩) (by show w.heap.size ≤ g; have := HWS.out; omega) _⟩
      case measure => simp [intOf]; omega
    · obtain rfl : q = l.length := by omega
      have hIw := IsK.take (HF.out.isB (n := l.length + 3) hF.symm) l.length (by rw [hF]; omega)
      have hml : (F'.take l.length).length = l.length := by rw [List.length_take]; omega
      obtain ⟨m, hmm⟩ : ∃ m, m = F'.take l.length := ⟨_, rfl⟩
      rw [← hmm] at hIw hml
      have HIw := hd hIw
      have HDM := hd (decode_all _ m z wr hIw)
      have HRM := hd (fun (v : Value) (w : World) (h : IsB w v m) => r4_decode v m z w h (by omega))
      obtain ⟨f2, n2, e2, hde⟩ : ∃ f n e, decF m z = (f, n, e) := ⟨_, _, _, rfl⟩
      rw [hde] at HDM HRM
      clear hde hmm hF hIw hml
      obtain ⟨k2, ⟨rl2, rk2, rkey2, rval2⟩, ⟨pl2, pk2, pa2, pn2, pkey2⟩, ⟨ec2, eb2, ef2, es2⟩⟩ := f2
      simp only [dval, fv] at HDM HRM
      have heq2 := fun w => eql_yes (f := ⟨k2, ⟨rl2, rk2, rkey2, rval2⟩, ⟨pl2, pk2, pa2, pn2, pkey2⟩, ⟨ec2, eb2, ef2, es2⟩⟩) (g := ⟨k2, ⟨rl2, rk2, rkey2, rval2⟩, ⟨pl2, pk2, pa2, pn2, pkey2⟩, ⟨ec2, eb2, ef2, es2⟩⟩) rfl w
      simp only [fv] at heq2
      have HEQ2 := hd heq2
      clear heq2
      go_wp2_with fail
      refine Calls.mono HDM.out ?_
      rintro e8 w8 ⟨rfl, hb8⟩
      have HI8 := hd (HIw.out.below hb8)
      have HB8 := hd (HB.out.trans (hb8.mono HB.out.size))
      have hz6 := HBG.out.lt
      have hz5 := HBF.out.lt
      have HF8 := hd (HBF.out.keep hb8)
      have HG8 := hd (HBG.out.keep hb8)
      have HX8 := hd (Blk.new w8 36 [.int .i64 k2, .int .u64 (rl2 : Int), .int .i64 rk2, .string rkey2, .string rval2, .int .u64 (pl2 : Int), .int .i64 pk2, .int .i64 pa2, .int .i64 pn2, .string pkey2, .int .i64 ec2, .int .i64 eb2, .int .i64 ef2, .int .u32 (es2 : Int)])
      have HR8 := hd (fun o => HRM.out _ (w8.alloc o) (HI8.out.below ((Below.refl _ w8).alloc (Nat.le_refl _) o)))
      clear hb8 HIw HB HBF HBG HDM HRM HF
      go_wp2_with fail
      refine Calls.mono (HR8.out _) ?_
      rintro e9 w9 ⟨rfl, hb9⟩
      have hb9' := below_alloc1 hb9
      have HB9 := hd (HB8.out.trans (hb9'.mono HB8.out.size))
      have HF9 := hd (HF8.out.keep hb9')
      have HG9 := hd (HG8.out.keep hb9')
      have HX9 := hd (HX8.out.keep hb9)
      have hz9 : w8.heap.size < w9.heap.size := by have := hb9.size; rw [World.size_alloc] at this; omega
      clear hb9 hb9' HB8 HF8 HG8 HX8 HR8 HI8
      have heqf := HEQ.out
      have heqg := HEQ2.out
      have l5 := HF9.out.lt
      have l6 := HG9.out.lt
      have n51 : ¬ w5.heap.size = w9.heap.size := by omega
      have n52 : ¬ w9.heap.size = w5.heap.size := by omega
      have n61 : ¬ w6.heap.size = w9.heap.size := by omega
      have n62 : ¬ w9.heap.size = w6.heap.size := by omega
      have n81 : ¬ w8.heap.size = w9.heap.size := by omega
      have n82 : ¬ w9.heap.size = w8.heap.size := by omega
      have c0 := HF9.out.cell 0 _ rfl
      have c1 := HF9.out.cell 1 _ rfl
      have c2 := HF9.out.cell 2 _ rfl
      have c3 := HF9.out.cell 3 _ rfl
      have c4 := HF9.out.cell 4 _ rfl
      have c5 := HF9.out.cell 5 _ rfl
      have c6 := HF9.out.cell 6 _ rfl
      have c7 := HF9.out.cell 7 _ rfl
      have c8 := HF9.out.cell 8 _ rfl
      have c9 := HF9.out.cell 9 _ rfl
      have c10 := HF9.out.cell 10 _ rfl
      have c11 := HF9.out.cell 11 _ rfl
      have c12 := HF9.out.cell 12 _ rfl
      have c13 := HF9.out.cell 13 _ rfl
      have d0 := HG9.out.cell 0 _ rfl
      have d1 := HG9.out.cell 1 _ rfl
      have d2 := HG9.out.cell 2 _ rfl
      have d3 := HG9.out.cell 3 _ rfl
      have d4 := HG9.out.cell 4 _ rfl
      have d5 := HG9.out.cell 5 _ rfl
      have d6 := HG9.out.cell 6 _ rfl
      have d7 := HG9.out.cell 7 _ rfl
      have d8 := HG9.out.cell 8 _ rfl
      have d9 := HG9.out.cell 9 _ rfl
      have d10 := HG9.out.cell 10 _ rfl
      have d11 := HG9.out.cell 11 _ rfl
      have d12 := HG9.out.cell 12 _ rfl
      have d13 := HG9.out.cell 13 _ rfl
      have x0 := HX9.out.cell 0 _ rfl
      have x1 := HX9.out.cell 1 _ rfl
      have x2 := HX9.out.cell 2 _ rfl
      have x3 := HX9.out.cell 3 _ rfl
      have x4 := HX9.out.cell 4 _ rfl
      have x5 := HX9.out.cell 5 _ rfl
      have x6 := HX9.out.cell 6 _ rfl
      have x7 := HX9.out.cell 7 _ rfl
      have x8 := HX9.out.cell 8 _ rfl
      have x9 := HX9.out.cell 9 _ rfl
      have x10 := HX9.out.cell 10 _ rfl
      have x11 := HX9.out.cell 11 _ rfl
      have x12 := HX9.out.cell 12 _ rfl
      have x13 := HX9.out.cell 13 _ rfl
      have hmx : Try.prog.follows .mixedOrders = true := by kernel_rfl
      go_wp2_with fail
      go_ret
      exact ⟨rfl, HB9.out.alloc HB9.out.size _⟩
end Vt
end Go.Proofs.Ytmcipkogkibkaaa
