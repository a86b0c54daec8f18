/-
  THE REFERENCE OF LAYER 4: salvorref4.Body of a Hint, of a Foot.
  THE WALK OF the law's own 'works': it answers true.
-/
import Derived.Test.YtnjhbidialngmaaXhar
import Derived.Test.YtnjhbidialngmaaXhas
import Derived.Test.YtnjhbidialngmaaXhad
import Derived.Test.YtnjhbidialngmaaXhag
namespace Go.Proofs.Ytnjhbidialngmaa
open Go.RowKit
namespace Vt
theorem bd_hintQ (pl k a n : Nat) (pkey : ByteArray) : bd (hfrQ ⟨pl, (k : Int), (a : Int), (n : Int), pkey⟩) = [3] ++ vrt pl ++ [k] ++ vrt a ++ vrt n ++ bl pkey := by
  unfold bd bp hfrQ
  rw [if_neg (show ¬ (3 : Int) = 1 by decide), if_neg (show ¬ (3 : Int) = 2 by decide), if_pos rfl]
  simp [vs]
theorem bd_footQ (c b f s : Nat) : bd (ffrQ ⟨(c : Int), (b : Int), (f : Int), s⟩) = [4] ++ vrt c ++ vrt b ++ vrt f ++ vrt s := by
  unfold bd bp ffrQ
  rw [if_neg (show ¬ (4 : Int) = 1 by decide), if_neg (show ¬ (4 : Int) = 2 by decide), if_neg (show ¬ (4 : Int) = 3 by decide)]
  simp [vs]
set_option maxRecDepth 100000 in
set_option maxHeartbeats 4000000 in
theorem r4_body_3 (pl k a n : Nat) (pkey : ByteArray) (w : World) (hl : pl < 18446744073709551616) (h : rf (hfrQ ⟨pl, (k : Int), (a : Int), (n : Int), pkey⟩) = 0) :
    Calls Try.prog 9 #[.agg (fv (hfrQ ⟨pl, (k : Int), (a : Int), (n : Int), pkey⟩))] w fun e w' => ∃ u, e = .returned (.tuple #[u, .int .i64 0]) ∧ JB w' w.heap.size u (bd (hfrQ ⟨pl, (k : Int), (a : Int), (n : Int), pkey⟩)) ∧ Below w.heap.size w w' := by
  have HC := hd (may_hint pl (k : Int) (a : Int) (n : Int) pkey)
  have hbd : (k = 1 ∨ k = 2) ∧ pkey.size ≤ 64 ∧ a ≤ 4194304 ∧ n ≤ 4194304 := by
    have h' := h
    rw [rf_hint] at h'
    simp only at h'
    by_cases c1 : (k : Int) ≠ 1 ∧ (k : Int) ≠ 2
    · rw [if_pos c1] at h'; omega
    · rw [if_neg c1] at h'
      by_cases c2 : pl = 0
      · rw [if_pos c2] at h'; omega
      · rw [if_neg c2] at h'
        by_cases c3 : ¬ (1 ≤ pkey.size ∧ pkey.size ≤ 64)
        · rw [if_pos c3] at h'; omega
        · rw [if_neg c3] at h'
          by_cases c4 : ¬ ((0 ≤ (a : Int) ∧ (a : Int) ≤ 4194304) ∧ 1 ≤ (n : Int) ∧ (n : Int) ≤ 4194304)
          · rw [if_pos c4] at h'; omega
          · omega
  obtain ⟨hk, hky, ha, hn⟩ := hbd
  have hk3 : k < 3 := by omega
  have HBD := hd (bd_hintQ pl k a n pkey)
  obtain ⟨R, hRR⟩ : ∃ R, R = bd (hfrQ ⟨pl, (k : Int), (a : Int), (n : Int), pkey⟩) := ⟨_, rfl⟩
  rw [← hRR] at HBD ⊢
  clear hRR hk
  rw [h] at HC
  clear h
  have ht1 := vrt_ten hl
  have ht2 := vrt_ten (n := a) (by omega)
  have ht3 := vrt_ten (n := n) (by omega)
  simp only [fv, hfrQ, zr, ze] at *
  go_enter Try.func9, Try.ntmps9
  go_wp2_with fail
  refine Calls.mono (HC.out _) ?_
  rintro e w1 ⟨rfl, hb⟩
  have HX : Hid (Blk w1 w.heap.size 34 [.int .i64 3, .int .u64 0, .int .i64 0, .string ByteArray.empty, .string ByteArray.empty, .int .u64 (pl : Int), .int .i64 (k : Int), .int .i64 (a : Int), .int .i64 (n : Int), .string pkey, .int .i64 0, .int .i64 0, .int .i64 0, .int .u32 0]) := (Blk.new w _ _).keep hb
  have HB := hd (below_alloc1 hb)
  have hs1 := hb.size
  rw [World.size_alloc] at hs1
  clear hb HC
  have c0 := HX.out.cell 0 _ rfl
  have c1 := HX.out.cell 1 _ rfl
  have c2 := HX.out.cell 2 _ rfl
  have c3 := HX.out.cell 3 _ rfl
  have c4 := HX.out.cell 4 _ rfl
  have c5 := HX.out.cell 5 _ rfl
  have c6 := HX.out.cell 6 _ rfl
  have c7 := HX.out.cell 7 _ rfl
  have c8 := HX.out.cell 8 _ rfl
  have c9 := HX.out.cell 9 _ rfl
  have c10 := HX.out.cell 10 _ rfl
  have c11 := HX.out.cell 11 _ rfl
  have c12 := HX.out.cell 12 _ rfl
  have c13 := HX.out.cell 13 _ rfl
  clear HX
  have n1 : w.heap.size < w1.heap.size := by omega
  have n2 : ¬ w.heap.size = w1.heap.size := by omega
  have n3 : ¬ w1.heap.size = w.heap.size := by omega
  have n4 : ¬ w.heap.size = w1.heap.size + 1 := by omega
  have n5 : ¬ w1.heap.size + 1 = w.heap.size := by omega
  have n6 : w.heap.size < w1.heap.size + 1 := by omega
  have n7 : ¬ w.heap.size = w1.heap.size + 1 + 1 := by omega
  have n8 : w.heap.size < w1.heap.size + 1 + 1 := by omega
  have n9 : ¬ w.heap.size = w1.heap.size + 1 + 1 + 1 := by omega
  have n10 : w.heap.size < w1.heap.size + 1 + 1 + 1 := by omega
  go_wp2_with fail
  obtain ⟨X, hX⟩ : ∃ X, X = (((w1.alloc (.cells #[.int .u8 3] 5)).alloc (.cells #[.int .u64 0, .int .i64 0, .string ByteArray.empty, .string ByteArray.empty] 25)).alloc (.cells #[.int .u64 (pl : Int), .int .i64 (k : Int), .int .i64 (a : Int), .int .i64 (n : Int), .string pkey] 27)).alloc (.cells #[.int .i64 0, .int .i64 0, .int .i64 0, .int .u32 0] 32) := ⟨_, rfl⟩
  have HXB : Hid (Below w.heap.size w X) := by
    rw [hX]
    exact (((HB.out.alloc (by omega) _).alloc (by simp; omega) _).alloc (by simp; omega) _).alloc (by simp; omega) _
  have HO : Hid (JB X w.heap.size (.slice (some ⟨w1.heap.size, 0, none⟩) 1 1) [3]) := by
    rw [hX]
    exact (((jb_lit w1 w.heap.size [3] _ 1 _ rfl rfl rfl (by intro x hx; simp at hx; omega) (by simp [maxLen]) (by omega)).alloc _).alloc _).alloc _
  have HR : Hid (Blk X (w1.heap.size + 1 + 1) 27 [.int .u64 (pl : Int), .int .i64 (k : Int), .int .i64 (a : Int), .int .i64 (n : Int), .string pkey]) := by
    rw [hX]
    have := Blk.new ((w1.alloc (.cells #[.int .u8 3] 5)).alloc (.cells #[.int .u64 0, .int .i64 0, .string ByteArray.empty, .string ByteArray.empty] 25)) 27 [.int .u64 (pl : Int), .int .i64 (k : Int), .int .i64 (a : Int), .int .i64 (n : Int), .string pkey]
    rw [World.size_alloc, World.size_alloc] at this
    exact this.alloc _
  rw [← hX]
  clear hX c0 c1 c2 c3 c4 c5 c6 c7 c8 c9 c10 c11 c12 c13
  have e0 : [3].length = 1 := rfl
  refine Calls.mono (r4_number pl X hl) ?_
  rintro e w2 ⟨u, rfl, hj, hb⟩
  have HI := hd hj.isB
  have HO2 := hd (HO.out.keepAll hb)
  have HR2 := hd (HR.out.keep hb)
  have HB2 : Hid (Below w.heap.size w w2) := HXB.out.trans (hb.mono HXB.out.size)
  clear hj hb HO HR HXB HB
  have hs2 := HB2.out.size
  have hlA : ([3] ++ vrt pl).length ≤ 11 := by simp; omega
  have HLB : Hid (([3] ++ vrt pl ++ [k]).length ≤ 12) := by show _ ≤ _; simp; omega
  have HLC : Hid (([3] ++ vrt pl ++ [k] ++ vrt a).length ≤ 22) := by show _ ≤ _; simp; omega
  have HLD : Hid (([3] ++ vrt pl ++ [k] ++ vrt a ++ vrt n).length ≤ 32) := by show _ ≤ _; simp; omega
  have HLA := hd hlA
  clear hlA e0
  obtain ⟨R1, hR1⟩ : ∃ R1, [3] ++ vrt pl = R1 := ⟨_, rfl⟩
  rw [hR1] at HLA HLB HLC HLD HBD
  have HR1 := hd hR1
  clear hR1
  obtain ⟨R2, hR2⟩ : ∃ R2, R1 ++ [k] = R2 := ⟨_, rfl⟩
  rw [hR2] at HLB HLC HLD HBD
  have HR2' := hd hR2
  clear hR2
  obtain ⟨R3, hR3⟩ : ∃ R3, R2 ++ vrt a = R3 := ⟨_, rfl⟩
  rw [hR3] at HLC HLD HBD
  have HR3' := hd hR3
  clear hR3
  obtain ⟨R4, hR4⟩ : ∃ R4, R3 ++ vrt n = R4 := ⟨_, rfl⟩
  rw [hR4] at HLD HBD
  have HR4' := hd hR4
  clear hR4
  go_wp2_with (first
    | (at_builtin; refine wpList_append_jb _ rfl _ _ rfl w.heap.size _ _ [3] (vrt pl) rfl rfl HO2.out HI.out (1 + (vrt pl).length) rfl R1 HR1.out (by omega) hs2 ?_; intro a3 c3 w3 hJ3 hg3 hc3; have HJ3 := hd hJ3; have HB3 := hd (HO2.out.grown HB2.out (Nat.le_refl _) hs2 hg3); have HR3 := hd (HR2.out.grown hg3 (HO2.out.ne_blk HR2.out (by decide))); clear hJ3 hg3; have d1 := HR3.out.cell 1 _ rfl; have hs3 := HB3.out.size)
    | (at_builtin; have HJA : JB (w3.alloc (.cells #[.int .u8 (k : Int)] 5)) w.heap.size (.slice a3 (1 + (vrt pl).length) c3) R1 := HJ3.out.alloc _; have HIA : IsB (w3.alloc (.cells #[.int .u8 (k : Int)] 5)) (.slice (some ⟨w3.heap.size, 0, none⟩) 1 1) [k] := lit_isK .u8 256 w3 _ 5 [k] 1 rfl (by simp) (by intro y hy; simp at hy; omega) (by simp [maxLen]); have HRA : Blk (w3.alloc (.cells #[.int .u8 (k : Int)] 5)) (w1.heap.size + 1 + 1) 27 [.int .u64 (pl : Int), .int .i64 (k : Int), .int .i64 (a : Int), .int .i64 (n : Int), .string pkey] := HR3.out.alloc _; have HBA : Below w.heap.size w (w3.alloc (.cells #[.int .u8 (k : Int)] 5)) := HB3.out.alloc hs3 _; have hsA : w.heap.size ≤ (w3.alloc (.cells #[.int .u8 (k : Int)] 5)).heap.size := HBA.size; refine wpList_append_jb _ rfl _ _ rfl w.heap.size _ _ R1 [k] rfl rfl HJA HIA (1 + (vrt pl).length + 1) (by have h9 : R1.length = 1 + (vrt pl).length := by { rw [← HR1.out]; simp; omega }; rw [h9]; rfl) R2 HR2'.out (by have := HLA.out; simp; omega) hsA ?_; intro a4 c4 w4 hJ4 hg4 hc4; have HJ4 := hd hJ4; have HB4 := hd (HJA.grown HBA (Nat.le_refl _) hsA hg4); have HR4 := hd (HRA.grown hg4 (HJA.ne_blk HRA (by decide))); clear hJ4 hg4 HJA HIA HRA HBA hsA; have e2 := HR4.out.cell 2 _ rfl; have hs4 := HB4.out.size))
  refine Calls.mono (r4_number a w4 (by omega)) ?_
  rintro e w5 ⟨u5, rfl, hj, hb⟩
  have HI5 := hd hj.isB
  have HJ5 := hd (HJ4.out.keepAll hb)
  have HR5 := hd (HR4.out.keep hb)
  have HB5 : Hid (Below w.heap.size w w5) := HB4.out.trans (hb.mono hs4)
  have hs5 := HB5.out.size
  have HL2 : Hid (R2.length = 1 + (vrt pl).length + 1) := by show _ = _; rw [← HR2'.out, ← HR1.out]; simp; omega
  have HL3 : Hid (R3.length = 1 + (vrt pl).length + 1 + (vrt a).length) := by show _ = _; rw [← HR3'.out, List.length_append, HL2.out]
  clear hj hb HJ4 HR4 HB4 HI HO2 HR2 HB2 HJ3 HB3 HR3
  go_wp2_with (at_builtin; refine wpList_append_jb _ rfl _ _ rfl w.heap.size _ _ R2 (vrt a) rfl rfl HJ5.out HI5.out (1 + (vrt pl).length + 1 + (vrt a).length) (by rw [HL2.out]) R3 HR3'.out (by omega) hs5 ?_; intro a6 c6 w6 hJ6 hg6 hc6; have HJ6 := hd hJ6; have HB6 := hd (HJ5.out.grown HB5.out (Nat.le_refl _) hs5 hg6); have HR6 := hd (HR5.out.grown hg6 (HJ5.out.ne_blk HR5.out (by decide))); clear hJ6 hg6; have d3 := HR6.out.cell 3 _ rfl; have hs6 := HB6.out.size)
  refine Calls.mono (r4_number n w6 (by omega)) ?_
  rintro e w7 ⟨u7, rfl, hj, hb⟩
  have HI7 := hd hj.isB
  have HJ7 := hd (HJ6.out.keepAll hb)
  have HR7 := hd (HR6.out.keep hb)
  have HB7 : Hid (Below w.heap.size w w7) := HB6.out.trans (hb.mono hs6)
  have hs7 := HB7.out.size
  clear hj hb HJ6 HR6 HB6 HI5 HJ5 HR5 HB5
  go_wp2_with (first
    | (at_builtin; refine wpList_append_jb _ rfl _ _ rfl w.heap.size _ _ R3 (vrt n) rfl rfl HJ7.out HI7.out (1 + (vrt pl).length + 1 + (vrt a).length + (vrt n).length) (by rw [HL3.out]) R4 HR4'.out (by omega) hs7 ?_; intro a8 c8 w8 hJ8 hg8 hc8; have HJ8 := hd hJ8; have HB8 := hd (HJ7.out.grown HB7.out (Nat.le_refl _) hs7 hg8); have HR8 := hd (HR7.out.grown hg8 (HJ7.out.ne_blk HR7.out (by decide))); clear hJ8 hg8; have d4 := HR8.out.cell 4 _ rfl; have hs8 := HB8.out.size)
    | (at_builtin; refine wpList_append_js _ rfl _ _ rfl w.heap.size _ pkey R4 rfl rfl HJ8.out R HBD.out.symm (by have := HLD.out; omega) hs8 ?_; intro v9 w9 hJ9 hg9; have HJ9 := hd hJ9; have HB9 := hd (HJ8.out.grown HB8.out (Nat.le_refl _) hs8 hg9); clear hJ9 hg9))
  go_ret2
  exact ⟨_, rfl, HJ9.out, HB9.out⟩
set_option maxRecDepth 100000 in
set_option maxHeartbeats 4000000 in
theorem r4_body_4 (c b f s : Nat) (w : World) (hs : s < 4294967296) (h : rf (ffrQ ⟨(c : Int), (b : Int), (f : Int), s⟩) = 0) :
    Calls Try.prog 9 #[.agg (fv (ffrQ ⟨(c : Int), (b : Int), (f : Int), s⟩))] w fun e w' => ∃ u, e = .returned (.tuple #[u, .int .i64 0]) ∧ JB w' w.heap.size u (bd (ffrQ ⟨(c : Int), (b : Int), (f : Int), s⟩)) ∧ Below w.heap.size w w' := by
  have HC := hd (may_foot (c : Int) (b : Int) (f : Int) s)
  have hbd : c ≤ 4194304 ∧ b ≤ 4194304 ∧ f ≤ 4194304 := by
    have h' := h
    rw [rf_foot] at h'
    simp only at h'
    by_cases c1 : (0 ≤ (c : Int) ∧ (c : Int) ≤ 4194304) ∧ (0 ≤ (b : Int) ∧ (b : Int) ≤ 4194304) ∧ (0 ≤ (f : Int) ∧ (f : Int) ≤ 4194304)
    · omega
    · rw [if_neg c1] at h'; omega
  obtain ⟨hc, hbb, hf⟩ := hbd
  have HBD := hd (bd_footQ c b f s)
  obtain ⟨R, hRR⟩ : ∃ R, R = bd (ffrQ ⟨(c : Int), (b : Int), (f : Int), s⟩) := ⟨_, rfl⟩
  rw [← hRR] at HBD ⊢
  clear hRR
  rw [h] at HC
  clear h
  have ht1 := vrt_ten (n := c) (by omega)
  have ht2 := vrt_ten (n := b) (by omega)
  have ht3 := vrt_ten (n := f) (by omega)
  have ht4 := vrt_ten (n := s) (by omega)
  simp only [fv, ffrQ, zr, zp] at *
  go_enter Try.func9, Try.ntmps9
  go_wp2_with fail
  refine Calls.mono (HC.out _) ?_
  rintro e w1 ⟨rfl, hb⟩
  have HX : Hid (Blk w1 w.heap.size 34 [.int .i64 4, .int .u64 0, .int .i64 0, .string ByteArray.empty, .string ByteArray.empty, .int .u64 0, .int .i64 0, .int .i64 0, .int .i64 0, .string ByteArray.empty, .int .i64 (c : Int), .int .i64 (b : Int), .int .i64 (f : Int), .int .u32 (s : Int)]) := (Blk.new w _ _).keep hb
  have HB := hd (below_alloc1 hb)
  have hs1 := hb.size
  rw [World.size_alloc] at hs1
  clear hb HC
  have c0 := HX.out.cell 0 _ rfl
  have c1 := HX.out.cell 1 _ rfl
  have c2 := HX.out.cell 2 _ rfl
  have c3 := HX.out.cell 3 _ rfl
  have c4 := HX.out.cell 4 _ rfl
  have c5 := HX.out.cell 5 _ rfl
  have c6 := HX.out.cell 6 _ rfl
  have c7 := HX.out.cell 7 _ rfl
  have c8 := HX.out.cell 8 _ rfl
  have c9 := HX.out.cell 9 _ rfl
  have c10 := HX.out.cell 10 _ rfl
  have c11 := HX.out.cell 11 _ rfl
  have c12 := HX.out.cell 12 _ rfl
  have c13 := HX.out.cell 13 _ rfl
  clear HX
  have n1 : w.heap.size < w1.heap.size := by omega
  have n2 : ¬ w.heap.size = w1.heap.size := by omega
  have n3 : ¬ w1.heap.size = w.heap.size := by omega
  have n4 : ¬ w.heap.size = w1.heap.size + 1 := by omega
  have n5 : ¬ w1.heap.size + 1 = w.heap.size := by omega
  have n6 : w.heap.size < w1.heap.size + 1 := by omega
  have n7 : ¬ w.heap.size = w1.heap.size + 1 + 1 := by omega
  have n8 : w.heap.size < w1.heap.size + 1 + 1 := by omega
  have n9 : ¬ w.heap.size = w1.heap.size + 1 + 1 + 1 := by omega
  have n10 : w.heap.size < w1.heap.size + 1 + 1 + 1 := by omega
  go_wp2_with fail
  obtain ⟨X, hX⟩ : ∃ X, X = (((w1.alloc (.cells #[.int .u8 4] 5)).alloc (.cells #[.int .u64 0, .int .i64 0, .string ByteArray.empty, .string ByteArray.empty] 25)).alloc (.cells #[.int .u64 0, .int .i64 0, .int .i64 0, .int .i64 0, .string ByteArray.empty] 27)).alloc (.cells #[.int .i64 (c : Int), .int .i64 (b : Int), .int .i64 (f : Int), .int .u32 (s : Int)] 32) := ⟨_, rfl⟩
  have HXB : Hid (Below w.heap.size w X) := by
    rw [hX]
    exact (((HB.out.alloc (by omega) _).alloc (by simp; omega) _).alloc (by simp; omega) _).alloc (by simp; omega) _
  have HO : Hid (JB X w.heap.size (.slice (some ⟨w1.heap.size, 0, none⟩) 1 1) [4]) := by
    rw [hX]
    exact (((jb_lit w1 w.heap.size [4] _ 1 _ rfl rfl rfl (by intro x hx; simp at hx; omega) (by simp [maxLen]) (by omega)).alloc _).alloc _).alloc _
  have HR : Hid (Blk X (w1.heap.size + 1 + 1 + 1) 32 [.int .i64 (c : Int), .int .i64 (b : Int), .int .i64 (f : Int), .int .u32 (s : Int)]) := by
    rw [hX]
    have := Blk.new (((w1.alloc (.cells #[.int .u8 4] 5)).alloc (.cells #[.int .u64 0, .int .i64 0, .string ByteArray.empty, .string ByteArray.empty] 25)).alloc (.cells #[.int .u64 0, .int .i64 0, .int .i64 0, .int .i64 0, .string ByteArray.empty] 27)) 32 [.int .i64 (c : Int), .int .i64 (b : Int), .int .i64 (f : Int), .int .u32 (s : Int)]
    rw [World.size_alloc, World.size_alloc, World.size_alloc] at this
    exact this
  rw [← hX]
  clear hX c0 c1 c2 c3 c4 c5 c6 c7 c8 c9 c10 c11 c12 c13
  refine Calls.mono (r4_number c X (by omega)) ?_
  rintro e w2 ⟨u, rfl, hj, hb⟩
  have HI := hd hj.isB
  have HO2 := hd (HO.out.keepAll hb)
  have HR2 := hd (HR.out.keep hb)
  have HB2 : Hid (Below w.heap.size w w2) := HXB.out.trans (hb.mono HXB.out.size)
  clear hj hb HO HR HXB HB
  have hs2 := HB2.out.size
  obtain ⟨R1, hR1⟩ : ∃ R1, [4] ++ vrt c = R1 := ⟨_, rfl⟩
  rw [hR1] at HBD
  have HL1 : Hid (R1.length = 1 + (vrt c).length) := by show _ = _; rw [← hR1]; simp; omega
  have HR1 := hd hR1
  clear hR1
  obtain ⟨R2, hR2⟩ : ∃ R2, R1 ++ vrt b = R2 := ⟨_, rfl⟩
  rw [hR2] at HBD
  have HL2 : Hid (R2.length = 1 + (vrt c).length + (vrt b).length) := by show _ = _; rw [← hR2, List.length_append, HL1.out]
  have HR2' := hd hR2
  clear hR2
  obtain ⟨R3, hR3⟩ : ∃ R3, R2 ++ vrt f = R3 := ⟨_, rfl⟩
  rw [hR3] at HBD
  have HL3 : Hid (R3.length = 1 + (vrt c).length + (vrt b).length + (vrt f).length) := by show _ = _; rw [← hR3, List.length_append, HL2.out]
  have HR3' := hd hR3
  clear hR3
  go_wp2_with (at_builtin; refine wpList_append_jb _ rfl _ _ rfl w.heap.size _ _ [4] (vrt c) rfl rfl HO2.out HI.out (1 + (vrt c).length) rfl R1 HR1.out (by omega) hs2 ?_; intro a3 c3 w3 hJ3 hg3 hc3; have HJ3 := hd hJ3; have HB3 := hd (HO2.out.grown HB2.out (Nat.le_refl _) hs2 hg3); have HR3 := hd (HR2.out.grown hg3 (HO2.out.ne_blk HR2.out (by decide))); clear hJ3 hg3; have d1 := HR3.out.cell 1 _ rfl; have hs3 := HB3.out.size)
  refine Calls.mono (r4_number b w3 (by omega)) ?_
  rintro e w5 ⟨u5, rfl, hj, hb⟩
  have HI5 := hd hj.isB
  have HJ5 := hd (HJ3.out.keepAll hb)
  have HR5 := hd (HR3.out.keep hb)
  have HB5 : Hid (Below w.heap.size w w5) := HB3.out.trans (hb.mono hs3)
  have hs5 := HB5.out.size
  clear hj hb HJ3 HR3 HB3 HI HO2 HR2 HB2
  go_wp2_with (at_builtin; refine wpList_append_jb _ rfl _ _ rfl w.heap.size _ _ R1 (vrt b) rfl rfl HJ5.out HI5.out (1 + (vrt c).length + (vrt b).length) (by rw [HL1.out]) R2 HR2'.out (by omega) hs5 ?_; intro a6 c6 w6 hJ6 hg6 hc6; have HJ6 := hd hJ6; have HB6 := hd (HJ5.out.grown HB5.out (Nat.le_refl _) hs5 hg6); have HR6 := hd (HR5.out.grown hg6 (HJ5.out.ne_blk HR5.out (by decide))); clear hJ6 hg6; have d2 := HR6.out.cell 2 _ rfl; have hs6 := HB6.out.size)
  refine Calls.mono (r4_number f w6 (by omega)) ?_
  rintro e w7 ⟨u7, rfl, hj, hb⟩
  have HI7 := hd hj.isB
  have HJ7 := hd (HJ6.out.keepAll hb)
  have HR7 := hd (HR6.out.keep hb)
  have HB7 : Hid (Below w.heap.size w w7) := HB6.out.trans (hb.mono hs6)
  have hs7 := HB7.out.size
  clear hj hb HJ6 HR6 HB6 HI5 HJ5 HR5 HB5
  go_wp2_with (at_builtin; refine wpList_append_jb _ rfl _ _ rfl w.heap.size _ _ R2 (vrt f) rfl rfl HJ7.out HI7.out (1 + (vrt c).length + (vrt b).length + (vrt f).length) (by rw [HL2.out]) R3 HR3'.out (by omega) hs7 ?_; intro a8 c8 w8 hJ8 hg8 hc8; have HJ8 := hd hJ8; have HB8 := hd (HJ7.out.grown HB7.out (Nat.le_refl _) hs7 hg8); have HR8 := hd (HR7.out.grown hg8 (HJ7.out.ne_blk HR7.out (by decide))); clear hJ8 hg8; have d3 := HR8.out.cell 3 _ rfl; have hs8 := HB8.out.size)
  refine Calls.mono (r4_number s w8 (by omega)) ?_
  rintro e w9 ⟨u9, rfl, hj, hb⟩
  have HI9 := hd hj.isB
  have HJ9 := hd (HJ8.out.keepAll hb)
  have HB9 : Hid (Below w.heap.size w w9) := HB8.out.trans (hb.mono hs8)
  have hs9 := HB9.out.size
  clear hj hb HJ8 HR8 HB8 HI7 HJ7 HR7 HB7
  go_wp2_with (at_builtin; refine wpList_append_jb _ rfl _ _ rfl w.heap.size _ _ R3 (vrt s) rfl rfl HJ9.out HI9.out (1 + (vrt c).length + (vrt b).length + (vrt f).length + (vrt s).length) (by rw [HL3.out]) R HBD.out.symm (by omega) hs9 ?_; intro a10 c10 w10 hJ10 hg10 hc10; have HJ10 := hd hJ10; have HB10 := hd (HJ9.out.grown HB9.out (Nat.le_refl _) hs9 hg10); clear hJ10 hg10)
  go_ret2
  exact ⟨_, rfl, HJ10.out, HB10.out⟩
end Vt
end Go.Proofs.Ytnjhbidialngmaa
namespace Go.Proofs.Ytnjhbidialngmaa
open Go.RowKit
namespace Vt
end Vt
end Go.Proofs.Ytnjhbidialngmaa
