/-
  THE REFERENCE OF LAYER 4: salvorref4.Body of a frame that may not be, of a Put, of a Delete.
-/
import Derived.Test.YticcmeicpkgfnaaQ3
import Derived.Test.YticcmeicpkgfnaaG3
import Derived.Lib.AppendStr
namespace Go.Proofs.Yticcmeicpkgfnaa
open Go.RowKit
namespace Vt
theorem JB.ne_blk {w : World} {base O : Nat} {v : Value} {l : List Nat} {T : TypeId} {cs : List Value} (h : JB w base v l) (hB : Blk w O T cs) (hT : T ≠ 5) : some O ≠ v.ownBlock := by
  obtain ⟨_, _, ⟨rfl, e⟩ | ⟨g', cap', cur, rfl, hbs, hh, hr⟩⟩ := h
  · intro q; cases q
  · intro q
    cases q
    unfold Blk at hB
    rw [hB] at hh
    injection hh with hh
    injection hh with _ h2
    exact hT h2
theorem str_bs (s : ByteArray) : Go.Lib.strCells s = bs (bl s) := by
  unfold Go.Lib.strCells bs bl
  rw [List.map_map]; rfl
/-- append of a string's bytes, for the walk -/
theorem wpList_append_js (w : World) {ops : Array Oper} {rest : List Oper} {o : Oper} {a : Act} {Q : Exit → Act → World → Prop} (hgd : o.guard = none) (s x : Operand)
    (ho : o.op = .call { callee := .builtin .append, args := #[s, x], argTypes := #[35, 9] })
    (base : Nat) (v : Value) (t : ByteArray) (l : List Nat) (hs : a.eval s = v) (hx : a.eval x = .string t) (hJ : JB w base v l) (R : List Nat) (hR : l ++ bl t = R) (hb : l.length + t.size ≤ 140737488355328) (hbase : base ≤ w.heap.size)
    (h : ∀ v' w', JB w' base v' R → w.grownBy w' v.ownBlock → wpList Try.prog ops Q rest (a.put o.dst v') w') : wpList Try.prog ops Q (o :: rest) a w := by
  subst hR
  obtain ⟨i0, hi, hz0, hz1, hz2⟩ := info_parts info_u8
  refine Go.Lib.wpList_append_own_string w hgd s x _ _ ho base 5 i0 Try.underlying35 Try.underlying9 hi hz0 hz1 hz2 v l.length (bs l) hs hJ.2 t hx (by unfold maxLen; omega) hb hbase ?_
  intro v' w' h1 h2 _
  refine h v' w' ⟨byt_app hJ.1 (bl_byt t), ?_⟩ h2
  rw [List.length_append, bl_len, ← bs_app, ← str_bs]
  exact h1
set_option maxRecDepth 100000 in
set_option maxHeartbeats 1000000 in
theorem r4_body_no (r : Rec) (w : World) (h : rf (ofR r) ≠ 0) : Calls Try.prog 24 #[.agg (fv (ofR r))] w fun e w' => e = .returned (.tuple #[.slice none 0 0, .int .i64 (rf (ofR r) : Int)]) ∧ Below w.heap.size w w' := by
  have HC := hd (r4_may r)
  have hne : (((rf (ofR r) : Nat) : Int) != 0) = true := by simp; omega
  generalize rf (ofR r) = code at *
  clear h
  obtain ⟨rl, rk, rkey, rval⟩ := r
  simp only [fv, ofR, zp, ze] at *
  go_enter Try.func24, Try.ntmps24
  go_wp2_with fail
  refine Calls.mono (HC.out _) ?_
  rintro e w1 ⟨rfl, hb⟩
  have HB := hd (below_alloc1 hb)
  clear hb
  go_wp2_with fail
  go_ret2
  exact ⟨rfl, HB.out⟩
set_option maxRecDepth 100000 in
set_option maxHeartbeats 2000000 in
theorem r4_body_1 (lsn : Nat) (key val : ByteArray) (w : World) (hl : lsn < 18446744073709551616) (h : rf (ofR ⟨lsn, 1, key, val⟩) = 0) :
    Calls Try.prog 24 #[.agg (fv (ofR ⟨lsn, 1, key, val⟩))] w fun e w' => ∃ u, e = .returned (.tuple #[u, .int .i64 0]) ∧ JB w' w.heap.size u (bd (ofR ⟨lsn, 1, key, val⟩)) ∧ Below w.heap.size w w' := by
  have HC := hd (r4_may ⟨lsn, 1, key, val⟩)
  have hk : key.size ≤ 64 ∧ val.size ≤ 2048 := by
    have h' := h
    unfold rf at h'
    rw [if_pos (.inl rfl)] at h'
    obtain ⟨_, _, q3, q4, _⟩ := rfR_ok h'
    exact ⟨q3.2, q4⟩
  have HBD : Hid (bd (ofR ⟨lsn, 1, key, val⟩) = [1] ++ vrt lsn ++ vrt key.size ++ bl key ++ bl val) := by
    show bd (ofR ⟨lsn, 1, key, val⟩) = _
    unfold bd bp ofR
    rw [if_pos rfl]
    simp [vs]
  obtain ⟨R, hRR⟩ : ∃ R, R = bd (ofR ⟨lsn, 1, key, val⟩) := ⟨_, rfl⟩
  rw [← hRR] at HBD ⊢
  clear hRR
  obtain ⟨hk1, hk2⟩ := hk
  rw [h] at HC
  clear h
  have ht1 := vrt_ten hl
  have ht2 := vrt_ten (n := key.size) (by omega)
  simp only [fv, ofR, zp, ze] at *
  go_enter Try.func24, Try.ntmps24
  go_wp2_with fail
  refine Calls.mono (HC.out _) ?_
  rintro e w1 ⟨rfl, hb⟩
  have HX : Hid (Blk w1 w.heap.size 34 [.int .i64 1, .int .u64 (lsn : Int), .int .i64 1, .string key, .string val, .int .u64 0, .int .i64 0, .int .i64 0, .int .i64 0, .string ByteArray.empty, .int .i64 0, .int .i64 0, .int .i64 0, .int .u32 0]) := (Blk.new w _ _).keep hb
  have HB := hd (below_alloc1 hb)
  have hs1 := hb.size
  rw [World.size_alloc] at hs1
  clear hb HC
  have c0 := HX.out.cell 0 _ rfl
  have c1 := HX.out.cell 1 _ rfl
  have c2 := HX.out.cell 2 _ rfl
  have c3 := HX.out.cell 3 _ rfl
  have c4 := HX.out.cell 4 _ rfl
  have c5 := HX.out.cell 5 _ rfl
  have c6 := HX.out.cell 6 _ rfl
  have c7 := HX.out.cell 7 _ rfl
  have c8 := HX.out.cell 8 _ rfl
  have c9 := HX.out.cell 9 _ rfl
  have c10 := HX.out.cell 10 _ rfl
  have c11 := HX.out.cell 11 _ rfl
  have c12 := HX.out.cell 12 _ rfl
  have c13 := HX.out.cell 13 _ rfl
  clear HX
  have n1 : w.heap.size < w1.heap.size := by omega
  have n2 : ¬ w.heap.size = w1.heap.size := by omega
  have n3 : ¬ w1.heap.size = w.heap.size := by omega
  have n4 : ¬ w.heap.size = w1.heap.size + 1 := by omega
  have n5 : ¬ w1.heap.size + 1 = w.heap.size := by omega
  have n6 : w.heap.size < w1.heap.size + 1 := by omega
  have n7 : ¬ w.heap.size = w1.heap.size + 1 + 1 := by omega
  have n8 : w.heap.size < w1.heap.size + 1 + 1 := by omega
  have n9 : ¬ w.heap.size = w1.heap.size + 1 + 1 + 1 := by omega
  have n10 : w.heap.size < w1.heap.size + 1 + 1 + 1 := by omega
  go_wp2_with fail
  obtain ⟨X, hX⟩ : ∃ X, X = (((w1.alloc (.cells #[.int .u8 1] 5)).alloc (.cells #[.int .u64 (lsn : Int), .int .i64 1, .string key, .string val] 25)).alloc (.cells #[.int .u64 0, .int .i64 0, .int .i64 0, .int .i64 0, .string ByteArray.empty] 27)).alloc (.cells #[.int .i64 0, .int .i64 0, .int .i64 0, .int .u32 0] 32) := ⟨_, rfl⟩
  have HXB : Hid (Below w.heap.size w X) := by
    rw [hX]
    exact (((HB.out.alloc (by omega) _).alloc (by simp; omega) _).alloc (by simp; omega) _).alloc (by simp; omega) _
  have HO : Hid (JB X w.heap.size (.slice (some ⟨w1.heap.size, 0, none⟩) 1 1) [1]) := by
    rw [hX]
    exact (((jb_lit w1 w.heap.size [1] _ 1 _ rfl rfl rfl (by intro x hx; simp at hx; omega) (by simp [maxLen]) (by omega)).alloc _).alloc _).alloc _
  have HR : Hid (Blk X (w1.heap.size + 1) 25 [.int .u64 (lsn : Int), .int .i64 1, .string key, .string val]) := by
    rw [hX]
    have := Blk.new (w1.alloc (.cells #[.int .u8 1] 5)) 25 [.int .u64 (lsn : Int), .int .i64 1, .string key, .string val]
    rw [World.size_alloc] at this
    exact (this.alloc _).alloc _
  rw [← hX]
  clear hX c0 c1 c2 c3 c4 c5 c6 c7 c8 c9 c10 c11 c12 c13
  refine Calls.mono (r4_number lsn X hl) ?_
  rintro e w2 ⟨u, rfl, hj, hb⟩
  have HI := hd hj.isB
  have HO2 := hd (HO.out.keepAll hb)
  have HR2 := hd (HR.out.keep hb)
  have HB2 : Hid (Below w.heap.size w w2) := HXB.out.trans (hb.mono HXB.out.size)
  clear hj hb HO HR HXB HB
  have hs2 := HB2.out.size
  go_wp2_with (at_builtin; refine wpList_append_jb _ rfl _ _ rfl w.heap.size _ _ [1] (vrt lsn) rfl rfl HO2.out HI.out (1 + (vrt lsn).length) rfl ([1] ++ vrt lsn) rfl (by omega) hs2 ?_; intro a3 c3 w3 hJ3 hg3 hc3; have HJ3 := hd hJ3; have HB3 := hd (HO2.out.grown HB2.out (Nat.le_refl _) hs2 hg3); have HR3 := hd (HR2.out.grown hg3 (HO2.out.ne_blk HR2.out (by decide))); clear hJ3 hg3; have d3 := HR3.out.cell 2 _ rfl)
  have hs3 := HB3.out.size
  clear HO2 HI HR2 HB2 hs2
  refine Calls.mono (r4_number key.size w3 (by omega)) ?_
  rintro e w4 ⟨u4, rfl, hj, hb⟩
  have HI := hd hj.isB
  have HJ4 := hd (HJ3.out.keepAll hb)
  have HR4 := hd (HR3.out.keep hb)
  have HB4 : Hid (Below w.heap.size w w4) := HB3.out.trans (hb.mono hs3)
  clear hj hb HJ3 HR3 HB3 d3
  have hs4 := HB4.out.size
  have HL4 : Hid (([1] ++ vrt lsn).length = 1 + (vrt lsn).length) := by show _ = _; simp; omega
  have hlen5 : ([1] ++ vrt lsn ++ vrt key.size).length ≤ 21 := by simp; omega
  have hlen6 : ([1] ++ vrt lsn ++ vrt key.size ++ bl key).length ≤ 85 := by rw [List.length_append, bl_len]; omega
  have HL5 := hd hlen5
  have HL6 := hd hlen6
  clear hlen5 hlen6
  obtain ⟨R1, hR1⟩ : ∃ R1, R1 = [1] ++ vrt lsn := ⟨_, rfl⟩
  rw [← hR1] at HJ4 HL4 HL5 HL6 HBD
  clear hR1
  go_wp2_with (first
    | (at_builtin; refine wpList_append_jb _ rfl _ _ rfl w.heap.size _ _ R1 (vrt key.size) rfl rfl HJ4.out HI.out (1 + (vrt lsn).length + (vrt key.size).length) (by rw [HL4.out]) (R1 ++ vrt key.size) rfl (by omega) hs4 ?_; intro a5 c5 w5 hJ5 hg5 hc5; have HJ5 := hd hJ5; have HB5 := hd (HJ4.out.grown HB4.out (Nat.le_refl _) hs4 hg5); have HR5 := hd (HR4.out.grown hg5 (HJ4.out.ne_blk HR4.out (by decide))); clear hJ5 hg5; have d5 := HR5.out.cell 2 _ rfl; have hs5 := HB5.out.size)
    | (at_builtin; refine wpList_append_js _ rfl _ _ rfl w.heap.size _ key (R1 ++ vrt key.size) rfl rfl HJ5.out _ rfl (by have := HL5.out; omega) hs5 ?_; intro v6 w6 hJ6 hg6; have HJ6 := hd hJ6; have HB6 := hd (HJ5.out.grown HB5.out (Nat.le_refl _) hs5 hg6); have HR6 := hd (HR5.out.grown hg6 (HJ5.out.ne_blk HR5.out (by decide))); clear hJ6 hg6; have d6 := HR6.out.cell 3 _ rfl; have hs6 := HB6.out.size)
    | (at_builtin; refine wpList_append_js _ rfl _ _ rfl w.heap.size _ val (R1 ++ vrt key.size ++ bl key) rfl rfl HJ6.out _ rfl (by have := HL6.out; omega) hs6 ?_; intro v7 w7 hJ7 hg7; have HJ7 := hd hJ7; have HB7 := hd (HJ6.out.grown HB6.out (Nat.le_refl _) hs6 hg7); clear hJ7 hg7))
  rw [← HBD.out] at HJ7
  go_ret2
  exact ⟨_, rfl, HJ7.out, HB7.out⟩
set_option maxRecDepth 100000 in
set_option maxHeartbeats 2000000 in
theorem r4_body_2 (lsn : Nat) (key val : ByteArray) (w : World) (hl : lsn < 18446744073709551616) (h : rf (ofR ⟨lsn, 2, key, val⟩) = 0) :
    Calls Try.prog 24 #[.agg (fv (ofR ⟨lsn, 2, key, val⟩))] w fun e w' => ∃ u, e = .returned (.tuple #[u, .int .i64 0]) ∧ JB w' w.heap.size u (bd (ofR ⟨lsn, 2, key, val⟩)) ∧ Below w.heap.size w w' := by
  have HC := hd (r4_may ⟨lsn, 2, key, val⟩)
  have hk : key.size ≤ 64 ∧ True := by
    have h' := h
    unfold rf at h'
    rw [if_pos (.inr rfl)] at h'
    obtain ⟨_, _, q3, q4, _⟩ := rfR_ok h'
    exact ⟨q3.2, trivial⟩
  have HBD : Hid (bd (ofR ⟨lsn, 2, key, val⟩) = [2] ++ vrt lsn ++ bl key) := by
    show bd (ofR ⟨lsn, 2, key, val⟩) = _
    unfold bd bp ofR
    rw [if_neg (by show ¬ (2 : Int) = 1; omega), if_pos rfl]
    simp [vs]
  obtain ⟨R, hRR⟩ : ∃ R, R = bd (ofR ⟨lsn, 2, key, val⟩) := ⟨_, rfl⟩
  rw [← hRR] at HBD ⊢
  clear hRR
  obtain ⟨hk1, hk2⟩ := hk
  rw [h] at HC
  clear h
  have ht1 := vrt_ten hl
  have ht2 := vrt_ten (n := key.size) (by omega)
  simp only [fv, ofR, zp, ze] at *
  go_enter Try.func24, Try.ntmps24
  go_wp2_with fail
  refine Calls.mono (HC.out _) ?_
  rintro e w1 ⟨rfl, hb⟩
  have HX : Hid (Blk w1 w.heap.size 34 [.int .i64 2, .int .u64 (lsn : Int), .int .i64 2, .string key, .string val, .int .u64 0, .int .i64 0, .int .i64 0, .int .i64 0, .string ByteArray.empty, .int .i64 0, .int .i64 0, .int .i64 0, .int .u32 0]) := (Blk.new w _ _).keep hb
  have HB := hd (below_alloc1 hb)
  have hs1 := hb.size
  rw [World.size_alloc] at hs1
  clear hb HC
  have c0 := HX.out.cell 0 _ rfl
  have c1 := HX.out.cell 1 _ rfl
  have c2 := HX.out.cell 2 _ rfl
  have c3 := HX.out.cell 3 _ rfl
  have c4 := HX.out.cell 4 _ rfl
  have c5 := HX.out.cell 5 _ rfl
  have c6 := HX.out.cell 6 _ rfl
  have c7 := HX.out.cell 7 _ rfl
  have c8 := HX.out.cell 8 _ rfl
  have c9 := HX.out.cell 9 _ rfl
  have c10 := HX.out.cell 10 _ rfl
  have c11 := HX.out.cell 11 _ rfl
  have c12 := HX.out.cell 12 _ rfl
  have c13 := HX.out.cell 13 _ rfl
  clear HX
  have n1 : w.heap.size < w1.heap.size := by omega
  have n2 : ¬ w.heap.size = w1.heap.size := by omega
  have n3 : ¬ w1.heap.size = w.heap.size := by omega
  have n4 : ¬ w.heap.size = w1.heap.size + 1 := by omega
  have n5 : ¬ w1.heap.size + 1 = w.heap.size := by omega
  have n6 : w.heap.size < w1.heap.size + 1 := by omega
  have n7 : ¬ w.heap.size = w1.heap.size + 1 + 1 := by omega
  have n8 : w.heap.size < w1.heap.size + 1 + 1 := by omega
  have n9 : ¬ w.heap.size = w1.heap.size + 1 + 1 + 1 := by omega
  have n10 : w.heap.size < w1.heap.size + 1 + 1 + 1 := by omega
  go_wp2_with fail
  obtain ⟨X, hX⟩ : ∃ X, X = (((w1.alloc (.cells #[.int .u8 2] 5)).alloc (.cells #[.int .u64 (lsn : Int), .int .i64 2, .string key, .string val] 25)).alloc (.cells #[.int .u64 0, .int .i64 0, .int .i64 0, .int .i64 0, .string ByteArray.empty] 27)).alloc (.cells #[.int .i64 0, .int .i64 0, .int .i64 0, .int .u32 0] 32) := ⟨_, rfl⟩
  have HXB : Hid (Below w.heap.size w X) := by
    rw [hX]
    exact (((HB.out.alloc (by omega) _).alloc (by simp; omega) _).alloc (by simp; omega) _).alloc (by simp; omega) _
  have HO : Hid (JB X w.heap.size (.slice (some ⟨w1.heap.size, 0, none⟩) 1 1) [2]) := by
    rw [hX]
    exact (((jb_lit w1 w.heap.size [2] _ 1 _ rfl rfl rfl (by intro x hx; simp at hx; omega) (by simp [maxLen]) (by omega)).alloc _).alloc _).alloc _
  have HR : Hid (Blk X (w1.heap.size + 1) 25 [.int .u64 (lsn : Int), .int .i64 2, .string key, .string val]) := by
    rw [hX]
    have := Blk.new (w1.alloc (.cells #[.int .u8 2] 5)) 25 [.int .u64 (lsn : Int), .int .i64 2, .string key, .string val]
    rw [World.size_alloc] at this
    exact (this.alloc _).alloc _
  rw [← hX]
  clear hX c0 c1 c2 c3 c4 c5 c6 c7 c8 c9 c10 c11 c12 c13
  refine Calls.mono (r4_number lsn X hl) ?_
  rintro e w2 ⟨u, rfl, hj, hb⟩
  have HI := hd hj.isB
  have HO2 := hd (HO.out.keepAll hb)
  have HR2 := hd (HR.out.keep hb)
  have HB2 : Hid (Below w.heap.size w w2) := HXB.out.trans (hb.mono HXB.out.size)
  clear hj hb HO HR HXB HB
  have hs2 := HB2.out.size
  have hlen3 : ([2] ++ vrt lsn).length ≤ 11 := by simp; omega
  have HL3 := hd hlen3
  clear hlen3
  obtain ⟨R1, hR1⟩ : ∃ R1, [2] ++ vrt lsn = R1 := ⟨_, rfl⟩
  rw [hR1] at HL3 HBD
  have HR1 := hd hR1
  clear hR1
  go_wp2_with (first
    | (at_builtin; refine wpList_append_jb _ rfl _ _ rfl w.heap.size _ _ [2] (vrt lsn) rfl rfl HO2.out HI.out (1 + (vrt lsn).length) rfl R1 HR1.out (by omega) hs2 ?_; intro a3 c3 w3 hJ3 hg3 hc3; have HJ3 := hd hJ3; have HB3 := hd (HO2.out.grown HB2.out (Nat.le_refl _) hs2 hg3); have HR3 := hd (HR2.out.grown hg3 (HO2.out.ne_blk HR2.out (by decide))); clear hJ3 hg3; have d3 := HR3.out.cell 2 _ rfl; have hs3 := HB3.out.size)
    | (at_builtin; refine wpList_append_js _ rfl _ _ rfl w.heap.size _ key R1 rfl rfl HJ3.out _ rfl (by have := HL3.out; omega) hs3 ?_; intro v7 w7 hJ7 hg7; have HJ7 := hd hJ7; have HB7 := hd (HJ3.out.grown HB3.out (Nat.le_refl _) hs3 hg7); clear hJ7 hg7))
  rw [← HBD.out] at HJ7
  go_ret2
  exact ⟨_, rfl, HJ7.out, HB7.out⟩
end Vt
end Go.Proofs.Yticcmeicpkgfnaa
