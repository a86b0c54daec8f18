/-
  PROVED: for every raw record, number, text behind, place and pattern the Go law TopFrames answers true and changes nothing that came in: what was written is read, whatever stands about it; a run of bits turned in its body: a frame no more. No condition.
-/
import Derived.Test.YtbcibgjphjlffaaRw
import Derived.Test.YtbcibgjphjlffaaM3
import Derived.Test.YtbcibgjphjlffaaSc1
import Derived.JoinedCond
namespace Go.Proofs.Ytbcibgjphjlffaa
open Go.ChangeShapes Go.WideShapes Go.ChangeAt Go.RowKit Go.Shelf
namespace Vt
theorem bd_three {r : Rec} (h : rf (ofR r) = 0) : 3 ≤ (bd (ofR r)).length := by
  have hk : (ofR r).kind = 1 ∨ (ofR r).kind = 2 := by
    refine Classical.byContradiction fun hn => ?_
    unfold rf at h
    rw [if_neg hn] at h
    have h3 : (ofR r).kind = r.kind := rfl
    by_cases h4 : (ofR r).kind = 3
    · rw [if_pos h4] at h
      obtain ⟨_, _, _, _, _, _, e⟩ := rfP_ok h
      have e1 := congrArg (fun f => f.r.kind) e
      have e2 : (ofR r).r.kind = (ofR r).kind := rfl
      rw [e2, h4] at e1
      cases e1
    · rw [if_neg h4] at h
      by_cases h5 : (ofR r).kind = 4
      · rw [if_pos h5] at h
        obtain ⟨_, _, _, e⟩ := rfE_ok h
        have e1 := congrArg (fun f => f.r.kind) e
        have e2 : (ofR r).r.kind = (ofR r).kind := rfl
        rw [e2, h5] at e1
        cases e1
      · rw [if_neg h5] at h; cases h
  have hr : rfR (ofR r) = 0 := by unfold rf at h; rwa [if_pos hk] at h
  obtain ⟨_, _, hkey, _, _⟩ := rfR_ok hr
  have h1 := vrt_len (ofR r).r.lsn
  have hkl : 1 ≤ (bl (ofR r).r.key).length := by rw [bl_len]; exact hkey.1
  unfold bd bp
  rcases hk with hk | hk
  · rw [if_pos hk]
    simp only [List.flatten_cons, List.flatten_nil, List.length_append, List.length_cons, List.length_nil, vs, List.map_cons, List.map_nil]
    omega
  · rw [if_neg (by rw [hk]; decide), if_pos hk]
    simp only [List.flatten_cons, List.flatten_nil, List.length_append, List.length_cons, List.length_nil, vs, List.map_cons, List.map_nil]
    omega
theorem tpand (p j : Nat) (hp : p < 4294967296) : bits .and .u32 ((p : Int) / 2 ^ j) 1 = ((p / 2 ^ j % 2 : Nat) : Int) := by
  have h1 : ((p : Int) / 2 ^ j) = ((p / 2 ^ j : Nat) : Int) := by
    have : ((2 ^ j : Nat) : Int) = (2 : Int) ^ j := by simp
    rw [← this]; rfl
  have h2 := u32_and_nat (p / 2 ^ j) 1 (Nat.lt_of_le_of_lt (Nat.div_le_self _ _) hp) (by decide)
  rw [h1]
  rw [show ((1 : Nat) : Int) = 1 from rfl] at h2
  rw [h2, Nat.and_one_is_mod]
theorem txor8 {x r : Nat} (hx : x < 256) (hr : r < 8) : bits .xor .u8 (x : Int) (2 ^ r % 256) = ((x ^^^ 2 ^ r : Nat) : Int) := by
  have h2 : 2 ^ r < 2 ^ 8 := Nat.pow_lt_pow_right (by decide) hr
  have e : (2 : Int) ^ r % 256 = ((2 ^ r : Nat) : Int) := by
    have : ((2 ^ r : Nat) : Int) = (2 : Int) ^ r := by simp
    rw [← this]
    generalize 2 ^ r = y at h2
    omega
  rw [e, u8_xor_nat x (2 ^ r) hx h2]
theorem tdval_err {l : List Nat} (h : (decF l 0).2.2 ≠ 0) : ∃ er : Nat, er ≠ 0 ∧ dval (decF l 0) = .tuple #[.agg #[.int .i64 0, .int .u64 0, .int .i64 0, .string ⟨#[]⟩, .string ⟨#[]⟩, .int .u64 0, .int .i64 0, .int .i64 0, .int .i64 0, .string ⟨#[]⟩, .int .i64 0, .int .i64 0, .int .i64 0, .int .u32 0], .int .i64 0, .int .i64 (er : Int)] := by
  obtain ⟨h1, h2⟩ := decF_err h
  obtain ⟨f, n, er, hq⟩ : ∃ f n e, decF l 0 = (f, n, e) := ⟨_, _, _, rfl⟩
  rw [hq] at h1 h2 h ⊢
  simp only at h1 h2 h
  subst h1 h2
  exact ⟨er, h, rfl⟩
theorem txor_ne {q j : Nat} (h : q < 2 ^ j) : q ^^^ 2 ^ j ≠ 0 := by
  intro e
  have h1 := congrArg (fun x => x.testBit j) e
  simp only [Nat.testBit_xor, Nat.zero_testBit, Nat.testBit_lt_two_pow h, Nat.testBit_two_pow_self] at h1
  cases h1
set_option maxRecDepth 100000 in
set_option maxHeartbeats 16000000 in
theorem topF0 (k y v m : Int) (n : Nat) (u : Value) (bh : List Nat) (z : Int) (p : Nat) (w : World) (hk : (Lit.int .i64 k).wf = true) (hy : (Lit.int .i64 y).wf = true) (hv : (Lit.int .i64 v).wf = true) (hn : n < 18446744073709551616) (hI : IsB w u bh) (hz : (Lit.int .i64 z).wf = true) (hp : p < 4294967296) (hm : bh.length ≤ 140737488351232) (hn0 : n = 0) :
    Calls Try.prog 14 #[.agg #[.int .i64 k, .int .i64 y, .int .i64 v, .int .i64 m], .int .u64 (n : Int), u, .int .i64 z, .int .u32 (p : Int)] w fun e w' => e = .returned (.bool true) ∧ Below w.heap.size w w' := by
  obtain ⟨ua, uc, rfl⟩ := hI.shape
  have HI := hd hI
  have HBY := hd hI.1
  clear hI
  obtain ⟨N, hN0, hNl, HST⟩ : ∃ N : Nat, N ≠ 0 ∧ N < 18446744073709551616 ∧ (n = 0 ∧ N = 1 ∨ n ≠ 0 ∧ N = n) := by
    by_cases h : n = 0
    · exact ⟨1, by omega, by omega, .inl ⟨h, rfl⟩⟩
    · exact ⟨n, h, hn, .inr ⟨h, rfl⟩⟩
  have HREC : Hid (∀ x : World, Calls Try.prog 52 #[.agg #[.int .i64 k, .int .i64 y, .int .i64 v, .int .i64 m], .int .u64 (N : Int)] x fun e w' => ∃ r : Rec, ((ofR r).Wf ∧ rf (ofR r) = 0 ∧ (bd (ofR r)).length ≤ 700) ∧ e = .returned (.agg #[.int .u64 (r.lsn : Int), .int .i64 r.kind, .string r.key, .string r.val]) ∧ Below x.heap.size x w') := fun x => Calls.mono (recordOf_is k y v m N x hk hy hv hN0 hNl) (by
    rintro e w' ⟨r, ⟨h1, h2, h3, h4⟩, rfl, hb⟩
    exact ⟨r, ⟨h2, h3, h4⟩, by rw [h1], hb⟩)
  have HARG : Hid (n = 0 ∧ N = 1 ∨ n ≠ 0 ∧ N = n) := HST
  have HRC : Hid (∀ a : Int, a = (N : Int) → ∀ x : World, Calls Try.prog 52 #[.agg #[.int .i64 k, .int .i64 y, .int .i64 v, .int .i64 m], .int .u64 a] x fun e w' => ∃ r : Rec, ((ofR r).Wf ∧ rf (ofR r) = 0 ∧ (bd (ofR r)).length ≤ 700) ∧ e = .returned (.agg #[.int .u64 (r.lsn : Int), .int .i64 r.kind, .string r.key, .string r.val]) ∧ Below x.heap.size x w') := fun a ha x => by rw [ha]; exact HREC.out x
  clear HREC HST
  subst hn0
  have hN1 : (1 : Int) = (N : Int) := by rcases HARG.out with ⟨_, h⟩ | ⟨h, _⟩ <;> omega
  have HN1 := hd hN1
  clear hN1
  go_enter Try.func14, Try.ntmps14
  go_wp2_with fail
  refine Calls.mono (HRC.out 1 HN1.out _) ?_
  rintro e w1 ⟨r, ⟨hrw, hrf, hbl⟩, rfl, b1⟩
  have hb3 := bd_three hrf
  have hE1 := en_len (ofR r)
  have hE2 := wr_len (bd (ofR r))
  have HDA := hd (fun q : List Nat => dcd_en hrw hrf q)
  have HBE := hd (en_bytR hrf)
  have HFC := hd (fun x : World => framed_is r x hrw hrf)
  have HNO := hd (fun j (h1 : 1 ≤ j) (h2 : j < (en (ofR r)).length) => en_no (f := ofR r) h1 h2)
  have hs1 := b1.size
  simp only [World.size_alloc] at hs1
  have HB1 : Hid (Below w.heap.size w w1) := ((Below.refl _ w).alloc (Nat.le_refl _) _).trans (b1.mono (by simp))
  have HEQ := hd (en_eq (ofR r))
  have hlE : 12 ≤ (en (ofR r)).length ∧ (en (ofR r)).length ≤ 1409 := by omega
  obtain ⟨WB, hWB⟩ : ∃ WB, WB = wr (bd (ofR r)) := ⟨_, rfl⟩
  have hWBl : (en (ofR r)).length = WB.length + 9 := by rw [hWB]; exact hE1
  have HWB := hd hWB
  clear hE1 hE2 hbl hb3 b1 HRC hWB
  obtain ⟨X, hX⟩ : ∃ X, X = w1.heap.size := ⟨_, rfl⟩
  obtain ⟨W1, hW1⟩ : ∃ W1, W1 = w1.alloc (.cells #[.int .u64 (r.lsn : Int), .int .i64 r.kind, .string r.key, .string r.val] 27) := ⟨_, rfl⟩
  have hsW1 : W1.heap.size = X + 1 := by rw [hW1, hX]; simp
  have BX1 : Hid (Blk W1 X 27 [.int .u64 (r.lsn : Int), .int .i64 r.kind, .string r.key, .string r.val]) := by rw [hW1, hX]; exact Blk.new w1 _ _
  have HBW1 : Hid (Below w.heap.size w W1) := by rw [hW1]; exact HB1.out.alloc (by omega) _
  have HI1 := hd (HI.out.below HBW1.out)
  obtain ⟨EN, hEN⟩ : ∃ EN, EN = en (ofR r) := ⟨_, rfl⟩
  rw [← hEN] at HDA HBE HNO HEQ hlE hWBl
  simp only [← hEN] at HFC
  have HENE := hd hEN
  have HWBL := hd hWBl
  clear hWBl
  have hXw : w.heap.size ≤ X := by rw [hX]; omega
  clear hEN
  go_wp2_with fail
  rw [← hW1, ← hX]
  clear hW1 hX HB1
  refine Calls.mono (HFC.out W1) ?_
  rintro e w2 ⟨u2, rfl, j2, b2⟩
  obtain ⟨g, c2, hu2, hgb, hgl⟩ := j2.2.form (by omega)
  subst hu2
  have hbf := j2.buf
  have hcc : EN.length ≤ c2 := hbf.1
  have hcm : c2 ≤ maxLen := hbf.2.1
  unfold maxLen at hcm
  have r0 := hbf.cell (j := 0) (by omega)
  have hh0 : EN.getD 0 0 = 167 := by rw [HENE.out]; exact en_head _
  rw [hh0] at r0
  have J2 := hd j2
  have BX2 := hd (BX1.out.keep b2)
  have HI2 := hd (HI1.out.below b2)
  have HB2 := hd (HBW1.out.trans (b2.mono HBW1.out.size))
  have hs2 := b2.size
  clear b2 j2 hbf hh0 BX1 HI1 HBW1 HFC
  have q0 : decide ((EN.length : Int) < 12) = false := by rw [decide_eq_false_iff_not]; omega
  have IE2 := hd J2.out.isB
  go_wp2_with fail
  refine Calls.mono (joined_is _ _ EN bh w2 IE2.out HI2.out (by omega)) ?_
  rintro e w3 ⟨u3, rfl, j3, b3⟩
  obtain ⟨a3, c3, hu3, _⟩ := JK.shape (k := .u8) (M := 256) (E := 5) j3
  rw [List.length_append] at hu3
  subst hu3
  have hd1 : decF (EN ++ bh) 0 = (ofR r, EN.length, 0) := by
    unfold decF
    rw [if_neg (by rw [List.length_append]; omega)]
    exact HDA.out bh
  have HD1 := hd (decode_all _ (EN ++ bh) 0 w3 j3.isB)
  rw [hd1] at HD1
  have hdv : dval (ofR r, EN.length, 0) = .tuple #[.agg #[.int .i64 r.kind, .int .u64 (r.lsn : Int), .int .i64 r.kind, .string r.key, .string r.val, .int .u64 0, .int .i64 0, .int .i64 0, .int .i64 0, .string ⟨#[]⟩, .int .i64 0, .int .i64 0, .int .i64 0, .int .u32 0], .int .i64 (EN.length : Int), .int .i64 0] := rfl
  rw [hdv] at HD1
  have HDV := hd hdv
  have BX3 := hd (BX2.out.keep b3)
  have J3 := hd (JK.keepAll (k := .u8) (M := 256) (E := 5) J2.out b3)
  have HI3 := hd (HI2.out.below b3)
  have HB3 := hd (HB2.out.trans (b3.mono HB2.out.size))
  have hs3 := b3.size
  clear hd1 hdv b3 j3 BX2 J2 HI2 HB2 IE2 r0
  go_wp2_with fail
  refine Calls.mono HD1.out ?_
  rintro e w4 ⟨rfl, b4⟩
  have BX4 := hd (BX3.out.keep b4)
  have J4 := hd (JK.keepAll (k := .u8) (M := 256) (E := 5) J3.out b4)
  have HI4 := hd (HI3.out.below b4)
  have HB4 := hd (HB3.out.trans (b4.mono HB3.out.size))
  have hs4 := b4.size
  clear b4 BX3 J3 HI3 HB3 HD1
  obtain ⟨Y1, hY1⟩ : ∃ Y1, Y1 = w4.heap.size := ⟨_, rfl⟩
  obtain ⟨W4, hW4⟩ : ∃ W4, W4 = w4.alloc (.cells #[.int .i64 r.kind, .int .u64 (r.lsn : Int), .int .i64 r.kind, .string r.key, .string r.val, .int .u64 0, .int .i64 0, .int .i64 0, .int .i64 0, .string ⟨#[]⟩, .int .i64 0, .int .i64 0, .int .i64 0, .int .u32 0] 36) := ⟨_, rfl⟩
  have hsW4 : W4.heap.size = Y1 + 1 := by rw [hW4, hY1]; simp
  have BF4 : Hid (Blk W4 Y1 36 [.int .i64 r.kind, .int .u64 (r.lsn : Int), .int .i64 r.kind, .string r.key, .string r.val, .int .u64 0, .int .i64 0, .int .i64 0, .int .i64 0, .string ⟨#[]⟩, .int .i64 0, .int .i64 0, .int .i64 0, .int .u32 0]) := by rw [hW4, hY1]; exact Blk.new w4 _ _
  have hbW4 : Below w4.heap.size w4 W4 := by rw [hW4]; exact (Below.refl _ _).alloc (Nat.le_refl _) _
  have BX5 := hd (BX4.out.keep hbW4)
  have J5 := hd (JK.keepAll (k := .u8) (M := 256) (E := 5) J4.out hbW4)
  have HI5 := hd (HI4.out.below hbW4)
  have HB5 := hd (HB4.out.trans (hbW4.mono HB4.out.size))
  have IE5 := hd (JK.isK (k := .u8) (M := 256) (E := 5) J5.out)
  have hs5 := hbW4.size
  clear hbW4 BX4 J4 HI4 HB4
  go_wp2_with fail
  rw [← hW4, ← hY1]
  clear hW4 hY1
  refine Calls.mono (joined_is _ _ bh EN W4 HI5.out IE5.out (by omega)) ?_
  rintro e w6 ⟨u6, rfl, j6, b6⟩
  obtain ⟨a6, c6, hu6, _⟩ := JK.shape (k := .u8) (M := 256) (E := 5) j6
  rw [List.length_append] at hu6
  subst hu6
  have hd2 : decF (bh ++ EN) (bh.length : Int) = (ofR r, EN.length, 0) := by
    unfold decF
    rw [if_neg (by rw [List.length_append]; omega), Int.toNat_natCast, List.drop_left' rfl]
    have := HDA.out []
    rwa [List.append_nil] at this
  have HD2 := hd (decode_all _ (bh ++ EN) (bh.length : Int) w6 j6.isB)
  rw [hd2, HDV.out] at HD2
  have BX6 := hd (BX5.out.keep b6)
  have BF6 := hd (BF4.out.keep b6)
  have J6 := hd (JK.keepAll (k := .u8) (M := 256) (E := 5) J5.out b6)
  have HB6 := hd (HB5.out.trans (b6.mono HB5.out.size))
  have hs6 := b6.size
  clear hd2 b6 j6 BX5 J5 HI5 HB5 IE5 BF4
  go_wp2_with fail
  refine Calls.mono HD2.out ?_
  rintro e w7 ⟨rfl, b7⟩
  have BX7 := hd (BX6.out.keep b7)
  have BF7 := hd (BF6.out.keep b7)
  have J7 := hd (JK.keepAll (k := .u8) (M := 256) (E := 5) J6.out b7)
  have HB7 := hd (HB6.out.trans (b7.mono HB6.out.size))
  have hs7 := b7.size
  clear b7 BX6 BF6 J6 HB6 HD2
  have f0 := BF7.out.cell 0 _ rfl
  have f1 := BF7.out.cell 1 _ rfl
  have f2 := BF7.out.cell 2 _ rfl
  have f3 := BF7.out.cell 3 _ rfl
  have f4 := BF7.out.cell 4 _ rfl
  have f5 := BF7.out.cell 5 _ rfl
  have f6 := BF7.out.cell 6 _ rfl
  have f7 := BF7.out.cell 7 _ rfl
  have f8 := BF7.out.cell 8 _ rfl
  have f9 := BF7.out.cell 9 _ rfl
  have f10 := BF7.out.cell 10 _ rfl
  have f11 := BF7.out.cell 11 _ rfl
  have f12 := BF7.out.cell 12 _ rfl
  have f13 := BF7.out.cell 13 _ rfl
  have z1 : X < w7.heap.size := by omega
  have z2 : ¬ X = w7.heap.size := by omega
  have z3 : ¬ w7.heap.size = X := by omega
  have z4 : Y1 < w7.heap.size := by omega
  have z5 : ¬ Y1 = w7.heap.size := by omega
  have z6 : ¬ w7.heap.size = Y1 := by omega
  have x0 := BX7.out.cell 0 _ rfl
  have x1 := BX7.out.cell 1 _ rfl
  have x2 := BX7.out.cell 2 _ rfl
  have x3 := BX7.out.cell 3 _ rfl
  have hne : ∀ ww, (binOp .neq 36 (.agg #[.int .i64 r.kind, .int .u64 (r.lsn : Int), .int .i64 r.kind, .string r.key, .string r.val, .int .u64 0, .int .i64 0, .int .i64 0, .int .i64 0, .string ⟨#[]⟩, .int .i64 0, .int .i64 0, .int .i64 0, .int .u32 0]) (.agg #[.int .i64 r.kind, .int .u64 (r.lsn : Int), .int .i64 r.kind, .string r.key, .string r.val, .int .u64 0, .int .i64 0, .int .i64 0, .int .i64 0, .string ⟨#[]⟩, .int .i64 0, .int .i64 0, .int .i64 0, .int .u32 0])).run Try.prog ww = .ok (.bool false) ww := fun ww => neq_no (f := ofR r) (g := ofR r) rfl ww
  obtain ⟨W8, hW8⟩ : ∃ W8, W8 = (w7.alloc (.cells #[.int .i64 r.kind, .int .u64 (r.lsn : Int), .int .i64 r.kind, .string r.key, .string r.val, .int .u64 0, .int .i64 0, .int .i64 0, .int .i64 0, .string ⟨#[]⟩, .int .i64 0, .int .i64 0, .int .i64 0, .int .u32 0] 36)).alloc (.cells #[.int .i64 r.kind, .int .u64 (r.lsn : Int), .int .i64 r.kind, .string r.key, .string r.val, .int .u64 0, .int .i64 0, .int .i64 0, .int .i64 0, .string ⟨#[]⟩, .int .i64 0, .int .i64 0, .int .i64 0, .int .u32 0] 36) := ⟨_, rfl⟩
  have hb8 : Below w7.heap.size w7 W8 := by rw [hW8]; exact ((Below.refl _ _).alloc (Nat.le_refl _) _).alloc (by simp) _
  have J8 := hd (JK.keepAll (k := .u8) (M := 256) (E := 5) J7.out hb8)
  have HB8 := hd (HB7.out.trans (hb8.mono HB7.out.size))
  have hs8 := hb8.size
  have hdig : (EN.drop 1).take 3 = dg 3 WB.length := by
    rw [HEQ.out, HWB.out, List.drop_succ_cons, List.drop_zero, List.take_left' (dg_len _ _)]
  have HNU := hd (number_is (.slice (some ⟨g, 1, none⟩) 3 (c2 - 1)) 3 ((EN.drop 1).take 3) W8 (((JK.isK (k := .u8) (M := 256) (E := 5) J8.out).drop 1 (by omega) 1 (EN.length - 1) (c2 - 1) (fun _ => rfl) rfl rfl).take 3 (by rw [List.length_drop]; omega)) (by omega) (by omega) (by rw [List.length_take, List.length_drop]; omega))
  rw [hdig, numAns_ok (by rw [List.take_of_length_le (by rw [dg_len]; exact Nat.le_refl _)]; exact dg_lt 3 _), List.take_of_length_le (by rw [dg_len]; exact Nat.le_refl _), nm_dg, p3, Nat.mod_eq_of_lt (by have := HWBL.out; omega)] at HNU
  have hnx : nxt EN 1 = EN.length := by
    have h1 := nxt_at (l := EN) (k := 1) (by omega)
    have h2 : nx (EN.drop 1) = (EN.drop 1).length := nx_none (by
      intro x hx he
      obtain ⟨q, hq, hqe⟩ := List.getElem_of_mem hx
      rw [List.length_drop] at hq
      refine HNO.out (1 + q) (by omega) (by omega) ?_
      rw [List.getD_eq_getElem?_getD, ← List.getElem?_drop, List.getElem?_eq_getElem (by rw [List.length_drop]; omega), hqe, he]; rfl)
    rw [List.length_drop] at h2
    rw [h2] at h1
    rw [show (((1 : Nat) : Int)) = 1 from rfl] at h1
    rw [h1]; omega
  have HNX := hd (next_is _ EN 1 W8 (JK.isK (k := .u8) (M := 256) (E := 5) J8.out))
  rw [hnx] at HNX
  have q3 : ((WB.length : Int) != (EN.length : Int) - 9) = false := by have := HWBL.out; simp; omega
  have hwl : WB.length + 9 ≤ EN.length ∧ EN.length ≤ WB.length + 9 := by have := HWBL.out; omega
  clear hdig hnx hb8 J7 HB7
  go_wp2_with fail
  rw [← hW8]
  have HW8 := hd hW8
  clear hW8 hne x0 x1 x2 x3 f0 f1 f2 f3 f4 f5 f6 f7 f8 f9 f10 f11 f12 f13 z1 z2 z3 z4 z5 z6 BF7 BX7
  refine Calls.mono HNU.out ?_
  rintro e w' ⟨rfl, hw'⟩
  have hw2 := hw'.symm
  subst hw2
  clear hw' HNU
  go_wp2_with fail
  refine Calls.mono HNX.out ?_
  rintro e w' ⟨rfl, hw'⟩
  have hw2 := hw'.symm
  subst hw2
  clear hw' HNX
  by_cases hp0 : p = 0
  · subst hp0
    have HPK : Hid (Calls Try.prog 57 #[.int .i64 z, .int .i64 (8 * ((EN.length : Int) - 9))] W8 fun e w' => ∃ m : Nat, m < 8 * WB.length ∧ e = .returned (.int .i64 (m : Int)) ∧ w' = W8) := by
      have := tpick_is z (8 * WB.length) W8 (by omega) (by omega) hz
      rwa [show ((8 * WB.length : Nat) : Int) = 8 * ((EN.length : Int) - 9) by omega] at this
    go_wp2_with fail
    refine Calls.mono HPK.out ?_
    rintro e w' ⟨t, ht, rfl, hw'⟩
    have hw2 := hw'.symm
    subst hw2
    clear hw' HPK
    obtain ⟨H4, hH4⟩ : ∃ H4, H4 = 167 :: dg 3 WB.length := ⟨_, rfl⟩
    obtain ⟨S, hS⟩ : ∃ S, S = Crc.go 0 (dg 3 WB.length ++ WB) := ⟨_, rfl⟩
    have hEN : EN = H4 ++ (WB ++ dg 5 S) := by rw [HEQ.out, hH4, hS, ← HWB.out]; rfl
    have hH4l : H4.length = 4 := by rw [hH4, List.length_cons, dg_len]
    have HWY : Hid (Byt WB) := by
      show Byt WB
      intro x hx
      refine HBE.out x ?_
      rw [hEN]; simp [hx]
    have HHIT : Hid (∀ (W' : List Nat) (q : Nat), W'.length = WB.length → Byt W' → Crc.num W' = Crc.num WB ^^^ q * 2 ^ t → q < 4294967296 → q ≠ 0 → (decF (H4 ++ (W' ++ dg 5 S)) 0).2.2 ≠ 0) := by
      intro W' q hl hb' hn' hq h0
      have := hit_bad (W := WB) (W' := W') (S := S) (q := q) (t := t) (by omega) hl HWY.out hb' hS.symm hn' (by omega) hq h0
      rw [hH4]; exact this
    have HT5 := hd (dg_len 5 S)
    have HEN2 := hd hEN
    have HH4 := hd hH4l
    clear hH4 hS hEN hH4l
    generalize dg 5 S = T at *
    have HBUF := hd (JB.buf J8.out)
    rw [HEN2.out] at HBUF
    have HGW : Hid (w.heap.size ≤ g) := by
      have := JK.blk_ge (k := .u8) (M := 256) (E := 5) J8.out g rfl
      show w.heap.size ≤ g
      omega
    clear J8
    go_wp2_with fail
    go_loopw [24, 25] (fun s24 s25 wr => ∃ (j q : Nat) (ch : Bool) (lt : List Nat), j ≤ 32 ∧ lt.length = WB.length ∧ Crc.num lt = Crc.num WB ^^^ q * 2 ^ t ∧ q < 2 ^ j ∧ ((ch = true ∧ q ≠ 0) ∨ (ch = false ∧ lt = WB)) ∧ s24 = .bool ch ∧ s25 = .int .i64 (j : Int) ∧ Buf wr g c2 (H4 ++ (lt ++ T)) ∧ Below w.heap.size w wr) (fun _ s25 _ => 32 - (intOf s25).toNat)
    case atStart => exact ⟨0, 0, false, WB, by omega, rfl, by simp, by simp, .inr ⟨rfl, rfl⟩, rfl, rfl, HBUF.out, HB8.out⟩
    case round =>
      obtain ⟨j, q, ch, lt, hj, hlt, hnum, hq, hch, rfl, rfl, hBuf, hbl⟩ := hrel
      have HB := hd hBuf
      have HL := hd hbl
      have HN := hd hnum
      have HQ := hd hq
      have HCH := hd hch
      have HLT := hd hlt
      clear hBuf hbl hnum hq hch hlt HBUF HB8
      have HFL : Hid ((H4 ++ (lt ++ T)).length = EN.length) := by show (H4 ++ (lt ++ T)).length = EN.length; rw [List.length_append, List.length_append, HH4.out, HT5.out, HLT.out]; omega
      have HLB : Hid (Byt lt) := by
        show Byt lt
        intro a ha
        exact HB.out.2.2.2.1 a (by simp [ha])
      by_cases hin : j < 32
      · have eb := tpand (1 : Nat) j (by decide)
        by_cases hbit : (1 : Nat).testBit j
        · have hte : (((1 : Nat) / 2 ^ j % 2 : Nat) : Int) = 1 := by rw [Crc.bit_div, if_pos hbit]; rfl
          rw [hte] at eb
          rw [show ((1 : Nat) : Int) = 1 from rfl] at eb
          by_cases hb8 : t + j < 8 * WB.length
          · have hjl : (t + j) / 8 < lt.length := by rw [HLT.out]; omega
            have hcj := HB.out.cell (j := 4 + (t + j) / 8) (by rw [HFL.out]; omega)
            have hfj := HB.out.2.2.2.2.2 (4 + (t + j) / 8) (by rw [HFL.out]; omega)
            have hge := get_mid H4 lt T ((t + j) / 8) hjl
            rw [HH4.out] at hge
            rw [hge] at hcj
            have lx := getD_lt HLB.out ((t + j) / 8)
            have HS := hd (Crc.num_set lt ((t + j) / 8) ((t + j) % 8) hjl)
            have HT : Hid (∀ y : Nat, y < 256 → Buf (wr.setCell ⟨g, 4 + (t + j) / 8, none⟩ (.int .u8 (y : Int))) g c2 (H4 ++ (lt.set ((t + j) / 8) y ++ T))) := by
              intro y hy
              have h1 := HB.out.set (j := 4 + (t + j) / 8) (y := y) (by rw [HFL.out]; omega) hy
              have h2 := set_mid H4 lt T ((t + j) / 8) y hjl
              rw [HH4.out] at h2
              rw [h2] at h1
              exact h1
            have HV := hd (txor8 (r := (t + j) % 8) lx (by omega))
            have ly : lt.getD ((t + j) / 8) 0 ^^^ 2 ^ ((t + j) % 8) < 256 := Crc.xor_lt8 lx (show 2 ^ ((t + j) % 8) < 2 ^ 8 from Nat.pow_lt_pow_right (by decide) (by omega))
            generalize lt.getD ((t + j) / 8) 0 = x0 at *
            have hbi : (t : Int) + (j : Int) < 8 * ((EN.length : Int) - 9) := by omega
            clear hbit hge hjl HCH
            go_wp2_with fail
            go_roundw
            case rel =>
              refine ⟨j + 1, q ^^^ 2 ^ j, true, lt.set ((t + j) / 8) (x0 ^^^ 2 ^ ((t + j) % 8)), by omega, by rw [List.length_set]; exact HLT.out, ?_, ?_, .inl ⟨rfl, txor_ne HQ.out⟩, rfl, by go_num, ?_, HL.out.setCell (p := ⟨g, _, none⟩) HGW.out _⟩
              · rw [HS.out, HN.out, Crc.xor_mul_pow, ← Nat.pow_add, Nat.xor_assoc, show 8 * ((t + j) / 8) + (t + j) % 8 = j + t by omega]
              · exact Nat.xor_lt_two_pow (Nat.lt_of_lt_of_le HQ.out (Nat.pow_le_pow_right (by decide) (by omega))) (Nat.pow_lt_pow_right (by decide) (by omega))
              · rw [HV.out]; exact HT.out _ ly
            case measure => simp [intOf]; omega
          · have hbi : ¬ ((t : Int) + (j : Int) < 8 * ((EN.length : Int) - 9)) := by omega
            have hbi2 : 8 * ((EN.length : Int) - 9) ≤ (t : Int) + (j : Int) := by omega
            clear hbit
            go_wp2_with fail
            go_roundw
            case rel => exact ⟨j + 1, q, ch, lt, by omega, HLT.out, HN.out, Nat.lt_of_lt_of_le HQ.out (Nat.pow_le_pow_right (by decide) (by omega)), HCH.out, rfl, by go_num, HB.out, HL.out⟩
            case measure => simp [intOf]; omega
        · have hte : (((1 : Nat) / 2 ^ j % 2 : Nat) : Int) = 0 := by rw [Crc.bit_div, if_neg hbit]; rfl
          rw [hte] at eb
          rw [show ((1 : Nat) : Int) = 1 from rfl] at eb
          clear hbit hte
          go_wp2_with fail
          go_roundw
          case rel => exact ⟨j + 1, q, ch, lt, by omega, HLT.out, HN.out, Nat.lt_of_lt_of_le HQ.out (Nat.pow_le_pow_right (by decide) (by omega)), HCH.out, rfl, by go_num, HB.out, HL.out⟩
          case measure => simp [intOf]; omega
      · obtain rfl : j = 32 := by omega
        have HIW := hd (HB.out.isB HFL.out.symm)
        rcases HCH.out with ⟨rfl, hq0⟩ | ⟨rfl, rfl⟩
        · have hbad := HHIT.out lt q HLT.out HLB.out HN.out (Nat.lt_of_lt_of_le HQ.out (by decide)) hq0
          obtain ⟨er, her, hdv⟩ := tdval_err hbad
          have q1 : (((er : Nat) : Int) != 0) = true := by simp; omega
          have HD1 := hd (decode_all _ _ 0 wr HIW.out)
          rw [hdv] at HD1
          clear hbad hdv her
          go_wp2_with fail
          refine Calls.mono HD1.out ?_
          rintro e w9 ⟨rfl, b9⟩
          have HB9 := hd (HL.out.trans (b9.mono HL.out.size))
          clear b9
          go_wp2_with fail
          go_ret
          exact ⟨rfl, HB9.out.alloc HB9.out.size _⟩
        · have hdd : decF (H4 ++ (lt ++ T)) 0 = (ofR r, EN.length, 0) := by
            rw [← HEN2.out]
            unfold decF
            rw [if_neg (by omega)]
            have := HDA.out []
            rwa [List.append_nil] at this
          have HD1 := hd (decode_all _ _ 0 wr HIW.out)
          rw [hdd, HDV.out] at HD1
          clear hdd
          go_wp2_with fail
          refine Calls.mono HD1.out ?_
          rintro e w9 ⟨rfl, b9⟩
          have HB9 := hd (HL.out.trans (b9.mono HL.out.size))
          clear b9
          go_wp2_with fail
          go_ret
          exact ⟨rfl, HB9.out.alloc HB9.out.size _⟩
  · have hp1 : ((p : Int) == 0) = false := by rw [beq_eq_false_iff_ne]; omega
    have HPK : Hid (Calls Try.prog 57 #[.int .i64 z, .int .i64 (8 * ((EN.length : Int) - 9))] W8 fun e w' => ∃ m : Nat, m < 8 * WB.length ∧ e = .returned (.int .i64 (m : Int)) ∧ w' = W8) := by
      have := tpick_is z (8 * WB.length) W8 (by omega) (by omega) hz
      rwa [show ((8 * WB.length : Nat) : Int) = 8 * ((EN.length : Int) - 9) by omega] at this
    go_wp2_with fail
    refine Calls.mono HPK.out ?_
    rintro e w' ⟨t, ht, rfl, hw'⟩
    have hw2 := hw'.symm
    subst hw2
    clear hw' HPK
    obtain ⟨H4, hH4⟩ : ∃ H4, H4 = 167 :: dg 3 WB.length := ⟨_, rfl⟩
    obtain ⟨S, hS⟩ : ∃ S, S = Crc.go 0 (dg 3 WB.length ++ WB) := ⟨_, rfl⟩
    have hEN : EN = H4 ++ (WB ++ dg 5 S) := by rw [HEQ.out, hH4, hS, ← HWB.out]; rfl
    have hH4l : H4.length = 4 := by rw [hH4, List.length_cons, dg_len]
    have HWY : Hid (Byt WB) := by
      show Byt WB
      intro x hx
      refine HBE.out x ?_
      rw [hEN]; simp [hx]
    have HHIT : Hid (∀ (W' : List Nat) (q : Nat), W'.length = WB.length → Byt W' → Crc.num W' = Crc.num WB ^^^ q * 2 ^ t → q < 4294967296 → q ≠ 0 → (decF (H4 ++ (W' ++ dg 5 S)) 0).2.2 ≠ 0) := by
      intro W' q hl hb' hn' hq h0
      have := hit_bad (W := WB) (W' := W') (S := S) (q := q) (t := t) (by omega) hl HWY.out hb' hS.symm hn' (by omega) hq h0
      rw [hH4]; exact this
    have HT5 := hd (dg_len 5 S)
    have HEN2 := hd hEN
    have HH4 := hd hH4l
    clear hH4 hS hEN hH4l
    generalize dg 5 S = T at *
    have HBUF := hd (JB.buf J8.out)
    rw [HEN2.out] at HBUF
    have HGW : Hid (w.heap.size ≤ g) := by
      have := JK.blk_ge (k := .u8) (M := 256) (E := 5) J8.out g rfl
      show w.heap.size ≤ g
      omega
    clear J8
    go_wp2_with fail
    go_loopw [24, 25] (fun s24 s25 wr => ∃ (j q : Nat) (ch : Bool) (lt : List Nat), j ≤ 32 ∧ lt.length = WB.length ∧ Crc.num lt = Crc.num WB ^^^ q * 2 ^ t ∧ q < 2 ^ j ∧ ((ch = true ∧ q ≠ 0) ∨ (ch = false ∧ lt = WB)) ∧ s24 = .bool ch ∧ s25 = .int .i64 (j : Int) ∧ Buf wr g c2 (H4 ++ (lt ++ T)) ∧ Below w.heap.size w wr) (fun _ s25 _ => 32 - (intOf s25).toNat)
    case atStart => exact ⟨0, 0, false, WB, by omega, rfl, by simp, by simp, .inr ⟨rfl, rfl⟩, rfl, rfl, HBUF.out, HB8.out⟩
    case round =>
      obtain ⟨j, q, ch, lt, hj, hlt, hnum, hq, hch, rfl, rfl, hBuf, hbl⟩ := hrel
      have HB := hd hBuf
      have HL := hd hbl
      have HN := hd hnum
      have HQ := hd hq
      have HCH := hd hch
      have HLT := hd hlt
      clear hBuf hbl hnum hq hch hlt HBUF HB8
      have HFL : Hid ((H4 ++ (lt ++ T)).length = EN.length) := by show (H4 ++ (lt ++ T)).length = EN.length; rw [List.length_append, List.length_append, HH4.out, HT5.out, HLT.out]; omega
      have HLB : Hid (Byt lt) := by
        show Byt lt
        intro a ha
        exact HB.out.2.2.2.1 a (by simp [ha])
      by_cases hin : j < 32
      · have eb := tpand p j hp
        by_cases hbit : p.testBit j
        · have hte : ((p / 2 ^ j % 2 : Nat) : Int) = 1 := by rw [Crc.bit_div, if_pos hbit]; rfl
          rw [hte] at eb
          by_cases hb8 : t + j < 8 * WB.length
          · have hjl : (t + j) / 8 < lt.length := by rw [HLT.out]; omega
            have hcj := HB.out.cell (j := 4 + (t + j) / 8) (by rw [HFL.out]; omega)
            have hfj := HB.out.2.2.2.2.2 (4 + (t + j) / 8) (by rw [HFL.out]; omega)
            have hge := get_mid H4 lt T ((t + j) / 8) hjl
            rw [HH4.out] at hge
            rw [hge] at hcj
            have lx := getD_lt HLB.out ((t + j) / 8)
            have HS := hd (Crc.num_set lt ((t + j) / 8) ((t + j) % 8) hjl)
            have HT : Hid (∀ y : Nat, y < 256 → Buf (wr.setCell ⟨g, 4 + (t + j) / 8, none⟩ (.int .u8 (y : Int))) g c2 (H4 ++ (lt.set ((t + j) / 8) y ++ T))) := by
              intro y hy
              have h1 := HB.out.set (j := 4 + (t + j) / 8) (y := y) (by rw [HFL.out]; omega) hy
              have h2 := set_mid H4 lt T ((t + j) / 8) y hjl
              rw [HH4.out] at h2
              rw [h2] at h1
              exact h1
            have HV := hd (txor8 (r := (t + j) % 8) lx (by omega))
            have ly : lt.getD ((t + j) / 8) 0 ^^^ 2 ^ ((t + j) % 8) < 256 := Crc.xor_lt8 lx (show 2 ^ ((t + j) % 8) < 2 ^ 8 from Nat.pow_lt_pow_right (by decide) (by omega))
            generalize lt.getD ((t + j) / 8) 0 = x0 at *
            have hbi : (t : Int) + (j : Int) < 8 * ((EN.length : Int) - 9) := by omega
            clear hbit hge hjl HCH
            go_wp2_with fail
            go_roundw
            case rel =>
              refine ⟨j + 1, q ^^^ 2 ^ j, true, lt.set ((t + j) / 8) (x0 ^^^ 2 ^ ((t + j) % 8)), by omega, by rw [List.length_set]; exact HLT.out, ?_, ?_, .inl ⟨rfl, txor_ne HQ.out⟩, rfl, by go_num, ?_, HL.out.setCell (p := ⟨g, _, none⟩) HGW.out _⟩
              · rw [HS.out, HN.out, Crc.xor_mul_pow, ← Nat.pow_add, Nat.xor_assoc, show 8 * ((t + j) / 8) + (t + j) % 8 = j + t by omega]
              · exact Nat.xor_lt_two_pow (Nat.lt_of_lt_of_le HQ.out (Nat.pow_le_pow_right (by decide) (by omega))) (Nat.pow_lt_pow_right (by decide) (by omega))
              · rw [HV.out]; exact HT.out _ ly
            case measure => simp [intOf]; omega
          · have hbi : ¬ ((t : Int) + (j : Int) < 8 * ((EN.length : Int) - 9)) := by omega
            have hbi2 : 8 * ((EN.length : Int) - 9) ≤ (t : Int) + (j : Int) := by omega
            clear hbit
            go_wp2_with fail
            go_roundw
            case rel => exact ⟨j + 1, q, ch, lt, by omega, HLT.out, HN.out, Nat.lt_of_lt_of_le HQ.out (Nat.pow_le_pow_right (by decide) (by omega)), HCH.out, rfl, by go_num, HB.out, HL.out⟩
            case measure => simp [intOf]; omega
        · have hte : ((p / 2 ^ j % 2 : Nat) : Int) = 0 := by rw [Crc.bit_div, if_neg hbit]; rfl
          rw [hte] at eb
          clear hbit hte
          go_wp2_with fail
          go_roundw
          case rel => exact ⟨j + 1, q, ch, lt, by omega, HLT.out, HN.out, Nat.lt_of_lt_of_le HQ.out (Nat.pow_le_pow_right (by decide) (by omega)), HCH.out, rfl, by go_num, HB.out, HL.out⟩
          case measure => simp [intOf]; omega
      · obtain rfl : j = 32 := by omega
        have HIW := hd (HB.out.isB HFL.out.symm)
        rcases HCH.out with ⟨rfl, hq0⟩ | ⟨rfl, rfl⟩
        · have hbad := HHIT.out lt q HLT.out HLB.out HN.out (Nat.lt_of_lt_of_le HQ.out (by decide)) hq0
          obtain ⟨er, her, hdv⟩ := tdval_err hbad
          have q1 : (((er : Nat) : Int) != 0) = true := by simp; omega
          have HD1 := hd (decode_all _ _ 0 wr HIW.out)
          rw [hdv] at HD1
          clear hbad hdv her
          go_wp2_with fail
          refine Calls.mono HD1.out ?_
          rintro e w9 ⟨rfl, b9⟩
          have HB9 := hd (HL.out.trans (b9.mono HL.out.size))
          clear b9
          go_wp2_with fail
          go_ret
          exact ⟨rfl, HB9.out.alloc HB9.out.size _⟩
        · have hdd : decF (H4 ++ (lt ++ T)) 0 = (ofR r, EN.length, 0) := by
            rw [← HEN2.out]
            unfold decF
            rw [if_neg (by omega)]
            have := HDA.out []
            rwa [List.append_nil] at this
          have HD1 := hd (decode_all _ _ 0 wr HIW.out)
          rw [hdd, HDV.out] at HD1
          clear hdd
          go_wp2_with fail
          refine Calls.mono HD1.out ?_
          rintro e w9 ⟨rfl, b9⟩
          have HB9 := hd (HL.out.trans (b9.mono HL.out.size))
          clear b9
          go_wp2_with fail
          go_ret
          exact ⟨rfl, HB9.out.alloc HB9.out.size _⟩
set_option maxRecDepth 100000 in
set_option maxHeartbeats 16000000 in
theorem topF1 (k y v m : Int) (n : Nat) (u : Value) (bh : List Nat) (z : Int) (p : Nat) (w : World) (hk : (Lit.int .i64 k).wf = true) (hy : (Lit.int .i64 y).wf = true) (hv : (Lit.int .i64 v).wf = true) (hn : n < 18446744073709551616) (hI : IsB w u bh) (hz : (Lit.int .i64 z).wf = true) (hp : p < 4294967296) (hm : bh.length ≤ 140737488351232) (hn0 : n ≠ 0) :
    Calls Try.prog 14 #[.agg #[.int .i64 k, .int .i64 y, .int .i64 v, .int .i64 m], .int .u64 (n : Int), u, .int .i64 z, .int .u32 (p : Int)] w fun e w' => e = .returned (.bool true) ∧ Below w.heap.size w w' := by
  obtain ⟨ua, uc, rfl⟩ := hI.shape
  have HI := hd hI
  have HBY := hd hI.1
  clear hI
  obtain ⟨N, hN0, hNl, HST⟩ : ∃ N : Nat, N ≠ 0 ∧ N < 18446744073709551616 ∧ (n = 0 ∧ N = 1 ∨ n ≠ 0 ∧ N = n) := by
    by_cases h : n = 0
    · exact ⟨1, by omega, by omega, .inl ⟨h, rfl⟩⟩
    · exact ⟨n, h, hn, .inr ⟨h, rfl⟩⟩
  have HREC : Hid (∀ x : World, Calls Try.prog 52 #[.agg #[.int .i64 k, .int .i64 y, .int .i64 v, .int .i64 m], .int .u64 (N : Int)] x fun e w' => ∃ r : Rec, ((ofR r).Wf ∧ rf (ofR r) = 0 ∧ (bd (ofR r)).length ≤ 700) ∧ e = .returned (.agg #[.int .u64 (r.lsn : Int), .int .i64 r.kind, .string r.key, .string r.val]) ∧ Below x.heap.size x w') := fun x => Calls.mono (recordOf_is k y v m N x hk hy hv hN0 hNl) (by
    rintro e w' ⟨r, ⟨h1, h2, h3, h4⟩, rfl, hb⟩
    exact ⟨r, ⟨h2, h3, h4⟩, by rw [h1], hb⟩)
  have HARG : Hid (n = 0 ∧ N = 1 ∨ n ≠ 0 ∧ N = n) := HST
  have HRC : Hid (∀ a : Int, a = (N : Int) → ∀ x : World, Calls Try.prog 52 #[.agg #[.int .i64 k, .int .i64 y, .int .i64 v, .int .i64 m], .int .u64 a] x fun e w' => ∃ r : Rec, ((ofR r).Wf ∧ rf (ofR r) = 0 ∧ (bd (ofR r)).length ≤ 700) ∧ e = .returned (.agg #[.int .u64 (r.lsn : Int), .int .i64 r.kind, .string r.key, .string r.val]) ∧ Below x.heap.size x w') := fun a ha x => by rw [ha]; exact HREC.out x
  clear HREC HST
  have hN1 : (n : Int) = (N : Int) := by rcases HARG.out with ⟨h, _⟩ | ⟨_, h⟩ <;> omega
  have hs3 : ((n : Int) == 0) = false := by rw [beq_eq_false_iff_ne]; omega
  have HN1 := hd hN1
  clear hN1
  go_enter Try.func14, Try.ntmps14
  go_wp2_with fail
  refine Calls.mono (HRC.out _ HN1.out _) ?_
  rintro e w1 ⟨r, ⟨hrw, hrf, hbl⟩, rfl, b1⟩
  have hb3 := bd_three hrf
  have hE1 := en_len (ofR r)
  have hE2 := wr_len (bd (ofR r))
  have HDA := hd (fun q : List Nat => dcd_en hrw hrf q)
  have HBE := hd (en_bytR hrf)
  have HFC := hd (fun x : World => framed_is r x hrw hrf)
  have HNO := hd (fun j (h1 : 1 ≤ j) (h2 : j < (en (ofR r)).length) => en_no (f := ofR r) h1 h2)
  have hs1 := b1.size
  simp only [World.size_alloc] at hs1
  have HB1 : Hid (Below w.heap.size w w1) := ((Below.refl _ w).alloc (Nat.le_refl _) _).trans (b1.mono (by simp))
  have HEQ := hd (en_eq (ofR r))
  have hlE : 12 ≤ (en (ofR r)).length ∧ (en (ofR r)).length ≤ 1409 := by omega
  obtain ⟨WB, hWB⟩ : ∃ WB, WB = wr (bd (ofR r)) := ⟨_, rfl⟩
  have hWBl : (en (ofR r)).length = WB.length + 9 := by rw [hWB]; exact hE1
  have HWB := hd hWB
  clear hE1 hE2 hbl hb3 b1 HRC hWB
  obtain ⟨X, hX⟩ : ∃ X, X = w1.heap.size := ⟨_, rfl⟩
  obtain ⟨W1, hW1⟩ : ∃ W1, W1 = w1.alloc (.cells #[.int .u64 (r.lsn : Int), .int .i64 r.kind, .string r.key, .string r.val] 27) := ⟨_, rfl⟩
  have hsW1 : W1.heap.size = X + 1 := by rw [hW1, hX]; simp
  have BX1 : Hid (Blk W1 X 27 [.int .u64 (r.lsn : Int), .int .i64 r.kind, .string r.key, .string r.val]) := by rw [hW1, hX]; exact Blk.new w1 _ _
  have HBW1 : Hid (Below w.heap.size w W1) := by rw [hW1]; exact HB1.out.alloc (by omega) _
  have HI1 := hd (HI.out.below HBW1.out)
  obtain ⟨EN, hEN⟩ : ∃ EN, EN = en (ofR r) := ⟨_, rfl⟩
  rw [← hEN] at HDA HBE HNO HEQ hlE hWBl
  simp only [← hEN] at HFC
  have HENE := hd hEN
  have HWBL := hd hWBl
  clear hWBl
  have hXw : w.heap.size ≤ X := by rw [hX]; omega
  clear hEN
  go_wp2_with fail
  rw [← hW1, ← hX]
  clear hW1 hX HB1
  refine Calls.mono (HFC.out W1) ?_
  rintro e w2 ⟨u2, rfl, j2, b2⟩
  obtain ⟨g, c2, hu2, hgb, hgl⟩ := j2.2.form (by omega)
  subst hu2
  have hbf := j2.buf
  have hcc : EN.length ≤ c2 := hbf.1
  have hcm : c2 ≤ maxLen := hbf.2.1
  unfold maxLen at hcm
  have r0 := hbf.cell (j := 0) (by omega)
  have hh0 : EN.getD 0 0 = 167 := by rw [HENE.out]; exact en_head _
  rw [hh0] at r0
  have J2 := hd j2
  have BX2 := hd (BX1.out.keep b2)
  have HI2 := hd (HI1.out.below b2)
  have HB2 := hd (HBW1.out.trans (b2.mono HBW1.out.size))
  have hs2 := b2.size
  clear b2 j2 hbf hh0 BX1 HI1 HBW1 HFC
  have q0 : decide ((EN.length : Int) < 12) = false := by rw [decide_eq_false_iff_not]; omega
  have IE2 := hd J2.out.isB
  go_wp2_with fail
  refine Calls.mono (joined_is _ _ EN bh w2 IE2.out HI2.out (by omega)) ?_
  rintro e w3 ⟨u3, rfl, j3, b3⟩
  obtain ⟨a3, c3, hu3, _⟩ := JK.shape (k := .u8) (M := 256) (E := 5) j3
  rw [List.length_append] at hu3
  subst hu3
  have hd1 : decF (EN ++ bh) 0 = (ofR r, EN.length, 0) := by
    unfold decF
    rw [if_neg (by rw [List.length_append]; omega)]
    exact HDA.out bh
  have HD1 := hd (decode_all _ (EN ++ bh) 0 w3 j3.isB)
  rw [hd1] at HD1
  have hdv : dval (ofR r, EN.length, 0) = .tuple #[.agg #[.int .i64 r.kind, .int .u64 (r.lsn : Int), .int .i64 r.kind, .string r.key, .string r.val, .int .u64 0, .int .i64 0, .int .i64 0, .int .i64 0, .string ⟨#[]⟩, .int .i64 0, .int .i64 0, .int .i64 0, .int .u32 0], .int .i64 (EN.length : Int), .int .i64 0] := rfl
  rw [hdv] at HD1
  have HDV := hd hdv
  have BX3 := hd (BX2.out.keep b3)
  have J3 := hd (JK.keepAll (k := .u8) (M := 256) (E := 5) J2.out b3)
  have HI3 := hd (HI2.out.below b3)
  have HB3 := hd (HB2.out.trans (b3.mono HB2.out.size))
  have hs3 := b3.size
  clear hd1 hdv b3 j3 BX2 J2 HI2 HB2 IE2 r0
  go_wp2_with fail
  refine Calls.mono HD1.out ?_
  rintro e w4 ⟨rfl, b4⟩
  have BX4 := hd (BX3.out.keep b4)
  have J4 := hd (JK.keepAll (k := .u8) (M := 256) (E := 5) J3.out b4)
  have HI4 := hd (HI3.out.below b4)
  have HB4 := hd (HB3.out.trans (b4.mono HB3.out.size))
  have hs4 := b4.size
  clear b4 BX3 J3 HI3 HB3 HD1
  obtain ⟨Y1, hY1⟩ : ∃ Y1, Y1 = w4.heap.size := ⟨_, rfl⟩
  obtain ⟨W4, hW4⟩ : ∃ W4, W4 = w4.alloc (.cells #[.int .i64 r.kind, .int .u64 (r.lsn : Int), .int .i64 r.kind, .string r.key, .string r.val, .int .u64 0, .int .i64 0, .int .i64 0, .int .i64 0, .string ⟨#[]⟩, .int .i64 0, .int .i64 0, .int .i64 0, .int .u32 0] 36) := ⟨_, rfl⟩
  have hsW4 : W4.heap.size = Y1 + 1 := by rw [hW4, hY1]; simp
  have BF4 : Hid (Blk W4 Y1 36 [.int .i64 r.kind, .int .u64 (r.lsn : Int), .int .i64 r.kind, .string r.key, .string r.val, .int .u64 0, .int .i64 0, .int .i64 0, .int .i64 0, .string ⟨#[]⟩, .int .i64 0, .int .i64 0, .int .i64 0, .int .u32 0]) := by rw [hW4, hY1]; exact Blk.new w4 _ _
  have hbW4 : Below w4.heap.size w4 W4 := by rw [hW4]; exact (Below.refl _ _).alloc (Nat.le_refl _) _
  have BX5 := hd (BX4.out.keep hbW4)
  have J5 := hd (JK.keepAll (k := .u8) (M := 256) (E := 5) J4.out hbW4)
  have HI5 := hd (HI4.out.below hbW4)
  have HB5 := hd (HB4.out.trans (hbW4.mono HB4.out.size))
  have IE5 := hd (JK.isK (k := .u8) (M := 256) (E := 5) J5.out)
  have hs5 := hbW4.size
  clear hbW4 BX4 J4 HI4 HB4
  go_wp2_with fail
  rw [← hW4, ← hY1]
  clear hW4 hY1
  refine Calls.mono (joined_is _ _ bh EN W4 HI5.out IE5.out (by omega)) ?_
  rintro e w6 ⟨u6, rfl, j6, b6⟩
  obtain ⟨a6, c6, hu6, _⟩ := JK.shape (k := .u8) (M := 256) (E := 5) j6
  rw [List.length_append] at hu6
  subst hu6
  have hd2 : decF (bh ++ EN) (bh.length : Int) = (ofR r, EN.length, 0) := by
    unfold decF
    rw [if_neg (by rw [List.length_append]; omega), Int.toNat_natCast, List.drop_left' rfl]
    have := HDA.out []
    rwa [List.append_nil] at this
  have HD2 := hd (decode_all _ (bh ++ EN) (bh.length : Int) w6 j6.isB)
  rw [hd2, HDV.out] at HD2
  have BX6 := hd (BX5.out.keep b6)
  have BF6 := hd (BF4.out.keep b6)
  have J6 := hd (JK.keepAll (k := .u8) (M := 256) (E := 5) J5.out b6)
  have HB6 := hd (HB5.out.trans (b6.mono HB5.out.size))
  have hs6 := b6.size
  clear hd2 b6 j6 BX5 J5 HI5 HB5 IE5 BF4
  go_wp2_with fail
  refine Calls.mono HD2.out ?_
  rintro e w7 ⟨rfl, b7⟩
  have BX7 := hd (BX6.out.keep b7)
  have BF7 := hd (BF6.out.keep b7)
  have J7 := hd (JK.keepAll (k := .u8) (M := 256) (E := 5) J6.out b7)
  have HB7 := hd (HB6.out.trans (b7.mono HB6.out.size))
  have hs7 := b7.size
  clear b7 BX6 BF6 J6 HB6 HD2
  have f0 := BF7.out.cell 0 _ rfl
  have f1 := BF7.out.cell 1 _ rfl
  have f2 := BF7.out.cell 2 _ rfl
  have f3 := BF7.out.cell 3 _ rfl
  have f4 := BF7.out.cell 4 _ rfl
  have f5 := BF7.out.cell 5 _ rfl
  have f6 := BF7.out.cell 6 _ rfl
  have f7 := BF7.out.cell 7 _ rfl
  have f8 := BF7.out.cell 8 _ rfl
  have f9 := BF7.out.cell 9 _ rfl
  have f10 := BF7.out.cell 10 _ rfl
  have f11 := BF7.out.cell 11 _ rfl
  have f12 := BF7.out.cell 12 _ rfl
  have f13 := BF7.out.cell 13 _ rfl
  have z1 : X < w7.heap.size := by omega
  have z2 : ¬ X = w7.heap.size := by omega
  have z3 : ¬ w7.heap.size = X := by omega
  have z4 : Y1 < w7.heap.size := by omega
  have z5 : ¬ Y1 = w7.heap.size := by omega
  have z6 : ¬ w7.heap.size = Y1 := by omega
  have x0 := BX7.out.cell 0 _ rfl
  have x1 := BX7.out.cell 1 _ rfl
  have x2 := BX7.out.cell 2 _ rfl
  have x3 := BX7.out.cell 3 _ rfl
  have hne : ∀ ww, (binOp .neq 36 (.agg #[.int .i64 r.kind, .int .u64 (r.lsn : Int), .int .i64 r.kind, .string r.key, .string r.val, .int .u64 0, .int .i64 0, .int .i64 0, .int .i64 0, .string ⟨#[]⟩, .int .i64 0, .int .i64 0, .int .i64 0, .int .u32 0]) (.agg #[.int .i64 r.kind, .int .u64 (r.lsn : Int), .int .i64 r.kind, .string r.key, .string r.val, .int .u64 0, .int .i64 0, .int .i64 0, .int .i64 0, .string ⟨#[]⟩, .int .i64 0, .int .i64 0, .int .i64 0, .int .u32 0])).run Try.prog ww = .ok (.bool false) ww := fun ww => neq_no (f := ofR r) (g := ofR r) rfl ww
  obtain ⟨W8, hW8⟩ : ∃ W8, W8 = (w7.alloc (.cells #[.int .i64 r.kind, .int .u64 (r.lsn : Int), .int .i64 r.kind, .string r.key, .string r.val, .int .u64 0, .int .i64 0, .int .i64 0, .int .i64 0, .string ⟨#[]⟩, .int .i64 0, .int .i64 0, .int .i64 0, .int .u32 0] 36)).alloc (.cells #[.int .i64 r.kind, .int .u64 (r.lsn : Int), .int .i64 r.kind, .string r.key, .string r.val, .int .u64 0, .int .i64 0, .int .i64 0, .int .i64 0, .string ⟨#[]⟩, .int .i64 0, .int .i64 0, .int .i64 0, .int .u32 0] 36) := ⟨_, rfl⟩
  have hb8 : Below w7.heap.size w7 W8 := by rw [hW8]; exact ((Below.refl _ _).alloc (Nat.le_refl _) _).alloc (by simp) _
  have J8 := hd (JK.keepAll (k := .u8) (M := 256) (E := 5) J7.out hb8)
  have HB8 := hd (HB7.out.trans (hb8.mono HB7.out.size))
  have hs8 := hb8.size
  have hdig : (EN.drop 1).take 3 = dg 3 WB.length := by
    rw [HEQ.out, HWB.out, List.drop_succ_cons, List.drop_zero, List.take_left' (dg_len _ _)]
  have HNU := hd (number_is (.slice (some ⟨g, 1, none⟩) 3 (c2 - 1)) 3 ((EN.drop 1).take 3) W8 (((JK.isK (k := .u8) (M := 256) (E := 5) J8.out).drop 1 (by omega) 1 (EN.length - 1) (c2 - 1) (fun _ => rfl) rfl rfl).take 3 (by rw [List.length_drop]; omega)) (by omega) (by omega) (by rw [List.length_take, List.length_drop]; omega))
  rw [hdig, numAns_ok (by rw [List.take_of_length_le (by rw [dg_len]; exact Nat.le_refl _)]; exact dg_lt 3 _), List.take_of_length_le (by rw [dg_len]; exact Nat.le_refl _), nm_dg, p3, Nat.mod_eq_of_lt (by have := HWBL.out; omega)] at HNU
  have hnx : nxt EN 1 = EN.length := by
    have h1 := nxt_at (l := EN) (k := 1) (by omega)
    have h2 : nx (EN.drop 1) = (EN.drop 1).length := nx_none (by
      intro x hx he
      obtain ⟨q, hq, hqe⟩ := List.getElem_of_mem hx
      rw [List.length_drop] at hq
      refine HNO.out (1 + q) (by omega) (by omega) ?_
      rw [List.getD_eq_getElem?_getD, ← List.getElem?_drop, List.getElem?_eq_getElem (by rw [List.length_drop]; omega), hqe, he]; rfl)
    rw [List.length_drop] at h2
    rw [h2] at h1
    rw [show (((1 : Nat) : Int)) = 1 from rfl] at h1
    rw [h1]; omega
  have HNX := hd (next_is _ EN 1 W8 (JK.isK (k := .u8) (M := 256) (E := 5) J8.out))
  rw [hnx] at HNX
  have q3 : ((WB.length : Int) != (EN.length : Int) - 9) = false := by have := HWBL.out; simp; omega
  have hwl : WB.length + 9 ≤ EN.length ∧ EN.length ≤ WB.length + 9 := by have := HWBL.out; omega
  clear hdig hnx hb8 J7 HB7
  go_wp2_with fail
  rw [← hW8]
  have HW8 := hd hW8
  clear hW8 hne x0 x1 x2 x3 f0 f1 f2 f3 f4 f5 f6 f7 f8 f9 f10 f11 f12 f13 z1 z2 z3 z4 z5 z6 BF7 BX7
  refine Calls.mono HNU.out ?_
  rintro e w' ⟨rfl, hw'⟩
  have hw2 := hw'.symm
  subst hw2
  clear hw' HNU
  go_wp2_with fail
  refine Calls.mono HNX.out ?_
  rintro e w' ⟨rfl, hw'⟩
  have hw2 := hw'.symm
  subst hw2
  clear hw' HNX
  by_cases hp0 : p = 0
  · subst hp0
    have HPK : Hid (Calls Try.prog 57 #[.int .i64 z, .int .i64 (8 * ((EN.length : Int) - 9))] W8 fun e w' => ∃ m : Nat, m < 8 * WB.length ∧ e = .returned (.int .i64 (m : Int)) ∧ w' = W8) := by
      have := tpick_is z (8 * WB.length) W8 (by omega) (by omega) hz
      rwa [show ((8 * WB.length : Nat) : Int) = 8 * ((EN.length : Int) - 9) by omega] at this
    go_wp2_with fail
    refine Calls.mono HPK.out ?_
    rintro e w' ⟨t, ht, rfl, hw'⟩
    have hw2 := hw'.symm
    subst hw2
    clear hw' HPK
    obtain ⟨H4, hH4⟩ : ∃ H4, H4 = 167 :: dg 3 WB.length := ⟨_, rfl⟩
    obtain ⟨S, hS⟩ : ∃ S, S = Crc.go 0 (dg 3 WB.length ++ WB) := ⟨_, rfl⟩
    have hEN : EN = H4 ++ (WB ++ dg 5 S) := by rw [HEQ.out, hH4, hS, ← HWB.out]; rfl
    have hH4l : H4.length = 4 := by rw [hH4, List.length_cons, dg_len]
    have HWY : Hid (Byt WB) := by
      show Byt WB
      intro x hx
      refine HBE.out x ?_
      rw [hEN]; simp [hx]
    have HHIT : Hid (∀ (W' : List Nat) (q : Nat), W'.length = WB.length → Byt W' → Crc.num W' = Crc.num WB ^^^ q * 2 ^ t → q < 4294967296 → q ≠ 0 → (decF (H4 ++ (W' ++ dg 5 S)) 0).2.2 ≠ 0) := by
      intro W' q hl hb' hn' hq h0
      have := hit_bad (W := WB) (W' := W') (S := S) (q := q) (t := t) (by omega) hl HWY.out hb' hS.symm hn' (by omega) hq h0
      rw [hH4]; exact this
    have HT5 := hd (dg_len 5 S)
    have HEN2 := hd hEN
    have HH4 := hd hH4l
    clear hH4 hS hEN hH4l
    generalize dg 5 S = T at *
    have HBUF := hd (JB.buf J8.out)
    rw [HEN2.out] at HBUF
    have HGW : Hid (w.heap.size ≤ g) := by
      have := JK.blk_ge (k := .u8) (M := 256) (E := 5) J8.out g rfl
      show w.heap.size ≤ g
      omega
    clear J8
    go_wp2_with fail
    go_loopw [24, 25] (fun s24 s25 wr => ∃ (j q : Nat) (ch : Bool) (lt : List Nat), j ≤ 32 ∧ lt.length = WB.length ∧ Crc.num lt = Crc.num WB ^^^ q * 2 ^ t ∧ q < 2 ^ j ∧ ((ch = true ∧ q ≠ 0) ∨ (ch = false ∧ lt = WB)) ∧ s24 = .bool ch ∧ s25 = .int .i64 (j : Int) ∧ Buf wr g c2 (H4 ++ (lt ++ T)) ∧ Below w.heap.size w wr) (fun _ s25 _ => 32 - (intOf s25).toNat)
    case atStart => exact ⟨0, 0, false, WB, by omega, rfl, by simp, by simp, .inr ⟨rfl, rfl⟩, rfl, rfl, HBUF.out, HB8.out⟩
    case round =>
      obtain ⟨j, q, ch, lt, hj, hlt, hnum, hq, hch, rfl, rfl, hBuf, hbl⟩ := hrel
      have HB := hd hBuf
      have HL := hd hbl
      have HN := hd hnum
      have HQ := hd hq
      have HCH := hd hch
      have HLT := hd hlt
      clear hBuf hbl hnum hq hch hlt HBUF HB8
      have HFL : Hid ((H4 ++ (lt ++ T)).length = EN.length) := by show (H4 ++ (lt ++ T)).length = EN.length; rw [List.length_append, List.length_append, HH4.out, HT5.out, HLT.out]; omega
      have HLB : Hid (Byt lt) := by
        show Byt lt
        intro a ha
        exact HB.out.2.2.2.1 a (by simp [ha])
      by_cases hin : j < 32
      · have eb := tpand (1 : Nat) j (by decide)
        by_cases hbit : (1 : Nat).testBit j
        · have hte : (((1 : Nat) / 2 ^ j % 2 : Nat) : Int) = 1 := by rw [Crc.bit_div, if_pos hbit]; rfl
          rw [hte] at eb
          rw [show ((1 : Nat) : Int) = 1 from rfl] at eb
          by_cases hb8 : t + j < 8 * WB.length
          · have hjl : (t + j) / 8 < lt.length := by rw [HLT.out]; omega
            have hcj := HB.out.cell (j := 4 + (t + j) / 8) (by rw [HFL.out]; omega)
            have hfj := HB.out.2.2.2.2.2 (4 + (t + j) / 8) (by rw [HFL.out]; omega)
            have hge := get_mid H4 lt T ((t + j) / 8) hjl
            rw [HH4.out] at hge
            rw [hge] at hcj
            have lx := getD_lt HLB.out ((t + j) / 8)
            have HS := hd (Crc.num_set lt ((t + j) / 8) ((t + j) % 8) hjl)
            have HT : Hid (∀ y : Nat, y < 256 → Buf (wr.setCell ⟨g, 4 + (t + j) / 8, none⟩ (.int .u8 (y : Int))) g c2 (H4 ++ (lt.set ((t + j) / 8) y ++ T))) := by
              intro y hy
              have h1 := HB.out.set (j := 4 + (t + j) / 8) (y := y) (by rw [HFL.out]; omega) hy
              have h2 := set_mid H4 lt T ((t + j) / 8) y hjl
              rw [HH4.out] at h2
              rw [h2] at h1
              exact h1
            have HV := hd (txor8 (r := (t + j) % 8) lx (by omega))
            have ly : lt.getD ((t + j) / 8) 0 ^^^ 2 ^ ((t + j) % 8) < 256 := Crc.xor_lt8 lx (show 2 ^ ((t + j) % 8) < 2 ^ 8 from Nat.pow_lt_pow_right (by decide) (by omega))
            generalize lt.getD ((t + j) / 8) 0 = x0 at *
            have hbi : (t : Int) + (j : Int) < 8 * ((EN.length : Int) - 9) := by omega
            clear hbit hge hjl HCH
            go_wp2_with fail
            go_roundw
            case rel =>
              refine ⟨j + 1, q ^^^ 2 ^ j, true, lt.set ((t + j) / 8) (x0 ^^^ 2 ^ ((t + j) % 8)), by omega, by rw [List.length_set]; exact HLT.out, ?_, ?_, .inl ⟨rfl, txor_ne HQ.out⟩, rfl, by go_num, ?_, HL.out.setCell (p := ⟨g, _, none⟩) HGW.out _⟩
              · rw [HS.out, HN.out, Crc.xor_mul_pow, ← Nat.pow_add, Nat.xor_assoc, show 8 * ((t + j) / 8) + (t + j) % 8 = j + t by omega]
              · exact Nat.xor_lt_two_pow (Nat.lt_of_lt_of_le HQ.out (Nat.pow_le_pow_right (by decide) (by omega))) (Nat.pow_lt_pow_right (by decide) (by omega))
              · rw [HV.out]; exact HT.out _ ly
            case measure => simp [intOf]; omega
          · have hbi : ¬ ((t : Int) + (j : Int) < 8 * ((EN.length : Int) - 9)) := by omega
            have hbi2 : 8 * ((EN.length : Int) - 9) ≤ (t : Int) + (j : Int) := by omega
            clear hbit
            go_wp2_with fail
            go_roundw
            case rel => exact ⟨j + 1, q, ch, lt, by omega, HLT.out, HN.out, Nat.lt_of_lt_of_le HQ.out (Nat.pow_le_pow_right (by decide) (by omega)), HCH.out, rfl, by go_num, HB.out, HL.out⟩
            case measure => simp [intOf]; omega
        · have hte : (((1 : Nat) / 2 ^ j % 2 : Nat) : Int) = 0 := by rw [Crc.bit_div, if_neg hbit]; rfl
          rw [hte] at eb
          rw [show ((1 : Nat) : Int) = 1 from rfl] at eb
          clear hbit hte
          go_wp2_with fail
          go_roundw
          case rel => exact ⟨j + 1, q, ch, lt, by omega, HLT.out, HN.out, Nat.lt_of_lt_of_le HQ.out (Nat.pow_le_pow_right (by decide) (by omega)), HCH.out, rfl, by go_num, HB.out, HL.out⟩
          case measure => simp [intOf]; omega
      · obtain rfl : j = 32 := by omega
        have HIW := hd (HB.out.isB HFL.out.symm)
        rcases HCH.out with ⟨rfl, hq0⟩ | ⟨rfl, rfl⟩
        · have hbad := HHIT.out lt q HLT.out HLB.out HN.out (Nat.lt_of_lt_of_le HQ.out (by decide)) hq0
          obtain ⟨er, her, hdv⟩ := tdval_err hbad
          have q1 : (((er : Nat) : Int) != 0) = true := by simp; omega
          have HD1 := hd (decode_all _ _ 0 wr HIW.out)
          rw [hdv] at HD1
          clear hbad hdv her
          go_wp2_with fail
          refine Calls.mono HD1.out ?_
          rintro e w9 ⟨rfl, b9⟩
          have HB9 := hd (HL.out.trans (b9.mono HL.out.size))
          clear b9
          go_wp2_with fail
          go_ret
          exact ⟨rfl, HB9.out.alloc HB9.out.size _⟩
        · have hdd : decF (H4 ++ (lt ++ T)) 0 = (ofR r, EN.length, 0) := by
            rw [← HEN2.out]
            unfold decF
            rw [if_neg (by omega)]
            have := HDA.out []
            rwa [List.append_nil] at this
          have HD1 := hd (decode_all _ _ 0 wr HIW.out)
          rw [hdd, HDV.out] at HD1
          clear hdd
          go_wp2_with fail
          refine Calls.mono HD1.out ?_
          rintro e w9 ⟨rfl, b9⟩
          have HB9 := hd (HL.out.trans (b9.mono HL.out.size))
          clear b9
          go_wp2_with fail
          go_ret
          exact ⟨rfl, HB9.out.alloc HB9.out.size _⟩
  · have hp1 : ((p : Int) == 0) = false := by rw [beq_eq_false_iff_ne]; omega
    have HPK : Hid (Calls Try.prog 57 #[.int .i64 z, .int .i64 (8 * ((EN.length : Int) - 9))] W8 fun e w' => ∃ m : Nat, m < 8 * WB.length ∧ e = .returned (.int .i64 (m : Int)) ∧ w' = W8) := by
      have := tpick_is z (8 * WB.length) W8 (by omega) (by omega) hz
      rwa [show ((8 * WB.length : Nat) : Int) = 8 * ((EN.length : Int) - 9) by omega] at this
    go_wp2_with fail
    refine Calls.mono HPK.out ?_
    rintro e w' ⟨t, ht, rfl, hw'⟩
    have hw2 := hw'.symm
    subst hw2
    clear hw' HPK
    obtain ⟨H4, hH4⟩ : ∃ H4, H4 = 167 :: dg 3 WB.length := ⟨_, rfl⟩
    obtain ⟨S, hS⟩ : ∃ S, S = Crc.go 0 (dg 3 WB.length ++ WB) := ⟨_, rfl⟩
    have hEN : EN = H4 ++ (WB ++ dg 5 S) := by rw [HEQ.out, hH4, hS, ← HWB.out]; rfl
    have hH4l : H4.length = 4 := by rw [hH4, List.length_cons, dg_len]
    have HWY : Hid (Byt WB) := by
      show Byt WB
      intro x hx
      refine HBE.out x ?_
      rw [hEN]; simp [hx]
    have HHIT : Hid (∀ (W' : List Nat) (q : Nat), W'.length = WB.length → Byt W' → Crc.num W' = Crc.num WB ^^^ q * 2 ^ t → q < 4294967296 → q ≠ 0 → (decF (H4 ++ (W' ++ dg 5 S)) 0).2.2 ≠ 0) := by
      intro W' q hl hb' hn' hq h0
      have := hit_bad (W := WB) (W' := W') (S := S) (q := q) (t := t) (by omega) hl HWY.out hb' hS.symm hn' (by omega) hq h0
      rw [hH4]; exact this
    have HT5 := hd (dg_len 5 S)
    have HEN2 := hd hEN
    have HH4 := hd hH4l
    clear hH4 hS hEN hH4l
    generalize dg 5 S = T at *
    have HBUF := hd (JB.buf J8.out)
    rw [HEN2.out] at HBUF
    have HGW : Hid (w.heap.size ≤ g) := by
      have := JK.blk_ge (k := .u8) (M := 256) (E := 5) J8.out g rfl
      show w.heap.size ≤ g
      omega
    clear J8
    go_wp2_with fail
    go_loopw [24, 25] (fun s24 s25 wr => ∃ (j q : Nat) (ch : Bool) (lt : List Nat), j ≤ 32 ∧ lt.length = WB.length ∧ Crc.num lt = Crc.num WB ^^^ q * 2 ^ t ∧ q < 2 ^ j ∧ ((ch = true ∧ q ≠ 0) ∨ (ch = false ∧ lt = WB)) ∧ s24 = .bool ch ∧ s25 = .int .i64 (j : Int) ∧ Buf wr g c2 (H4 ++ (lt ++ T)) ∧ Below w.heap.size w wr) (fun _ s25 _ => 32 - (intOf s25).toNat)
    case atStart => exact ⟨0, 0, false, WB, by omega, rfl, by simp, by simp, .inr ⟨rfl, rfl⟩, rfl, rfl, HBUF.out, HB8.out⟩
    case round =>
      obtain ⟨j, q, ch, lt, hj, hlt, hnum, hq, hch, rfl, rfl, hBuf, hbl⟩ := hrel
      have HB := hd hBuf
      have HL := hd hbl
      have HN := hd hnum
      have HQ := hd hq
      have HCH := hd hch
      have HLT := hd hlt
      clear hBuf hbl hnum hq hch hlt HBUF HB8
      have HFL : Hid ((H4 ++ (lt ++ T)).length = EN.length) := by show (H4 ++ (lt ++ T)).length = EN.length; rw [List.length_append, List.length_append, HH4.out, HT5.out, HLT.out]; omega
      have HLB : Hid (Byt lt) := by
        show Byt lt
        intro a ha
        exact HB.out.2.2.2.1 a (by simp [ha])
      by_cases hin : j < 32
      · have eb := tpand p j hp
        by_cases hbit : p.testBit j
        · have hte : ((p / 2 ^ j % 2 : Nat) : Int) = 1 := by rw [Crc.bit_div, if_pos hbit]; rfl
          rw [hte] at eb
          by_cases hb8 : t + j < 8 * WB.length
          · have hjl : (t + j) / 8 < lt.length := by rw [HLT.out]; omega
            have hcj := HB.out.cell (j := 4 + (t + j) / 8) (by rw [HFL.out]; omega)
            have hfj := HB.out.2.2.2.2.2 (4 + (t + j) / 8) (by rw [HFL.out]; omega)
            have hge := get_mid H4 lt T ((t + j) / 8) hjl
            rw [HH4.out] at hge
            rw [hge] at hcj
            have lx := getD_lt HLB.out ((t + j) / 8)
            have HS := hd (Crc.num_set lt ((t + j) / 8) ((t + j) % 8) hjl)
            have HT : Hid (∀ y : Nat, y < 256 → Buf (wr.setCell ⟨g, 4 + (t + j) / 8, none⟩ (.int .u8 (y : Int))) g c2 (H4 ++ (lt.set ((t + j) / 8) y ++ T))) := by
              intro y hy
              have h1 := HB.out.set (j := 4 + (t + j) / 8) (y := y) (by rw [HFL.out]; omega) hy
              have h2 := set_mid H4 lt T ((t + j) / 8) y hjl
              rw [HH4.out] at h2
              rw [h2] at h1
              exact h1
            have HV := hd (txor8 (r := (t + j) % 8) lx (by omega))
            have ly : lt.getD ((t + j) / 8) 0 ^^^ 2 ^ ((t + j) % 8) < 256 := Crc.xor_lt8 lx (show 2 ^ ((t + j) % 8) < 2 ^ 8 from Nat.pow_lt_pow_right (by decide) (by omega))
            generalize lt.getD ((t + j) / 8) 0 = x0 at *
            have hbi : (t : Int) + (j : Int) < 8 * ((EN.length : Int) - 9) := by omega
            clear hbit hge hjl HCH
            go_wp2_with fail
            go_roundw
            case rel =>
              refine ⟨j + 1, q ^^^ 2 ^ j, true, lt.set ((t + j) / 8) (x0 ^^^ 2 ^ ((t + j) % 8)), by omega, by rw [List.length_set]; exact HLT.out, ?_, ?_, .inl ⟨rfl, txor_ne HQ.out⟩, rfl, by go_num, ?_, HL.out.setCell (p := ⟨g, _, none⟩) HGW.out _⟩
              · rw [HS.out, HN.out, Crc.xor_mul_pow, ← Nat.pow_add, Nat.xor_assoc, show 8 * ((t + j) / 8) + (t + j) % 8 = j + t by omega]
              · exact Nat.xor_lt_two_pow (Nat.lt_of_lt_of_le HQ.out (Nat.pow_le_pow_right (by decide) (by omega))) (Nat.pow_lt_pow_right (by decide) (by omega))
              · rw [HV.out]; exact HT.out _ ly
            case measure => simp [intOf]; omega
          · have hbi : ¬ ((t : Int) + (j : Int) < 8 * ((EN.length : Int) - 9)) := by omega
            have hbi2 : 8 * ((EN.length : Int) - 9) ≤ (t : Int) + (j : Int) := by omega
            clear hbit
            go_wp2_with fail
            go_roundw
            case rel => exact ⟨j + 1, q, ch, lt, by omega, HLT.out, HN.out, Nat.lt_of_lt_of_le HQ.out (Nat.pow_le_pow_right (by decide) (by omega)), HCH.out, rfl, by go_num, HB.out, HL.out⟩
            case measure => simp [intOf]; omega
        · have hte : ((p / 2 ^ j % 2 : Nat) : Int) = 0 := by rw [Crc.bit_div, if_neg hbit]; rfl
          rw [hte] at eb
          clear hbit hte
          go_wp2_with fail
          go_roundw
          case rel => exact ⟨j + 1, q, ch, lt, by omega, HLT.out, HN.out, Nat.lt_of_lt_of_le HQ.out (Nat.pow_le_pow_right (by decide) (by omega)), HCH.out, rfl, by go_num, HB.out, HL.out⟩
          case measure => simp [intOf]; omega
      · obtain rfl : j = 32 := by omega
        have HIW := hd (HB.out.isB HFL.out.symm)
        rcases HCH.out with ⟨rfl, hq0⟩ | ⟨rfl, rfl⟩
        · have hbad := HHIT.out lt q HLT.out HLB.out HN.out (Nat.lt_of_lt_of_le HQ.out (by decide)) hq0
          obtain ⟨er, her, hdv⟩ := tdval_err hbad
          have q1 : (((er : Nat) : Int) != 0) = true := by simp; omega
          have HD1 := hd (decode_all _ _ 0 wr HIW.out)
          rw [hdv] at HD1
          clear hbad hdv her
          go_wp2_with fail
          refine Calls.mono HD1.out ?_
          rintro e w9 ⟨rfl, b9⟩
          have HB9 := hd (HL.out.trans (b9.mono HL.out.size))
          clear b9
          go_wp2_with fail
          go_ret
          exact ⟨rfl, HB9.out.alloc HB9.out.size _⟩
        · have hdd : decF (H4 ++ (lt ++ T)) 0 = (ofR r, EN.length, 0) := by
            rw [← HEN2.out]
            unfold decF
            rw [if_neg (by omega)]
            have := HDA.out []
            rwa [List.append_nil] at this
          have HD1 := hd (decode_all _ _ 0 wr HIW.out)
          rw [hdd, HDV.out] at HD1
          clear hdd
          go_wp2_with fail
          refine Calls.mono HD1.out ?_
          rintro e w9 ⟨rfl, b9⟩
          have HB9 := hd (HL.out.trans (b9.mono HL.out.size))
          clear b9
          go_wp2_with fail
          go_ret
          exact ⟨rfl, HB9.out.alloc HB9.out.size _⟩
theorem topF (k y v m : Int) (n : Nat) (u : Value) (bh : List Nat) (z : Int) (p : Nat) (w : World) (hk : (Lit.int .i64 k).wf = true) (hy : (Lit.int .i64 y).wf = true) (hv : (Lit.int .i64 v).wf = true) (hn : n < 18446744073709551616) (hI : IsB w u bh) (hz : (Lit.int .i64 z).wf = true) (hp : p < 4294967296) (hm : bh.length ≤ 140737488351232) :
    Calls Try.prog 14 #[.agg #[.int .i64 k, .int .i64 y, .int .i64 v, .int .i64 m], .int .u64 (n : Int), u, .int .i64 z, .int .u32 (p : Int)] w fun e w' => e = .returned (.bool true) ∧ Below w.heap.size w w' := by
  by_cases hn0 : n = 0
  · exact topF0 k y v m n u bh z p w hk hy hv hn hI hz hp hm hn0
  · exact topF1 k y v m n u bh z p w hk hy hv hn hI hz hp hm hn0
theorem has_i64 {n : Int} (h : IntKind.i64.has n) : (Lit.int .i64 n).wf = true := by
  have e1 : IntKind.i64.min = -9223372036854775808 := rfl
  have e2 : IntKind.i64.max = 9223372036854775807 := rfl
  unfold IntKind.has at h
  rw [e1, e2] at h
  exact Go.WalkArith.wf_i64 h
theorem cells_raw : Try.prog.cellTypes Try.prog.depth 97 = some [3, 3, 3, 3] := by kernel_rfl
theorem size_raw : Try.prog.cellsOf 97 = 4 := by kernel_rfl
theorem rlist4 {α : Type} {l : List α} (h : l.length = 4) : ∃ a b c d, l = [a, b, c, d] := by
  match l, h with
  | [a, b, c, d], _ => exact ⟨a, b, c, d, rfl⟩
/-- four numbers -/
abbrev Raw4 := Int × Int × Int × Int
def rwv (x : Raw4) : Array Value := #[.int .i64 x.1, .int .i64 x.2.1, .int .i64 x.2.2.1, .int .i64 x.2.2.2]
def rwf (x : Raw4) : Prop := (Lit.int .i64 x.1).wf = true ∧ (Lit.int .i64 x.2.1).wf = true ∧ (Lit.int .i64 x.2.2.1).wf = true ∧ (Lit.int .i64 x.2.2.2).wf = true
set_option maxRecDepth 100000 in
theorem raw_arg {w : World} {r : Reach} {base : Nat} {v : Value} (h : Value.okWide Try.prog w r base 97 v) : ∃ x : Raw4, v = .agg (rwv x) ∧ rwf x := by
  obtain ⟨cs, rfl, hsz, ts, hts, _, hcell⟩ := okW_struct Try.underlying97 h
  rw [size_raw] at hsz
  rw [cells_raw] at hts
  injection hts with hts
  subst hts
  obtain ⟨l⟩ := cs
  obtain ⟨v0, v1, v2, v3, rfl⟩ := rlist4 (l := l) (by simpa using hsz)
  have key : ∀ i v u, (#[v0, v1, v2, v3] : Array Value)[i]? = some v → [3, 3, 3, 3][i % 4]? = some u → Cell.okWide Try.prog w r base u v := by
    intro i v u hv hu
    obtain ⟨u', hu', hc⟩ := hcell i v hv
    have e : some u' = some u := hu'.symm.trans hu
    injection e with e
    subst e
    exact hc
  obtain ⟨n1, rfl, b1⟩ := cell_int Try.underlying3 (key 0 _ _ rfl rfl)
  obtain ⟨n2, rfl, b2⟩ := cell_int Try.underlying3 (key 1 _ _ rfl rfl)
  obtain ⟨n3, rfl, b3⟩ := cell_int Try.underlying3 (key 2 _ _ rfl rfl)
  obtain ⟨n4, rfl, b4⟩ := cell_int Try.underlying3 (key 3 _ _ rfl rfl)
  exact ⟨(n1, n2, n3, n4), rfl, has_i64 b1, has_i64 b2, has_i64 b3, has_i64 b4⟩
end Vt
namespace Tf
open Vt
theorem walk (a0 : Raw4) (a1 : Int) (a2 : Option Addr) (len2 cap2 : Nat) (z2 : List Int) (a3 a4 : Int) (w : World) (w0 : rwf a0) (w1 : (Lit.int .u64 a1).wf = true) (w2 : IsRow .u8 w a2 len2 cap2 z2) (w3 : (Lit.int .i64 a3).wf = true) (w4 : (Lit.int .u32 a4).wf = true) (rc2 : cap2 ≤ 140737488351232) (hlc2 : len2 ≤ cap2) :
    Calls Try.prog 14 #[.agg (rwv a0), .int .u64 a1, .slice a2 len2 cap2, .int .i64 a3, .int .u32 a4] w fun e w' => e = .returned (.bool true) ∧ Below w.heap.size w w' := by
  obtain ⟨l, hl, hI⟩ := w2.isB
  have h1 := wf_u64 w1
  have h4 := bounds_u32 w4
  obtain ⟨n, rfl⟩ : ∃ n : Nat, a1 = (n : Int) := ⟨a1.toNat, by omega⟩
  obtain ⟨p, rfl⟩ : ∃ p : Nat, a4 = (p : Int) := ⟨a4.toNat, by omega⟩
  exact topF a0.1 a0.2.1 a0.2.2.1 a0.2.2.2 n _ l a3 p w w0.1 w0.2.1 w0.2.2.1 (by omega) hI w3 (by omega) (by omega)
set_option linter.unusedVariables false
set_option maxRecDepth 100000 in
theorem lifted (os : Os) (started : os.Started) (H : Type) (enc : TypeId × Value → H) :
    ReturnsInHanded {} Try.checked os 14 .any (Rows.topFramesSpec.pre6 enc Try.prog Try.f14 Rows.topFramesRow.domain false) (Rows.topFramesSpec.post enc Try.prog Try.f14 false true false false) := by
  refine returnsInHanded_of_change_sized (C := Try.checked) own started (by kernel_rfl) Try.func14
    (ChangeSpec.witness6 (enc := enc) (C := Try.checked) false ⟨#[], #[.agg #[.int .i64 0, .int .i64 0, .int .i64 0, .int .i64 0], .int .u64 0, .slice none 0 0, .int .i64 0, .int .u32 0], []⟩ 8 (by kernel_rfl) (by kernel_rfl) (by kernel_rfl) (by kernel_rfl)) ?_
  intro W base args ds gs before hval0 hW hcnd hsz0 _
  have hsz : (DataW.weightsEach Try.prog (Try.f14.params.toList ++ Rows.topFramesSpec.plain.varTypes Try.prog) (ds ++ gs)).all (· ≤ reachBytes) = true := hsz0
  clear hsz0
  have hval : ∀ (j : Nat) t v, Try.f14.params[j]? = some t → args[j]? = some v → Value.okWide Try.prog W .any base t v := hval0
  have hW' := hW
  obtain ⟨p, q, hA0, hV, rfl, hfz, hnd⟩ := hW
  have hA : DataW.TrodAll enc Try.prog W 0 (fun _ => true) true Try.f14.params.toList args.toList ds p := hA0
  rw [Try.params14] at hA hval hsz
  obtain ⟨v0, vs0, d0, ds0, p0, q0, hargs, rfl, rfl, h0, r0⟩ := trodAll_cons hA
  obtain ⟨v1, vs1, d1, ds1, p1, q1, rfl, rfl, rfl, h1, r1⟩ := trodAll_cons r0
  obtain ⟨v2, vs2, d2, ds2, p2, q2, rfl, rfl, rfl, h2, r2⟩ := trodAll_cons r1
  obtain ⟨v3, vs3, d3, ds3, p3, q3, rfl, rfl, rfl, h3, r3⟩ := trodAll_cons r2
  obtain ⟨v4, vs4, d4, ds4, p4, q4, rfl, rfl, rfl, h4, r4⟩ := trodAll_cons r3
  obtain ⟨rfl, rfl, rfl⟩ := trodAll_nil r4
  obtain rfl : args = #[v0, v1, v2, v3, v4] := by cases args; simp_all
  obtain ⟨rfl, rfl⟩ := trodVars_none hV
  obtain ⟨a2, len2, cap2, rfl⟩ := okWide_slice Try.underlying22 (hval 2 22 v2 rfl rfl)
  have k2 := h2
  have lt2 : ∀ x ∈ p2, x.block < W.heap.size := by obtain ⟨m, hm⟩ := k2; exact DataW.trod_lt m _ _ _ hm
  obtain ⟨z2, w2, rc2, hlc2⟩ : ∃ zs, IsRow .u8 W a2 len2 cap2 zs ∧ cap2 ≤ 140737488351232 ∧ len2 ≤ cap2 := by
    obtain ⟨fuel, hf⟩ := h2
    rcases open_ints Try.underlying22 Try.underlying5 (by kernel_rfl) hf with ⟨hcs, _⟩ | ⟨x, l, c, zs, hcs, _, hl, hm, hz, hx, hcell, hwz⟩
    · simp [Value.cells] at hcs
      obtain ⟨rfl, rfl, rfl⟩ := hcs
      exact ⟨[], .inl ⟨rfl, rfl, rfl, rfl⟩, by omega, by omega⟩
    · simp [Value.cells] at hcs
      obtain ⟨rfl, rfl, rfl⟩ := hcs
      have hz2 : zs.length = cap2 := by simpa using hz
      simp only [Prod.mk.injEq] at hx
      have hs := sized_slice hsz (j := 2) rfl (by rw [hx.1]; rfl) Try.underlying22
      rw [bytes_u8] at hs
      simp only [lits, List.length_map, List.length_take, List.length_drop, reachBytes] at hs
      exact ⟨zs, .inr ⟨_, rfl, hl, hm, hz2, hcell, hwz⟩, by omega, hl⟩
  obtain ⟨a0, rfl, w0⟩ := raw_arg (hval 0 97 v0 rfl rfl)
  have lt0 : ∀ x ∈ p0, x.block < W.heap.size := by obtain ⟨m, hm⟩ := h0; exact DataW.trod_lt m _ _ _ hm
  obtain ⟨a1, rfl, rfl, rfl, w1⟩ := open_int Try.underlying25 (hval 1 25 v1 rfl rfl) h1
  obtain ⟨a3, rfl, rfl, rfl, w3⟩ := open_int Try.underlying3 (hval 3 3 v3 rfl rfl) h3
  obtain ⟨a4, rfl, rfl, rfl, w4⟩ := open_int Try.underlying30 (hval 4 30 v4 rfl rfl) h4
  clear hA0 hval0
  refine (walk a0 a1 a2 len2 cap2 z2 a3 a4 W w0 w1 w2 w3 w4 rc2 hlc2).mono fun e W' ⟨he, bel⟩ => ?_
  subst he
  exact ⟨_, rfl, _, _, _, [], _, [], hW', trodAll_mk1 (shut_bool Try.underlying4 _), (trodAll_cons_mk (Below.trod laidOut (by kernel_rfl) (of_decide_eq_true (by kernel_rfl)) h0 bel lt0) (trodAll_cons_mk (shut_int Try.underlying25 w1) (trodAll_cons_mk (Below.trod laidOut (by kernel_rfl) (of_decide_eq_true (by kernel_rfl)) k2 bel lt2) (trodAll_cons_mk (shut_int Try.underlying3 w3) (trodAll_cons_mk (shut_int Try.underlying30 w4) trodAll_mk0))))), rfl, bel.frame _, fun h => by cases h⟩
theorem over : Rows.topFramesRow.holds Try.pinned (OpenSpec.ofChange Rows.topFramesSpec) :=
  OpenClaim.holds_of_wide 14 Try.f14 rfl rfl rfl rfl rfl rfl rfl ⟨rfl, rfl, rfl, rfl, rfl⟩ rfl rfl rfl rfl rfl (by kernel_rfl) Try.func14 (by kernel_rfl)
    (of_decide_eq_true (by kernel_rfl)) (by unfold Func.isWrapper; first | (rw [if_pos (by decide +kernel)]; kernel_rfl) | (rw [if_neg (by decide +kernel)]; exact ⟨rfl, rfl⟩))
    (fun os started H enc _ => lifted os started H enc)
end Tf

theorem topFrames_holds : Rows.TopFramesSaid := Tf.over
#print axioms topFrames_holds
end Go.Proofs.Ytbcibgjphjlffaa
