/-
  RECORDS OF RAW NUMBERS: the theorems' own pick, keyOf, valueOf, recordOf, framed, joined: whatever the numbers, a record that may be.
-/
import Derived.Test.YtlddogigbodilaaNbk
import Derived.Test.YtlddogigbodilaaNbm
import Derived.Test.YtlddogigbodilaaNbc
import Derived.Test.YtlddogigbodilaaNan
namespace Go.Proofs.Ytlddogigbodilaa
open Go.ChangeShapes Go.WideShapes Go.ChangeAt Go.RowKit Go.Shelf
namespace Vt
set_option maxRecDepth 100000 in
theorem tpick_is (z : Int) (n : Nat) (w : World) (hn : 0 < n) (hn2 : n ≤ 1099511627776) (hz : (Lit.int .i64 z).wf = true) :
    Calls Try.prog 45 #[.int .i64 z, .int .i64 (n : Int)] w fun e w' => ∃ m : Nat, m < n ∧ e = .returned (.int .i64 (m : Int)) ∧ w' = w := by
  have hb := bounds_i64 hz
  by_cases h : z < 0
  · go_enter Try.func45, Try.ntmps45
    go_wp2
    go_ret
    refine ⟨((-(z + 1)).tmod (n : Int)).toNat, ?_, ?_, rfl⟩
    · have h1 := Int.tmod_lt_of_pos (-(z + 1)) (show (0 : Int) < n by omega)
      have h2 := Int.tmod_nonneg (n : Int) (show (0 : Int) ≤ -(z + 1) by omega)
      omega
    · have h2 := Int.tmod_nonneg (n : Int) (show (0 : Int) ≤ -(z + 1) by omega)
      rw [Int.toNat_of_nonneg h2, Int.neg_tmod]; rfl
  · go_enter Try.func45, Try.ntmps45
    go_wp2
    go_ret
    refine ⟨(z % (n : Int)).toNat, ?_, ?_, rfl⟩
    · have h1 := Int.emod_lt_of_pos z (show (0 : Int) < n by omega)
      have h2 := Int.emod_nonneg z (show (n : Int) ≠ 0 by omega)
      omega
    · rw [Int.toNat_of_nonneg (Int.emod_nonneg z (show (n : Int) ≠ 0 by omega))]; rfl
/-- how long a text is -/
def strLen : Value → Nat
  | .string t => t.size
  | _ => 0
set_option maxRecDepth 100000 in
set_option maxHeartbeats 2000000 in
theorem keyOf_is (z : Int) (w : World) (hz : (Lit.int .i64 z).wf = true) :
    Calls Try.prog 58 #[.int .i64 z] w fun e w' => ∃ t : ByteArray, 1 ≤ t.size ∧ t.size ≤ 64 ∧ e = .returned (.string t) ∧ w' = w := by
  have HP := hd (tpick_is z 6 w (by omega) (by omega) hz)
  go_enter Try.func58, Try.ntmps58
  go_wp2_with fail
  refine Calls.mono HP.out ?_
  rintro e w' ⟨k, hk, rfl, hw'⟩
  have hw2 := hw'.symm
  subst hw2
  clear hw' HP
  obtain rfl | rfl | rfl | rfl | rfl | rfl : k = 0 ∨ k = 1 ∨ k = 2 ∨ k = 3 ∨ k = 4 ∨ k = 5 := by omega
  all_goals
    go_wp2_with fail
    go_loopw [4] (fun s wr => ∃ t : ByteArray, s = .string t ∧ 1 ≤ t.size ∧ t.size ≤ 64 ∧ wr = w) (fun s _ => 64 - strLen s)
    case atStart => exact ⟨_, rfl, by decide, by decide, rfl⟩
    case round =>
      obtain ⟨t, rfl, h1, h2, rfl⟩ := hrel
      by_cases hlt : t.size < 64
      · first
          | (go_wp2_with fail
             go_ret
             exact ⟨t, h1, h2, rfl, rfl⟩)
          | (go_wp2_with fail
             go_roundw
             case rel => exact ⟨_, rfl, by rw [ByteArray.size_append]; omega, by rw [ByteArray.size_append, show (ByteArray.mk #[166]).size = 1 from rfl]; omega, (by first | rfl | trivial)⟩
             case measure => show 64 - (t ++ ⟨#[166]⟩).size < 64 - t.size; rw [ByteArray.size_append, show (ByteArray.mk #[166]).size = 1 from rfl]; omega)
      · go_wp2_with fail
        go_ret
        exact ⟨t, h1, h2, rfl, rfl⟩
/-- what looks like a frame within a value -/
def forg : Fr := ⟨1, ⟨999999, 1, ⟨#[97]⟩, ⟨#[102, 111, 114, 103, 101, 100]⟩⟩, zp, ze⟩
theorem forg_wf : forg.Wf := ⟨(by decide : (999999 : Nat) < 18446744073709551616), (by decide : (0 : Nat) < 18446744073709551616), (by decide : (0 : Nat) < 4294967296)⟩
/-- a Put that may be -/
theorem put_rf {n : Nat} {k v : ByteArray} (h : n ≠ 0) (hk : 1 ≤ k.size ∧ k.size ≤ 64) (hv : v.size ≤ 2048) : rf ⟨1, ⟨n, 1, k, v⟩, zp, ze⟩ = 0 := by
  unfold rf
  rw [if_pos (Or.inl rfl)]
  unfold rfR
  rw [if_neg (fun q => q rfl), if_neg h, if_neg (fun q => q hk), if_neg (by simp only; rw [if_neg (by decide)]; omega), if_neg (fun q => q rfl)]
/-- a Delete that may be -/
theorem del_rf {n : Nat} {k : ByteArray} (h : n ≠ 0) (hk : 1 ≤ k.size ∧ k.size ≤ 64) : rf ⟨2, ⟨n, 2, k, ByteArray.empty⟩, zp, ze⟩ = 0 := by
  unfold rf
  rw [if_pos (Or.inr rfl)]
  unfold rfR
  rw [if_neg (fun q => q rfl), if_neg h, if_neg (fun q => q hk), if_neg (by simp), if_neg (fun q => q rfl)]
theorem forg_rf : rf forg = 0 := put_rf (by decide) ⟨(by decide : 1 ≤ 1), (by decide : 1 ≤ 64)⟩ (by decide : 6 ≤ 2048)
theorem en_bytR {f : Fr} (h : rf f = 0) : Byt (en f) := by
  rw [en_eq]
  intro x hx
  rcases List.mem_cons.1 hx with rfl | hx
  · decide
  · exact byt_app (dg_byt _ _) (byt_app (wr_byt (bd_byt h)) (dg_byt _ _)) x hx
theorem forg_len : (en forg).length ≤ 100 := by
  have h1 : (bd forg).length ≤ 40 := by
    have e : bd forg = [[1], vs [999999, 1], bl ⟨#[97]⟩, bl ⟨#[102, 111, 114, 103, 101, 100]⟩].flatten := by
      unfold bd bp
      rw [if_pos (show forg.kind = 1 from rfl)]; rfl
    have h2 := vrt_ten (n := 999999) (by decide)
    have h3 := vrt_ten (n := 1) (by decide)
    rw [e]
    simp only [List.flatten_cons, List.flatten_nil, List.length_append, List.length_cons, List.length_nil, vs, List.map_cons, List.map_nil, bl_len]
    rw [show (ByteArray.mk #[97]).size = 1 from rfl, show (ByteArray.mk #[102, 111, 114, 103, 101, 100]).size = 6 from rfl]
    omega
  have h2 := (wr_len (bd forg)).2
  rw [en_len]; omega
set_option maxRecDepth 100000 in
set_option maxHeartbeats 2000000 in
theorem valueOf_is (z : Int) (w : World) (hz : (Lit.int .i64 z).wf = true) :
    Calls Try.prog 59 #[.int .i64 z] w fun e w' => ∃ t : ByteArray, t.size ≤ 500 ∧ e = .returned (.string t) ∧ Below w.heap.size w w' := by
  have HP := hd (tpick_is z 9 w (by omega) (by omega) hz)
  have hbz := bounds_i64 hz
  go_enter Try.func59, Try.ntmps59
  go_wp2_with fail
  refine Calls.mono HP.out ?_
  rintro e w' ⟨k, hk, rfl, hw'⟩
  have hw2 := hw'.symm
  subst hw2
  clear hw' HP
  go_wp2_with fail
  refine Calls.mono (tpick_is _ 40 w (by omega) (by omega) ?wf1) ?_
  case wf1 =>
    refine Go.WalkArith.wf_i64 ?_
    have h1 := Int.tdiv_nonneg (a := z) (b := 9)
    by_cases h0 : 0 ≤ z
    · rw [Int.tdiv_eq_ediv_of_nonneg h0]; omega
    · have h2 : z.tdiv 9 = -((-z) / 9) := by rw [← Int.tdiv_eq_ediv_of_nonneg (by omega), Int.neg_tdiv, Int.neg_neg]
      rw [h2]; omega
  rintro e w' ⟨n, hn, rfl, hw'⟩
  have hw2 := hw'.symm
  subst hw2
  clear hw'
  have HFV : Hid (fv forg = #[.int .i64 1, .int .u64 999999, .int .i64 1, .string ⟨#[97]⟩, .string ⟨#[102, 111, 114, 103, 101, 100]⟩, .int .u64 0, .int .i64 0, .int .i64 0, .int .i64 0, .string ⟨#[]⟩, .int .i64 0, .int .i64 0, .int .i64 0, .int .u32 0]) := rfl
  by_cases h8 : k = 8
  · subst h8
    obtain ⟨m, hmn⟩ : ∃ m : Nat, (n : Int) * 9 = (m : Int) := ⟨n * 9, by omega⟩
    have hm : m ≤ 351 := by omega
    go_wp2_with fail
    go_loopw [4, 6] (fun s i wr => ∃ (t : ByteArray) (j : Nat), j ≤ m ∧ i = .int .i64 (j : Int) ∧ s = .string t ∧ t.size = j ∧ Below w.heap.size w wr) (fun _ i _ => m - (intOf i).toNat)
    case atStart => exact ⟨_, 0, by omega, rfl, rfl, rfl, Below.refl _ _⟩
    case round =>
      obtain ⟨t, j, hj, rfl, rfl, ht, hbr⟩ := hrel
      have HT := hd ht
      have hts : t.size ≤ 400 := by omega
      have HBR := hd hbr
      have hsr := hbr.size
      clear ht hbr
      by_cases hlt : j < m
      · go_wp2_with fail
        refine Calls.mono (tpick_is _ 256 wr (by omega) (by omega) ?wf2) ?_
        case wf2 => exact wrap64_wf _
        rintro e w' ⟨x, hx, rfl, hw'⟩
        have hw2 := hw'.symm
        subst hw2
        clear hw'
        have hcv := conv_is (wr.alloc (.cells #[.int .u8 (x : Int)] 5)) (.slice (some ⟨wr.heap.size, 0, none⟩) 1 1) [x] (lit_isK .u8 256 wr #[.int .u8 (x : Int)] 5 [x] 1 rfl rfl (by simpa using hx) (by simp [maxLen]))
        have hst : (str [x]).size = 1 := str_size (by intro y hy; simp at hy; omega)
        have HST := hd hst
        have hss : (str [x]).size ≤ 1 := by omega
        clear hst
        generalize str [x] = S at *
        go_wp2_with fail
        go_roundw
        case rel => first | exact ⟨t ++ S, j + 1, by omega, by go_num, rfl, by rw [ByteArray.size_append, HT.out, HST.out], HBR.out.alloc hsr _⟩ | ((repeat apply Exists.intro); exact ⟨⟨t ++ S, j + 1, by omega, by go_num, rfl, by rw [ByteArray.size_append, HT.out, HST.out], HBR.out.alloc hsr _⟩, rfl⟩)
        case measure => simp [intOf]; omega
      · obtain rfl : j = m := by omega
        go_wp2_with fail
        go_ret
        exact ⟨t, by rw [HT.out]; omega, rfl, HBR.out⟩
  · have g8 : ((k : Int) == 8) = false := by rw [beq_eq_false_iff_ne]; omega
    obtain ⟨m, hmn⟩ : ∃ m : Nat, n = m := ⟨n, rfl⟩
    subst hmn
    obtain ⟨m, hmn⟩ : ∃ m : Nat, m = n := ⟨n, rfl⟩
    subst hmn
    go_wp2_with fail
    go_loopw [4, 6] (fun s i wr => ∃ (t : ByteArray) (j : Nat), j ≤ m ∧ i = .int .i64 (j : Int) ∧ s = .string t ∧ t.size = j ∧ Below w.heap.size w wr) (fun _ i _ => m - (intOf i).toNat)
    case atStart => exact ⟨_, 0, by omega, rfl, rfl, rfl, Below.refl _ _⟩
    case round =>
      obtain ⟨t, j, hj, rfl, rfl, ht, hbr⟩ := hrel
      have HT := hd ht
      have hts : t.size ≤ 400 := by omega
      have HBR := hd hbr
      have hsr := hbr.size
      clear ht hbr
      by_cases hlt : j < m
      · go_wp2_with fail
        refine Calls.mono (tpick_is _ 256 wr (by omega) (by omega) ?wf2) ?_
        case wf2 => exact wrap64_wf _
        rintro e w' ⟨x, hx, rfl, hw'⟩
        have hw2 := hw'.symm
        subst hw2
        clear hw'
        have hcv := conv_is (wr.alloc (.cells #[.int .u8 (x : Int)] 5)) (.slice (some ⟨wr.heap.size, 0, none⟩) 1 1) [x] (lit_isK .u8 256 wr #[.int .u8 (x : Int)] 5 [x] 1 rfl rfl (by simpa using hx) (by simp [maxLen]))
        have hst : (str [x]).size = 1 := str_size (by intro y hy; simp at hy; omega)
        have HST := hd hst
        have hss : (str [x]).size ≤ 1 := by omega
        clear hst
        generalize str [x] = S at *
        go_wp2_with fail
        go_roundw
        case rel => first | exact ⟨t ++ S, j + 1, by omega, by go_num, rfl, by rw [ByteArray.size_append, HT.out, HST.out], HBR.out.alloc hsr _⟩ | ((repeat apply Exists.intro); exact ⟨⟨t ++ S, j + 1, by omega, by go_num, rfl, by rw [ByteArray.size_append, HT.out, HST.out], HBR.out.alloc hsr _⟩, rfl⟩)
        case measure => simp [intOf]; omega
      · obtain rfl : j = m := by omega
        by_cases h6 : k = 6
        · subst h6
          have HEN := hd (encF_all forg_wf forg_rf wr)
          rw [HFV.out] at HEN
          go_wp2_with fail
          refine Calls.mono HEN.out ?_
          rintro e w3 ⟨u, rfl, j3, b3⟩
          obtain ⟨a3, c3, rfl, hc3⟩ := JK.shape (k := .u8) (M := 256) (E := 5) j3
          have hcv := conv_is w3 _ _ j3.isB
          have HSZ : Hid ((str (en forg)).size ≤ 100) := by
            show (str (en forg)).size ≤ 100
            rw [str_size (en_bytR forg_rf)]; exact forg_len
          have HB3 := hd b3
          have hss := HSZ.out
          clear b3 j3 HEN
          generalize str (en forg) = S at *
          go_wp2_with fail
          go_ret
          exact ⟨t ++ S, by rw [ByteArray.size_append, HT.out]; have := HSZ.out; omega, rfl, HBR.out.trans (HB3.out.mono hsr)⟩
        · by_cases h7 : k = 7
          · subst h7
            go_wp2_with fail
            go_ret
            exact ⟨_, by rw [ByteArray.size_append, HT.out, show (ByteArray.mk #[167, 167, 0, 0]).size = 4 from rfl]; omega, rfl, HBR.out⟩
          · have g6 : ((k : Int) == 6) = false := by rw [beq_eq_false_iff_ne]; omega
            have g7 : ((k : Int) == 7) = false := by rw [beq_eq_false_iff_ne]; omega
            go_wp2_with fail
            go_ret
            exact ⟨t, by rw [HT.out]; omega, rfl, HBR.out⟩
/-- a record that may be, whatever the numbers; its frame's body is small -/
def MayR (n : Nat) (r : Rec) : Prop := r.lsn = n ∧ (ofR r).Wf ∧ rf (ofR r) = 0 ∧ (bd (ofR r)).length ≤ 700
theorem bd_small {f : Fr} (hw : f.Wf) (h : rf f = 0) (c12 : f.kind = 1 ∨ f.kind = 2) (hv : f.r.val.size ≤ 500) : (bd f).length ≤ 700 := by
  obtain ⟨w1, w2, w3⟩ := hw
  unfold rf at h
  unfold bd bp
  rw [if_pos c12] at h
  obtain ⟨h1, h2, h3, h4, h5⟩ := rfR_ok h
  have v1 := vrt_ten w1
  have v2 := vrt_ten (n := f.r.key.size) (by have := h3.2; omega)
  have h32 := h3.2
  by_cases c1 : f.kind = 1
  · rw [if_pos c1]
    simp [vs, bl_len]; omega
  · rw [if_neg c1, if_pos (by omega)]
    simp [vs, bl_len]; omega
set_option maxRecDepth 100000 in
set_option maxHeartbeats 2000000 in
theorem recordOf_is (k y v m : Int) (n : Nat) (w : World) (hk : (Lit.int .i64 k).wf = true) (hy : (Lit.int .i64 y).wf = true) (hv : (Lit.int .i64 v).wf = true) (hn0 : n ≠ 0) (hn : n < 18446744073709551616) :
    Calls Try.prog 37 #[.agg #[.int .i64 k, .int .i64 y, .int .i64 v, .int .i64 m], .int .u64 (n : Int)] w fun e w' => ∃ r : Rec, MayR n r ∧ e = .returned (.agg #[.int .u64 (n : Int), .int .i64 r.kind, .string r.key, .string r.val]) ∧ Below w.heap.size w w' := by
  have hmx : Try.prog.follows .mixedOrders = true := by kernel_rfl
  have HP : Hid (∀ x, Calls Try.prog 45 #[.int .i64 k, .int .i64 4] x fun e w' => ∃ m : Nat, m < 4 ∧ e = .returned (.int .i64 (m : Int)) ∧ w' = x) := fun x => tpick_is k 4 x (by omega) (by omega) hk
  go_enter Try.func37, Try.ntmps37
  go_wp2_with fail
  refine Calls.mono (HP.out _) ?_
  rintro e w' ⟨c, hc, rfl, hw'⟩
  obtain ⟨W0, hW0⟩ : ∃ W0, W0 = (w.alloc (.cells #[.int .i64 k, .int .i64 y, .int .i64 v, .int .i64 m] 82)).alloc (.cells #[.int .u64 0, .int .i64 0, .string ⟨#[]⟩, .string ⟨#[]⟩] 32) := ⟨_, rfl⟩
  obtain ⟨N, hN⟩ : ∃ N, N = w.heap.size := ⟨_, rfl⟩
  have hs0 : W0.heap.size = N + 2 := by rw [hW0, hN]; simp
  have HB0 : Hid (Below w.heap.size w W0) := by rw [hW0]; exact ((Below.refl _ _).alloc (Nat.le_refl _) _).alloc (by simp) _
  have BR : Hid (Blk W0 N 82 [.int .i64 k, .int .i64 y, .int .i64 v, .int .i64 m]) := by rw [hW0, hN]; exact (Blk.new w _ _).alloc _
  have BD : Hid (Blk W0 (N + 1) 32 [.int .u64 0, .int .i64 0, .string ⟨#[]⟩, .string ⟨#[]⟩]) := by
    have := Blk.new (w.alloc (.cells #[.int .i64 k, .int .i64 y, .int .i64 v, .int .i64 m] 82)) 32 [.int .u64 0, .int .i64 0, .string ⟨#[]⟩, .string ⟨#[]⟩]
    rw [World.size_alloc, ← hN] at this
    rw [hW0]; exact this
  rw [hw', ← hW0]
  clear hw' HP hW0
  have HN := hd hN
  rw [← hN]
  clear hN
  have r1 : W0.cell? ⟨N, 1, none⟩ = some (.int .i64 y) := BR.out.cell 1 _ rfl
  have r2 : W0.cell? ⟨N, 2, none⟩ = some (.int .i64 v) := BR.out.cell 2 _ rfl
  by_cases hc0 : c = 0
  · subst hc0
    have d0 := BD.out.cell 0 _ rfl
    have d1 := BD.out.cell 1 _ rfl
    have d2 := BD.out.cell 2 _ rfl
    have d3 := BD.out.cell 3 _ rfl
    have e0 := BD.out.frozen 0
    have e1 := BD.out.frozen 1
    have e2 := BD.out.frozen 2
    have e3 := BD.out.frozen 3
    go_wp2_with fail
    refine Calls.mono (keyOf_is y W0 hy) ?_
    rintro e w' ⟨t, h1, h2, rfl, hw'⟩
    have hw2 := hw'.symm
    subst hw2
    clear hw'
    go_wp2_with fail
    have HF : Hid (Blk (setL W0 (N + 1) 0 [.int .u64 (n : Int), .int .i64 2, .string t, .string ⟨#[]⟩]) (N + 1) 32 [.int .u64 (n : Int), .int .i64 2, .string t, .string ⟨#[]⟩]) := setL_blk [.int .u64 (n : Int), .int .i64 2, .string t, .string ⟨#[]⟩] W0 0 [] [.int .u64 0, .int .i64 0, .string ⟨#[]⟩, .string ⟨#[]⟩] rfl rfl BD.out
    refine bodyPost_ret (results_cell_row rfl _ _ (N + 1) 32 #[.int .u64 (n : Int), .int .i64 2, .string t, .string ⟨#[]⟩] (0, 0) _ rfl HF.out Try.underlying32 rfl (by kernel_rfl)) rfl ?_
    refine ⟨⟨n, 2, t, ByteArray.empty⟩, ⟨rfl, ⟨hn, (by decide : (0 : Nat) < 18446744073709551616), (by decide : (0 : Nat) < 4294967296)⟩, del_rf hn0 ⟨h1, h2⟩, bd_small (f := ofR ⟨n, 2, t, ByteArray.empty⟩) ⟨hn, (by decide : (0 : Nat) < 18446744073709551616), (by decide : (0 : Nat) < 4294967296)⟩ (del_rf hn0 ⟨h1, h2⟩) (.inr rfl) (by decide : 0 ≤ 500)⟩, rfl, ?_⟩
    rw [HN.out] at *
    exact (((HB0.out.setCell (p := ⟨w.heap.size + 1, 0, none⟩) (by show w.heap.size ≤ w.heap.size + 1; omega) _).setCell (p := ⟨w.heap.size + 1, 1, none⟩) (by show w.heap.size ≤ w.heap.size + 1; omega) _).setCell (p := ⟨w.heap.size + 1, 2, none⟩) (by show w.heap.size ≤ w.heap.size + 1; omega) _).setCell (p := ⟨w.heap.size + 1, 3, none⟩) (by show w.heap.size ≤ w.heap.size + 1; omega) _
  · have hcf : ((c : Int) == 0) = false := by rw [beq_eq_false_iff_ne]; omega
    go_wp2_with fail
    go_region_with (first
      | (go_at_call 58; refine Calls.mono (keyOf_is y _ hy) ?_; rintro e w' ⟨t1, h11, h12, rfl, rfl⟩)
      | (go_at_call 59; refine Calls.mono (valueOf_is v _ hv) ?_; rintro e w5 ⟨t2, h21, rfl, hb5⟩; have q1 : w5.cell? ⟨N, 1, none⟩ = some (.int .i64 y) := (hb5.cell (p := ⟨N, 1, none⟩) (by show N < W0.heap.size; omega)).trans r1; have q2 : w5.cell? ⟨N, 2, none⟩ = some (.int .i64 v) := (hb5.cell (p := ⟨N, 2, none⟩) (by show N < W0.heap.size; omega)).trans r2; have bd5 := BD.out.below (W' := w5) (n := W0.heap.size) (by omega) ⟨hb5.os, hb5.tape, hb5.output, hb5.size, hb5.block⟩; have d0 := bd5.cell 0 _ rfl; have d1 := bd5.cell 1 _ rfl; have d2 := bd5.cell 2 _ rfl; have d3 := bd5.cell 3 _ rfl; have e0 := bd5.frozen 0; have e1 := bd5.frozen 1; have e2 := bd5.frozen 2; have e3 := bd5.frozen 3; have HBD5 := hd bd5; have HB5 := hd hb5; clear bd5 hb5))
    all_goals
      go_wp2_with fail
      have HF : Hid (Blk (setL w5 (N + 1) 0 [.int .u64 (n : Int), .int .i64 1, .string t1, .string t2]) (N + 1) 32 [.int .u64 (n : Int), .int .i64 1, .string t1, .string t2]) := setL_blk [.int .u64 (n : Int), .int .i64 1, .string t1, .string t2] w5 0 [] [.int .u64 0, .int .i64 0, .string ⟨#[]⟩, .string ⟨#[]⟩] rfl rfl HBD5.out
      refine bodyPost_ret (results_cell_row rfl _ _ (N + 1) 32 #[.int .u64 (n : Int), .int .i64 1, .string t1, .string t2] (0, 0) _ rfl HF.out Try.underlying32 rfl (by kernel_rfl)) rfl ?_
      refine ⟨⟨n, 1, t1, t2⟩, ⟨rfl, ⟨hn, (by decide : (0 : Nat) < 18446744073709551616), (by decide : (0 : Nat) < 4294967296)⟩, put_rf hn0 ⟨h11, h12⟩ (by omega), bd_small (f := ofR ⟨n, 1, t1, t2⟩) ⟨hn, (by decide : (0 : Nat) < 18446744073709551616), (by decide : (0 : Nat) < 4294967296)⟩ (put_rf hn0 ⟨h11, h12⟩ (by omega)) (.inl rfl) h21⟩, rfl, ?_⟩
      have hb5 : Below W0.heap.size W0 w5 := ⟨HB5.out.os, HB5.out.tape, HB5.out.output, HB5.out.size, HB5.out.block⟩
      have hb6 := HB0.out.trans (hb5.mono HB0.out.size)
      rw [HN.out]
      exact (((hb6.setCell (p := ⟨w.heap.size + 1, 0, none⟩) (by show w.heap.size ≤ w.heap.size + 1; omega) _).setCell (p := ⟨w.heap.size + 1, 1, none⟩) (by show w.heap.size ≤ w.heap.size + 1; omega) _).setCell (p := ⟨w.heap.size + 1, 2, none⟩) (by show w.heap.size ≤ w.heap.size + 1; omega) _).setCell (p := ⟨w.heap.size + 1, 3, none⟩) (by show w.heap.size ≤ w.heap.size + 1; omega) _
end Vt
end Go.Proofs.Ytlddogigbodilaa
