/-
  THE WALK OF vint.Encode: the varints of all numbers, one behind the other, in a row of the call's own.
  THE WALK OF frame.Body: a frame that may not be; a Put.
-/
import Derived.Test.YtabfgoojhangnaaXeam
import Derived.Test.YtabfgoojhangnaaXeal
import Derived.Test.YtabfgoojhangnaaXeac
import Derived.Test.YtabfgoojhangnaaXeaj
import Derived.Lib.ConvBytes
namespace Go.Proofs.Ytabfgoojhangnaa
open Go.RowKit
namespace Vt
theorem or128 (m : Nat) : bits .or .u8 ((m : Int) % 256) 128 = ((m % 128 + 128 : Nat) : Int) := by
  have all : ∀ c : Fin 256, bits .or .u8 (c.val : Int) 128 = ((c.val % 128 + 128 : Nat) : Int) := by decide +kernel
  have := all ⟨m % 256, by omega⟩
  simp only at this
  rw [show (m : Int) % 256 = ((m % 256 : Nat) : Int) by omega, this]
  congr 2
  omega
set_option maxRecDepth 100000 in
set_option maxHeartbeats 400000 in
theorem encode_row (b off c : Nat) (l : List Nat) (w : World) (hl : N64 l) (hb : b < w.heap.size) (hr : RowK .u64 w b off l) (hm : l.length ≤ 17592186044416) :
    Calls Try.prog 55 #[.slice (some ⟨b, off, none⟩) l.length c] w fun e w' => e = .returned (.slice (some ⟨w.heap.size, 0, none⟩) (enc l).length (enc l).length) ∧ JB w' w.heap.size (.slice (some ⟨w.heap.size, 0, none⟩) (enc l).length (enc l).length) (enc l) ∧ Below w.heap.size w w' := by
  have HC := hd (size_row b off c l w hl hr (by omega))
  have hlen := enc_len hl
  have HR := hd hr
  have HL := hd hl
  obtain ⟨i0, hi, hz0, hz1, hz2⟩ := info_parts info_u8
  clear hr hl
  generalize hcap : (enc l).length = cap at *
  have HCAP := hd hcap
  clear hcap
  go_enter Try.func55, Try.ntmps55
  go_wp2_with fail
  refine Calls.mono HC.out ?_
  rintro e w' ⟨rfl, rfl⟩
  clear HC
  go_wp2_with (at_make; refine wpList_make_own _ rfl _ _ 22 rfl w'.heap.size 5 i0 (.int .u8 0) 1 Try.underlying22 hi hz0 hz1 .i64 .i64 (cap : Int) cap rfl rfl rfl (by rw [hz2]; omega) (by unfold maxLen; omega) (Nat.le_refl _) ?_; intro w1 hown hgrow)
  have HB1 : Hid (Below w'.heap.size w' w1) := (Below.refl _ _).grown hgrow (Nat.le_refl _) (fun k hk => by cases hk)
  have HO1 : Hid (JB w1 w'.heap.size (.slice (some ⟨w'.heap.size, 0, none⟩) 0 cap) []) := ⟨byt_nil, hown⟩
  clear hown hgrow
  go_loopw [3, 11] (fun v i wr => ∃ k : Nat, k ≤ l.length ∧ i = .int .i64 (k : Int) ∧ v = .slice (some ⟨w'.heap.size, 0, none⟩) (enc (l.take k)).length cap ∧ JB wr w'.heap.size (.slice (some ⟨w'.heap.size, 0, none⟩) (enc (l.take k)).length cap) (enc (l.take k)) ∧ Below w'.heap.size w' wr) (fun _ i _ => l.length - (intOf i).toNat)
  case atStart => exact ⟨0, by omega, rfl, rfl, HO1.out, HB1.out⟩
  case round =>
    clear HO1 HB1
    obtain ⟨k, hk, rfl, rfl, hJ, hB⟩ := hrel
    have HJ := hd hJ
    have HB := hd hB
    clear hJ hB
    by_cases hlt : k < l.length
    · have hc : wr.cell? ⟨b, off + k, none⟩ = some (.int .u64 ((l.getD k 0 : Nat) : Int)) := by
        rw [HB.out.cell hb]; exact HR.out k hlt
      have hx := HL.out.at k
      have HE := hd (enc_succ hlt)
      have HEC : Hid ((enc (l.take (k + 1))).length ≤ cap) := by
        show (enc (l.take (k + 1))).length ≤ cap
        rw [← HCAP.out]
        have : enc l = enc (l.take (k + 1)) ++ enc (l.drop (k + 1)) := by rw [← enc_append, List.take_append_drop]
        rw [this, List.length_append]; omega
      generalize l.getD k 0 = x at *
      generalize henc : enc (l.take k) = acc at *
      go_wp2_with fail
      go_loopw [3, 5] (fun v y wi => ∃ (m : Nat) (pre : List Nat), m < 18446744073709551616 ∧ y = .int .u64 (m : Int) ∧ vrt x = pre ++ vrt m ∧ v = .slice (some ⟨w'.heap.size, 0, none⟩) (acc.length + pre.length) cap ∧ JB wi w'.heap.size (.slice (some ⟨w'.heap.size, 0, none⟩) (acc.length + pre.length) cap) (acc ++ pre) ∧ Below w'.heap.size w' wi) (fun _ y _ => (intOf y).toNat)
      case atStart => exact ⟨x, [], hx, rfl, rfl, rfl, by simpa using HJ.out, HB.out⟩
      case round =>
        clear HJ HB hc
        obtain ⟨m, pre, hm2, rfl, hv, rfl, hJ, hB⟩ := hrel
        have HJ := hd hJ
        have HB := hd hB
        have HV := hd hv
        clear hJ hB hv
        have HO : Hid (wr.ownsRow w'.heap.size 5 1 (.slice (some ⟨w'.heap.size, 0, none⟩) (acc.length + pre.length) cap) (acc.length + pre.length) (bs (acc ++ pre))) := by
          have := HJ.out.2
          rw [List.length_append] at this; exact this
        have hfit : acc.length + pre.length + 1 ≤ cap := by
          have h1 := HEC.out
          have h2 := vrt_len m
          rw [HE.out, HV.out, List.length_append, List.length_append] at h1
          omega
        by_cases h128 : 128 ≤ m
        · go_wp2_with (at_builtin; refine wpList_append_fits _ rfl _ _ 22 rfl w'.heap.size 5 i0 1 Try.underlying22 hi hz1 w'.heap.size (acc.length + pre.length) cap (bs (acc ++ pre)) rfl (HO.out.alloc _) ⟨wr.heap.size, 0, none⟩ 1 1 [_] rfl rfl (cell_one_new _ _ _) (by simp [Value.oneCell']) hfit ?_; intro w2 hown2 hgrow2)
          have HO2 := hd (jb_snoc (or128 m) (by omega) HJ.out.1 (by rw [List.length_append]) hown2)
          have HB2 := hd ((HB.out.alloc HB.out.size _).grown hgrow2 (by have := HB.out.size; simp; omega) (fun k hk => by cases hk; exact Nat.le_refl _))
          clear hown2 hgrow2 HO
          go_roundw
          case rel =>
            refine ⟨m / 128, pre ++ [m % 128 + 128], by omega, by go_num, ?_, ?_, ?_, HB2.out⟩
            · rw [HV.out, vrt_big h128, List.append_assoc]; rfl
            · rw [List.length_append]; rfl
            · rw [← List.append_assoc, List.length_append]; exact HO2.out
          case measure => simp [intOf]; omega
        · go_wp2_with (at_builtin; refine wpList_append_fits _ rfl _ _ 22 rfl w'.heap.size 5 i0 1 Try.underlying22 hi hz1 w'.heap.size (acc.length + pre.length) cap (bs (acc ++ pre)) rfl (HO.out.alloc _) ⟨wr.heap.size, 0, none⟩ 1 1 [_] rfl rfl (cell_one_new _ _ _) (by simp [Value.oneCell']) hfit ?_; intro w2 hown2 hgrow2)
          have HO2 := hd (jb_snoc (y := m) (by omega) (by omega) HJ.out.1 (by rw [List.length_append]) hown2)
          have HB2 := hd ((HB.out.alloc HB.out.size _).grown hgrow2 (by have := HB.out.size; simp; omega) (fun k hk => by cases hk; exact Nat.le_refl _))
          have HF : Hid (acc ++ pre ++ [m] = enc (l.take (k + 1))) := by
            show acc ++ pre ++ [m] = enc (l.take (k + 1))
            rw [HE.out, HV.out, vrt_small (by omega), List.append_assoc]
          have HFL : Hid (acc.length + pre.length + 1 = (enc (l.take (k + 1))).length) := by
            show acc.length + pre.length + 1 = (enc (l.take (k + 1))).length
            rw [← HF.out]; simp; omega
          rw [HF.out, HFL.out] at HO2
          clear hown2 hgrow2 HO
          rw [HFL.out]
          go_roundw
          case rel => exact ⟨k + 1, by omega, by go_num, rfl, HO2.out, HB2.out⟩
          case measure => simp [intOf]; omega
    · obtain rfl : k = l.length := by omega
      rw [List.take_length, HCAP.out] at HJ
      go_wp2
      go_ret
      exact ⟨by rw [show (enc (l.take l.length)).length = cap by rw [List.take_length]; exact HCAP.out]; rfl, HJ.out, HB.out⟩
set_option maxRecDepth 100000 in
set_option maxHeartbeats 400000 in
theorem encode_nil (a : Option Addr) (c : Nat) (w : World) :
    Calls Try.prog 55 #[.slice a 0 c] w fun e w' => e = .returned (.slice (some ⟨w.heap.size, 0, none⟩) 0 0) ∧ JB w' w.heap.size (.slice (some ⟨w.heap.size, 0, none⟩) 0 0) [] ∧ Below w.heap.size w w' := by
  obtain ⟨i0, hi, hz0, hz1, hz2⟩ := info_parts info_u8
  go_enter Try.func55, Try.ntmps55
  go_wp2_with fail
  refine Calls.mono (size_nil a c w) ?_
  rintro e w' ⟨rfl, rfl⟩
  go_wp2_with (at_make; refine wpList_make_own _ rfl _ _ 22 rfl w'.heap.size 5 i0 (.int .u8 0) 1 Try.underlying22 hi hz0 hz1 .i64 .i64 0 0 rfl rfl rfl (by rw [hz2]; omega) (by unfold maxLen; omega) (Nat.le_refl _) ?_; intro w1 hown hgrow)
  have HB1 : Hid (Below w'.heap.size w' w1) := (Below.refl _ _).grown hgrow (Nat.le_refl _) (fun k hk => by cases hk)
  have HO1 : Hid (JB w1 w'.heap.size (.slice (some ⟨w'.heap.size, 0, none⟩) 0 0) []) := ⟨byt_nil, hown⟩
  clear hown hgrow
  go_loopw [3, 11] (fun v i wr => i = .int .i64 0 ∧ v = .slice (some ⟨w'.heap.size, 0, none⟩) 0 0 ∧ wr = w1) (fun _ _ _ => 0)
  case atStart => exact ⟨rfl, rfl, rfl⟩
  case round =>
    obtain ⟨rfl, rfl, rfl⟩ := hrel
    go_wp2
    go_ret
    exact ⟨rfl, HO1.out, HB1.out⟩
theorem encode_is (v : Value) (l : List Nat) (w : World) (h : IsN w v l) (hm : l.length ≤ 17592186044416) :
    Calls Try.prog 55 #[v] w fun e w' => e = .returned (.slice (some ⟨w.heap.size, 0, none⟩) (enc l).length (enc l).length) ∧ JB w' w.heap.size (.slice (some ⟨w.heap.size, 0, none⟩) (enc l).length (enc l).length) (enc l) ∧ Below w.heap.size w w' := by
  obtain ⟨hl, _, ⟨rfl, a, c, rfl⟩ | ⟨b, off, c, rfl, _, _, hb, hr⟩⟩ := h
  · exact encode_nil a c w
  · exact encode_row b off c l w hl hb hr hm
end Vt
end Go.Proofs.Ytabfgoojhangnaa
namespace Go.Proofs.Ytabfgoojhangnaa
open Go.RowKit
namespace Vt
theorem ps_lit (W : World) (vl : List Value) (ls : List (List Nat)) (t : TypeId) (hl : vl.length = ls.length) (h : ∀ i v, vl[i]? = some v → IsB W v (ls.getD i [])) : Ps (W.alloc (.cells vl.toArray t)) W.heap.size 0 ls := by
  intro i hi
  have hv : vl[i]? = some vl[i] := List.getElem?_eq_getElem (by omega)
  refine ⟨vl[i], ?_, (h i _ hv).below ((Below.refl _ _).alloc (Nat.le_refl _) _)⟩
  rw [Nat.zero_add, World.cell?_alloc_new]
  simp
theorem JB.base {w : World} {base base' : Nat} {v : Value} {l : List Nat} (h : JB w base v l) (hb : base' ≤ base) : JB w base' v l := by
  refine ⟨h.1, h.2.1, ?_⟩
  rcases h.2.2 with h | ⟨g, cap, cur, h1, h2, h3⟩
  · exact .inl h
  · exact .inr ⟨g, cap, cur, h1, by omega, h3⟩
/-- a string's bytes, in new memory -/
theorem conv_bytes (w : World) (s : ByteArray) (hs : s.size ≤ maxLen) : ∃ c w', (convert 9 22 (.string s)).run Try.prog w = .ok (.slice (some ⟨w.heap.size, 0, none⟩) s.size c) w' ∧ IsB w' (.slice (some ⟨w.heap.size, 0, none⟩) s.size c) (bl s) ∧ Below w.heap.size w w' := by
  refine ⟨_, _, Lib.run_convert_string_bytes w _ _ 5 s Try.underlying9 Try.underlying22 Try.underlying5, ⟨bl_byt s, by rw [bl_len]; exact hs, .inr ⟨w.heap.size, 0, _, by rw [bl_len], by rw [bl_len]; exact grownCap_ge _ _ _ _, grownCap_le_maxLen _ _ _ _ hs, by rw [Lib.bytesWorld_size]; omega, fun j hj => ?_⟩⟩, ⟨?_, ?_, ?_, by rw [Lib.bytesWorld_size]; omega, fun i hi => Lib.bytesWorld_at_old w _ s i hi⟩⟩
  · rw [bl_len] at hj
    rw [Nat.zero_add]
    have h := Lib.bytesWorld_cell w 5 s j hj
    rw [h]
    unfold bl
    rw [List.getD_eq_getElem?_getD, List.getD_eq_getElem?_getD, List.getElem?_map]
    cases s.data.toList[j]? <;> rfl
  · simp [Lib.bytesWorld, World.freeze, World.alloc, World.drew, -World.alloc_eq, -World.drew_eq]
  · simp [Lib.bytesWorld, World.freeze, World.alloc, World.drew, -World.alloc_eq, -World.drew_eq]
  · simp [Lib.bytesWorld, World.freeze, World.alloc, World.drew, -World.alloc_eq, -World.drew_eq]
set_option maxRecDepth 100000 in
set_option maxHeartbeats 1000000 in
theorem body_no (f : Fr) (w : World) (h : rf f ≠ 0) : Calls Try.prog 38 #[.agg (fv f)] w fun e w' => e = .returned (.tuple #[.slice none 0 0, .int .i64 (rf f : Int)]) ∧ Below w.heap.size w w' := by
  have HC := hd (refusal_is f)
  have hne : (((rf f : Nat) : Int) != 0) = true := by simp; omega
  generalize rf f = code at *
  clear h
  obtain ⟨k, ⟨rl, rk, rkey, rval⟩, ⟨pl, pk, pa, pn, pkey⟩, ⟨ec, eb, ef, es⟩⟩ := f
  simp only [fv] at *
  go_enter Try.func38, Try.ntmps38
  go_wp2_with fail
  refine Calls.mono (HC.out _) ?_
  rintro e w1 ⟨rfl, hb⟩
  have HB := hd (below_alloc1 hb)
  clear hb
  go_wp2_with fail
  go_ret2
  exact ⟨rfl, HB.out⟩
set_option maxRecDepth 100000 in
set_option maxHeartbeats 1000000 in
theorem body_1 (lsn : Nat) (key val : ByteArray) (w : World) (hl : lsn < 18446744073709551616) (h : rf (ofR ⟨lsn, 1, key, val⟩) = 0) :
    Calls Try.prog 38 #[.agg (fv (ofR ⟨lsn, 1, key, val⟩))] w fun e w' => ∃ u, e = .returned (.tuple #[u, .int .i64 0]) ∧ JB w' w.heap.size u (bd (ofR ⟨lsn, 1, key, val⟩)) ∧ Below w.heap.size w w' := by
  have HC := hd (refusal_is (ofR ⟨lsn, 1, key, val⟩))
  obtain ⟨hb1, hb2⟩ := bd_len (f := ofR ⟨lsn, 1, key, val⟩) ⟨hl, by show 0 < 18446744073709551616; omega, by show 0 < 4294967296; omega⟩ h
  have hk : key.size ≤ 64 ∧ val.size ≤ 2048 := by
    have h' := h
    unfold rf at h'
    rw [if_pos (.inl rfl)] at h'
    obtain ⟨_, _, q3, q4, _⟩ := rfR_ok h'
    exact ⟨q3.2, q4⟩
  have HBP : Hid (bp (ofR ⟨lsn, 1, key, val⟩) = [[1], enc [lsn, key.size], bl key, bl val]) := by
    show bp (ofR ⟨lsn, 1, key, val⟩) = _
    unfold bp ofR
    rw [if_pos rfl]; rfl
  have HBD : Hid (bd (ofR ⟨lsn, 1, key, val⟩) = [[1], enc [lsn, key.size], bl key, bl val].flatten) := by
    show bd _ = _
    unfold bd; rw [HBP.out]
  rw [HBD.out] at hb1 hb2 ⊢
  obtain ⟨hk1, hk2⟩ := hk
  rw [h] at HC
  clear h HBP HBD
  simp only [fv, ofR, zp, ze] at *
  go_enter Try.func38, Try.ntmps38
  go_wp2_with fail
  refine Calls.mono (HC.out _) ?_
  rintro e w1 ⟨rfl, hb⟩
  have HX : Hid (Blk w1 w.heap.size 54 [.int .i64 1, .int .u64 (lsn : Int), .int .i64 1, .string key, .string val, .int .u64 0, .int .i64 0, .int .i64 0, .int .i64 0, .string ByteArray.empty, .int .i64 0, .int .i64 0, .int .i64 0, .int .u32 0]) := (Blk.new w _ _).keep hb
  have HB := hd (below_alloc1 hb)
  have hs1 := hb.size
  rw [World.size_alloc] at hs1
  clear hb HC
  have c0 := HX.out.cell 0 _ rfl
  have c1 := HX.out.cell 1 _ rfl
  have c2 := HX.out.cell 2 _ rfl
  have c3 := HX.out.cell 3 _ rfl
  have c4 := HX.out.cell 4 _ rfl
  clear HX
  have n1 : w.heap.size < w1.heap.size := by omega
  have n2 : ¬ w.heap.size = w1.heap.size := by omega
  have n3 : ¬ w1.heap.size = w.heap.size := by omega
  have n4 : ¬ w.heap.size = w1.heap.size + 1 := by omega
  have n5 : ¬ w1.heap.size + 1 = w.heap.size := by omega
  have n6 : w.heap.size < w1.heap.size + 1 := by omega
  go_wp2_with fail
  obtain ⟨X, hX⟩ : ∃ X, X = (w1.alloc (.cells #[.int .u8 1] 5)).alloc (.cells #[.int .u64 (lsn : Int), .int .i64 1, .string key, .string val] 45) := ⟨_, rfl⟩
  have HXS : Hid (X.heap.size = w1.heap.size + 1 + 1) := by show X.heap.size = _; rw [hX]; simp
  have HXB : Hid (Below w.heap.size w X) := by rw [hX]; exact (HB.out.alloc (by omega) _).alloc (by simp; omega) _
  have HK : Hid (IsB X (.slice (some ⟨w1.heap.size, 0, none⟩) 1 1) [1]) := by
    rw [hX]
    exact (lit_isK_at .u8 256 w1 #[.int .u8 1] 5 [1] 1 _ rfl rfl rfl (by simp) (by simp [maxLen])).below ((Below.refl _ _).alloc (Nat.le_refl _) _)
  have HR : Hid (Blk X (w1.heap.size + 1) 45 [.int .u64 (lsn : Int), .int .i64 1, .string key, .string val]) := by
    rw [hX]
    have := Blk.new (w1.alloc (.cells #[.int .u8 1] 5)) 45 [.int .u64 (lsn : Int), .int .i64 1, .string key, .string val]
    rw [World.size_alloc] at this
    exact this
  rw [← hX]
  have hlit := lit_isK_at .u64 18446744073709551616 X #[.int .u64 (lsn : Int), .int .u64 (key.size : Int)] 43 [lsn, key.size] 2 (w1.heap.size + 1 + 1) HXS.out rfl rfl (by intro x hx; simp at hx; omega) (by simp [maxLen])
  refine Calls.mono (encode_is _ [lsn, key.size] _ hlit (by simp)) ?_
  rintro e w2 ⟨rfl, hj, hb⟩
  have HB2 : Hid (Below X.heap.size X w2) := below_alloc1 hb
  have HJ := hd hj.isB
  have hs2 := HB2.out.size
  clear hb hj hlit hX c0 c1 c2 c3 c4
  have HK2 := hd (HK.out.below HB2.out)
  have HR2 := hd (HR.out.keep HB2.out)
  have HXB2 : Hid (Below w.heap.size w w2) := HXB.out.trans (HB2.out.mono HXB.out.size)
  rw [World.size_alloc] at HJ ⊢
  clear HK HR HXB HB2 HB
  obtain ⟨cc1, w3, hc1, hi1, hbb1⟩ := conv_bytes w2 key (by unfold maxLen; omega)
  have d2 := HR2.out.cell 2 _ rfl
  have HR3 := hd (HR2.out.keep hbb1)
  have d3 := HR3.out.cell 3 _ rfl
  have HI1 := hd hi1
  have HJ3 := hd (HJ.out.below hbb1)
  have HK3 := hd (HK2.out.below hbb1)
  have HB3 : Hid (Below w.heap.size w w3) := HXB2.out.trans (hbb1.mono HXB2.out.size)
  clear hi1 hbb1 HR2 HJ HK2 HXB2
  obtain ⟨cc2, w4, hc2, hi2, hbb2⟩ := conv_bytes w3 val (by unfold maxLen; omega)
  have HI2 := hd hi2
  have HI14 := hd (HI1.out.below hbb2)
  have HJ4 := hd (HJ3.out.below hbb2)
  have HK4 := hd (HK3.out.below hbb2)
  have HB4 : Hid (Below w.heap.size w w4) := HB3.out.trans (hbb2.mono HB3.out.size)
  clear hi2 hbb2 HI1 HJ3 HK3 HB3 HR3
  have HP := hd (ps_lit w4 [.slice (some ⟨w1.heap.size, 0, none⟩) 1 1, .slice (some ⟨X.heap.size + 1, 0, none⟩) (enc [lsn, key.size]).length (enc [lsn, key.size]).length, .slice (some ⟨w2.heap.size, 0, none⟩) key.size cc1, .slice (some ⟨w3.heap.size, 0, none⟩) val.size cc2] [[1], enc [lsn, key.size], bl key, bl val] 22 rfl (by
    intro i v hv
    match i, hv with
    | 0, hv => cases hv; exact HK4.out
    | 1, hv => cases hv; exact HJ4.out
    | 2, hv => cases hv; exact HI14.out
    | 3, hv => cases hv; exact HI2.out
    | i + 4, hv => simp at hv))
  have HCC := hd (concat_row w4.heap.size 0 4 _ _ (by simp) (by simp) HP.out (by omega) (by omega))
  clear HP HI2 HI14 HJ4 HK4
  go_wp2_with fail
  refine Calls.mono HCC.out ?_
  rintro e w5 ⟨u, rfl, hj5, hb5⟩
  have HJ5 := hd (hj5.base (base' := w.heap.size) (by have := HB4.out.size; rw [World.size_alloc]; omega))
  have HB5 : Hid (Below w.heap.size w w5) := HB4.out.trans ((below_alloc1 hb5).mono HB4.out.size)
  clear hj5 hb5 HCC
  go_wp2_with fail
  go_ret2
  exact ⟨u, rfl, HJ5.out, HB5.out⟩
end Vt
end Go.Proofs.Ytabfgoojhangnaa
