/-
  THE WALK OF frame.Body: a frame that may not be; a Put.
  THE WALK OF frame.Encode, where Body gives the body.
-/
import Derived.Test.YtnjhbidialngmaaXhac
import Derived.Test.YtnjhbidialngmaaXhad
import Derived.Test.YtnjhbidialngmaaXhae
import Derived.Lib.ConvBytes
import Derived.Test.YtnjhbidialngmaaXhag
import Derived.Test.YtnjhbidialngmaaXhak
namespace Go.Proofs.Ytnjhbidialngmaa
open Go.RowKit
namespace Vt
theorem ps_lit (W : World) (vl : List Value) (ls : List (List Nat)) (t : TypeId) (hl : vl.length = ls.length) (h : ∀ i v, vl[i]? = some v → IsB W v (ls.getD i [])) : Ps (W.alloc (.cells vl.toArray t)) W.heap.size 0 ls := by
  intro i hi
  have hv : vl[i]? = some vl[i] := List.getElem?_eq_getElem (by omega)
  refine ⟨vl[i], ?_, (h i _ hv).below ((Below.refl _ _).alloc (Nat.le_refl _) _)⟩
  rw [Nat.zero_add, World.cell?_alloc_new]
  simp
theorem JB.base {w : World} {base base' : Nat} {v : Value} {l : List Nat} (h : JB w base v l) (hb : base' ≤ base) : JB w base' v l := by
  refine ⟨h.1, h.2.1, ?_⟩
  rcases h.2.2 with h | ⟨g, cap, cur, h1, h2, h3⟩
  · exact .inl h
  · exact .inr ⟨g, cap, cur, h1, by omega, h3⟩
/-- a string's bytes, in new memory -/
theorem conv_bytes (w : World) (s : ByteArray) (hs : s.size ≤ maxLen) : ∃ c w', (convert 9 36 (.string s)).run Try.prog w = .ok (.slice (some ⟨w.heap.size, 0, none⟩) s.size c) w' ∧ IsB w' (.slice (some ⟨w.heap.size, 0, none⟩) s.size c) (bl s) ∧ Below w.heap.size w w' := by
  refine ⟨_, _, Lib.run_convert_string_bytes w _ _ 5 s Try.underlying9 Try.underlying36 Try.underlying5, ⟨bl_byt s, by rw [bl_len]; exact hs, .inr ⟨w.heap.size, 0, _, by rw [bl_len], by rw [bl_len]; exact grownCap_ge _ _ _ _, grownCap_le_maxLen _ _ _ _ hs, by rw [Lib.bytesWorld_size]; omega, fun j hj => ?_⟩⟩, ⟨?_, ?_, ?_, by rw [Lib.bytesWorld_size]; omega, fun i hi => Lib.bytesWorld_at_old w _ s i hi⟩⟩
  · rw [bl_len] at hj
    rw [Nat.zero_add]
    have h := Lib.bytesWorld_cell w 5 s j hj
    rw [h]
    unfold bl
    rw [List.getD_eq_getElem?_getD, List.getD_eq_getElem?_getD, List.getElem?_map]
    cases s.data.toList[j]? <;> rfl
  · simp [Lib.bytesWorld, World.freeze, World.alloc, World.drew, -World.alloc_eq, -World.drew_eq]
  · simp [Lib.bytesWorld, World.freeze, World.alloc, World.drew, -World.alloc_eq, -World.drew_eq]
  · simp [Lib.bytesWorld, World.freeze, World.alloc, World.drew, -World.alloc_eq, -World.drew_eq]
set_option maxRecDepth 100000 in
set_option maxHeartbeats 1000000 in
theorem body_1 (lsn : Nat) (key val : ByteArray) (w : World) (hl : lsn < 18446744073709551616) (h : rf (ofR ⟨lsn, 1, key, val⟩) = 0) :
    Calls Try.prog 6 #[.agg (fv (ofR ⟨lsn, 1, key, val⟩))] w fun e w' => ∃ u, e = .returned (.tuple #[u, .int .i64 0]) ∧ JB w' w.heap.size u (bd (ofR ⟨lsn, 1, key, val⟩)) ∧ Below w.heap.size w w' := by
  have HC := hd (refusal_is (ofR ⟨lsn, 1, key, val⟩))
  obtain ⟨hb1, hb2⟩ := bd_len (f := ofR ⟨lsn, 1, key, val⟩) ⟨hl, by show 0 < 18446744073709551616; omega, by show 0 < 4294967296; omega⟩ h
  have hk : key.size ≤ 64 ∧ val.size ≤ 2048 := by
    have h' := h
    unfold rf at h'
    rw [if_pos (.inl rfl)] at h'
    obtain ⟨_, _, q3, q4, _⟩ := rfR_ok h'
    exact ⟨q3.2, q4⟩
  have HBP : Hid (bp (ofR ⟨lsn, 1, key, val⟩) = [[1], enc [lsn, key.size], bl key, bl val]) := by
    show bp (ofR ⟨lsn, 1, key, val⟩) = _
    unfold bp ofR
    rw [if_pos rfl]; rfl
  have HBD : Hid (bd (ofR ⟨lsn, 1, key, val⟩) = [[1], enc [lsn, key.size], bl key, bl val].flatten) := by
    show bd _ = _
    unfold bd; rw [HBP.out]
  rw [HBD.out] at hb1 hb2 ⊢
  obtain ⟨hk1, hk2⟩ := hk
  rw [h] at HC
  clear h HBP HBD
  simp only [fv, ofR, zp, ze] at *
  go_enter Try.func6, Try.ntmps6
  go_wp2_with fail
  refine Calls.mono (HC.out _) ?_
  rintro e w1 ⟨rfl, hb⟩
  have HX : Hid (Blk w1 w.heap.size 34 [.int .i64 1, .int .u64 (lsn : Int), .int .i64 1, .string key, .string val, .int .u64 0, .int .i64 0, .int .i64 0, .int .i64 0, .string ByteArray.empty, .int .i64 0, .int .i64 0, .int .i64 0, .int .u32 0]) := (Blk.new w _ _).keep hb
  have HB := hd (below_alloc1 hb)
  have hs1 := hb.size
  rw [World.size_alloc] at hs1
  clear hb HC
  have c0 := HX.out.cell 0 _ rfl
  have c1 := HX.out.cell 1 _ rfl
  have c2 := HX.out.cell 2 _ rfl
  have c3 := HX.out.cell 3 _ rfl
  have c4 := HX.out.cell 4 _ rfl
  clear HX
  have n1 : w.heap.size < w1.heap.size := by omega
  have n2 : ¬ w.heap.size = w1.heap.size := by omega
  have n3 : ¬ w1.heap.size = w.heap.size := by omega
  have n4 : ¬ w.heap.size = w1.heap.size + 1 := by omega
  have n5 : ¬ w1.heap.size + 1 = w.heap.size := by omega
  have n6 : w.heap.size < w1.heap.size + 1 := by omega
  go_wp2_with fail
  obtain ⟨X, hX⟩ : ∃ X, X = (w1.alloc (.cells #[.int .u8 1] 5)).alloc (.cells #[.int .u64 (lsn : Int), .int .i64 1, .string key, .string val] 25) := ⟨_, rfl⟩
  have HXS : Hid (X.heap.size = w1.heap.size + 1 + 1) := by show X.heap.size = _; rw [hX]; simp
  have HXB : Hid (Below w.heap.size w X) := by rw [hX]; exact (HB.out.alloc (by omega) _).alloc (by simp; omega) _
  have HK : Hid (IsB X (.slice (some ⟨w1.heap.size, 0, none⟩) 1 1) [1]) := by
    rw [hX]
    exact (lit_isK_at .u8 256 w1 #[.int .u8 1] 5 [1] 1 _ rfl rfl rfl (by simp) (by simp [maxLen])).below ((Below.refl _ _).alloc (Nat.le_refl _) _)
  have HR : Hid (Blk X (w1.heap.size + 1) 25 [.int .u64 (lsn : Int), .int .i64 1, .string key, .string val]) := by
    rw [hX]
    have := Blk.new (w1.alloc (.cells #[.int .u8 1] 5)) 25 [.int .u64 (lsn : Int), .int .i64 1, .string key, .string val]
    rw [World.size_alloc] at this
    exact this
  rw [← hX]
  have hlit := lit_isK_at .u64 18446744073709551616 X #[.int .u64 (lsn : Int), .int .u64 (key.size : Int)] 23 [lsn, key.size] 2 (w1.heap.size + 1 + 1) HXS.out rfl rfl (by intro x hx; simp at hx; omega) (by simp [maxLen])
  refine Calls.mono (encode_is _ [lsn, key.size] _ hlit (by simp)) ?_
  rintro e w2 ⟨rfl, hj, hb⟩
  have HB2 : Hid (Below X.heap.size X w2) := below_alloc1 hb
  have HJ := hd hj.isB
  have hs2 := HB2.out.size
  clear hb hj hlit hX c0 c1 c2 c3 c4
  have HK2 := hd (HK.out.below HB2.out)
  have HR2 := hd (HR.out.keep HB2.out)
  have HXB2 : Hid (Below w.heap.size w w2) := HXB.out.trans (HB2.out.mono HXB.out.size)
  rw [World.size_alloc] at HJ ⊢
  clear HK HR HXB HB2 HB
  obtain ⟨cc1, w3, hc1, hi1, hbb1⟩ := conv_bytes w2 key (by unfold maxLen; omega)
  have d2 := HR2.out.cell 2 _ rfl
  have HR3 := hd (HR2.out.keep hbb1)
  have d3 := HR3.out.cell 3 _ rfl
  have HI1 := hd hi1
  have HJ3 := hd (HJ.out.below hbb1)
  have HK3 := hd (HK2.out.below hbb1)
  have HB3 : Hid (Below w.heap.size w w3) := HXB2.out.trans (hbb1.mono HXB2.out.size)
  clear hi1 hbb1 HR2 HJ HK2 HXB2
  obtain ⟨cc2, w4, hc2, hi2, hbb2⟩ := conv_bytes w3 val (by unfold maxLen; omega)
  have HI2 := hd hi2
  have HI14 := hd (HI1.out.below hbb2)
  have HJ4 := hd (HJ3.out.below hbb2)
  have HK4 := hd (HK3.out.below hbb2)
  have HB4 : Hid (Below w.heap.size w w4) := HB3.out.trans (hbb2.mono HB3.out.size)
  clear hi2 hbb2 HI1 HJ3 HK3 HB3 HR3
  have HP := hd (ps_lit w4 [.slice (some ⟨w1.heap.size, 0, none⟩) 1 1, .slice (some ⟨X.heap.size + 1, 0, none⟩) (enc [lsn, key.size]).length (enc [lsn, key.size]).length, .slice (some ⟨w2.heap.size, 0, none⟩) key.size cc1, .slice (some ⟨w3.heap.size, 0, none⟩) val.size cc2] [[1], enc [lsn, key.size], bl key, bl val] 36 rfl (by
    intro i v hv
    match i, hv with
    | 0, hv => cases hv; exact HK4.out
    | 1, hv => cases hv; exact HJ4.out
    | 2, hv => cases hv; exact HI14.out
    | 3, hv => cases hv; exact HI2.out
    | i + 4, hv => simp at hv))
  have HCC := hd (concat_row w4.heap.size 0 4 _ _ (by simp) (by simp) HP.out (by omega) (by omega))
  clear HP HI2 HI14 HJ4 HK4
  go_wp2_with fail
  refine Calls.mono HCC.out ?_
  rintro e w5 ⟨u, rfl, hj5, hb5⟩
  have HJ5 := hd (hj5.base (base' := w.heap.size) (by have := HB4.out.size; rw [World.size_alloc]; omega))
  have HB5 : Hid (Below w.heap.size w w5) := HB4.out.trans ((below_alloc1 hb5).mono HB4.out.size)
  clear hj5 hb5 HCC
  go_wp2_with fail
  go_ret2
  exact ⟨u, rfl, HJ5.out, HB5.out⟩
end Vt
end Go.Proofs.Ytnjhbidialngmaa
namespace Go.Proofs.Ytnjhbidialngmaa
open Go.RowKit
namespace Vt
/-- a frame's bytes, in their parts -/
def ep (f : Fr) : List (List Nat) := [[167], dg 3 (wr (bd f)).length, wr (bd f), dg 5 (Crc.go 0 (dg 3 (wr (bd f)).length ++ wr (bd f)))]
def en (f : Fr) : List Nat := (ep f).flatten
theorem en_len (f : Fr) : (en f).length = (wr (bd f)).length + 9 := by
  unfold en ep; simp [dg_len]; omega
def BodyOk (f : Fr) : Prop := ∀ w, Calls Try.prog 6 #[.agg (fv f)] w fun e w' => ∃ u, e = .returned (.tuple #[u, .int .i64 0]) ∧ JB w' w.heap.size u (bd f) ∧ Below w.heap.size w w'
set_option maxRecDepth 100000 in
set_option maxHeartbeats 1000000 in
theorem encF_ok (f : Fr) (w : World) (hw : f.Wf) (h : rf f = 0) (hB : BodyOk f) : Calls Try.prog 7 #[.agg (fv f)] w fun e w' => ∃ u, e = .returned (.tuple #[u, .int .i64 0]) ∧ JB w' w.heap.size u (en f) ∧ Below w.heap.size w w' := by
  obtain ⟨hb1, hb2⟩ := bd_len hw h
  have hlen := (wr_len (bd f)).2
  have HEN : Hid (en f = [[167], dg 3 (wr (bd f)).length, wr (bd f), dg 5 (Crc.go 0 (dg 3 (wr (bd f)).length ++ wr (bd f)))].flatten) := rfl
  have HEL := hd (en_len f)
  unfold BodyOk at hB
  have HC := hd hB
  have hcr := Crc.go_lt 0 (dg 3 (wr (bd f)).length ++ wr (bd f))
  clear hB hw h
  rw [HEN.out] at HEL ⊢
  generalize hs : Crc.go 0 (dg 3 (wr (bd f)).length ++ wr (bd f)) = S at *
  have HS := hd hs
  generalize bd f = b at *
  have HP3 : Hid ((wr b).length < 128 ^ 3) := by
    show (wr b).length < 128 ^ 3
    have : (128 : Nat) ^ 3 = 2097152 := by decide
    omega
  have HP5 : Hid (S < 128 ^ 5) := by
    show S < 128 ^ 5
    have : (128 : Nat) ^ 5 = 34359738368 := by decide
    omega
  clear hs HEN
  obtain ⟨k, ⟨rl, rk, rkey, rval⟩, ⟨pl, pk, pa, pn, pkey⟩, ⟨ec, eb, ef, es⟩⟩ := f
  simp only [fv] at *
  go_enter Try.func7, Try.ntmps7
  go_wp2_with fail
  refine Calls.mono (HC.out _) ?_
  rintro e w1 ⟨u, rfl, hj, hb⟩
  have HB1 := hd (below_alloc1 hb)
  have HJ1 := hd hj
  clear hj hb HC
  go_wp2_with fail
  refine Calls.mono (wrap_is u b w1 HJ1.out.isB (by omega)) ?_
  rintro e w2 ⟨rfl, hj, hb⟩
  have HB2 : Hid (Below w.heap.size w w2) := HB1.out.trans (hb.mono HB1.out.size)
  have HJ2 := hd hj.isB
  clear hj hb HJ1 HB1
  go_wp2_with fail
  refine Calls.mono (digits_ok (wr b).length 3 w2 (by omega) (by omega) (by omega) HP3.out) ?_
  rintro e w3 ⟨rfl, hj, hb⟩
  have HB3 : Hid (Below w.heap.size w w3) := HB2.out.trans (hb.mono HB2.out.size)
  have HJ3 := hd (HJ2.out.below hb)
  have HD3 := hd hj.isB
  clear hj hb HJ2 HB2
  go_wp2_with fail
  refine Calls.mono (sum_two w3 w3.heap.size rfl _ _ _ _ HD3.out HJ3.out) ?_
  rw [HS.out]
  rintro e w4 ⟨rfl, hb⟩
  have HB4 : Hid (Below w.heap.size w w4) := HB3.out.trans (hb.mono HB3.out.size)
  have HJ4 := hd (HJ3.out.below hb)
  have HD4 := hd (HD3.out.below hb)
  clear hb HJ3 HD3 HB3
  go_wp2_with fail
  refine Calls.mono (digits_ok S 5 w4 (by omega) (by omega) (by omega) HP5.out) ?_
  rintro e w5 ⟨rfl, hj, hb⟩
  have HB5 : Hid (Below w.heap.size w w5) := HB4.out.trans (hb.mono HB4.out.size)
  have HJ5 := hd (HJ4.out.below hb)
  have HD5 := hd (HD4.out.below hb)
  have HS5 := hd hj.isB
  clear hj hb HJ4 HD4 HB4
  have HB6 : Hid (Below w.heap.size w (w5.alloc (.cells #[.int .u8 167] 5))) := HB5.out.alloc HB5.out.size _
  have HL6 := hd (lit_isK .u8 256 w5 #[.int .u8 167] 5 [167] 1 rfl rfl (by simp) (by simp [maxLen]))
  have hst : Below w5.heap.size w5 (w5.alloc (.cells #[.int .u8 167] 5)) := (Below.refl _ _).alloc (Nat.le_refl _) _
  have HP := hd (ps_lit (w5.alloc (.cells #[.int .u8 167] 5)) [.slice (some ⟨w5.heap.size, 0, none⟩) 1 1, .slice (some ⟨w2.heap.size, 0, none⟩) 3 3, .slice (some ⟨w1.heap.size, 0, none⟩) (wr b).length (wr b).length, .slice (some ⟨w4.heap.size, 0, none⟩) 5 5] [[167], dg 3 (wr b).length, wr b, dg 5 S] 36 rfl (by
    intro i v hv
    match i, hv with
    | 0, hv => cases hv; exact HL6.out
    | 1, hv => cases hv; exact HD5.out.below hst
    | 2, hv => cases hv; exact HJ5.out.below hst
    | 3, hv => cases hv; exact HS5.out.below hst
    | i + 4, hv => simp at hv))
  have HCC := hd (concat_row (w5.alloc (.cells #[.int .u8 167] 5)).heap.size 0 4 _ _ (by simp) (by simp) HP.out (by rw [HEL.out]; omega) (by rw [HEL.out]; omega))
  rw [World.size_alloc] at HCC
  clear hst HP HL6 HD5 HJ5 HS5 HEL
  go_wp2_with fail
  refine Calls.mono HCC.out ?_
  rintro e w7 ⟨u, rfl, hj5, hb5⟩
  have HJ7 := hd (hj5.base (base' := w.heap.size) (by have := HB5.out.size; rw [World.size_alloc, World.size_alloc]; omega))
  have HB7 : Hid (Below w.heap.size w w7) := HB6.out.trans ((below_alloc1 hb5).mono HB6.out.size)
  clear hj5 hb5 HCC
  go_wp2_with fail
  go_ret2
  exact ⟨u, rfl, HJ7.out, HB7.out⟩
end Vt
end Go.Proofs.Ytnjhbidialngmaa
