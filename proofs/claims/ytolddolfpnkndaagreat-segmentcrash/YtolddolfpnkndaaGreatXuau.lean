/-
  THE WALKS OF the laws' own 'same' (by string), 'awake'.
  THE WALK OF frame.Body: a frame that may not be; a Put.
-/
import Derived.Test.YtolddolfpnkndaaGreatXuat
import Derived.Test.YtolddolfpnkndaaGreatXuaj
import Derived.Test.YtolddolfpnkndaaGreatXuar
import Derived.Test.YtolddolfpnkndaaGreatXuab
import Derived.Test.YtolddolfpnkndaaGreatXuas
import Derived.Lib.ConvBytes
namespace Go.Proofs.YtolddolfpnkndaaGreat
open Go.RowKit
namespace Vt
theorem conv_is (w : World) (v : Value) (l : List Nat) (h : IsB w v l) : (convert 49 9 v).run Tryz.prog w = .ok (.string (str l)) w := by
  obtain ⟨a, c, rfl⟩ := h.shape
  rw [run_convert_bytes_string w _ _ 5 _ _ _ Tryz.underlying49 Tryz.underlying5 Tryz.underlying9]
  cases a with
  | none =>
    obtain ⟨_, _, ⟨rfl, a', c', e⟩ | ⟨b, off, c', e, _⟩⟩ := h
    · rfl
    · cases e
  | some ad =>
    refine run_bytesToString w ad _ _ (l.map fun x => ((x : Nat) : Int)) ?_
    obtain ⟨_, _, ⟨rfl, a', c', e⟩ | ⟨b, off, c', e, _, _, _, hr⟩⟩ := h
    · rfl
    · injection e with e1 e2 e3
      injection e1 with e1
      subst e1
      have := run_loadCells_list (P := Tryz.prog) w ⟨b, off, none⟩ (bs l) (news_of_row hr)
      rw [bs_len] at this
      rw [this]
      unfold bs
      rw [List.map_map]; rfl
end Vt
end Go.Proofs.YtolddolfpnkndaaGreat
namespace Go.Proofs.YtolddolfpnkndaaGreat
open Go.RowKit
namespace Vt
theorem ps_lit (W : World) (vl : List Value) (ls : List (List Nat)) (t : TypeId) (hl : vl.length = ls.length) (h : ∀ i v, vl[i]? = some v → IsB W v (ls.getD i [])) : Ps (W.alloc (.cells vl.toArray t)) W.heap.size 0 ls := by
  intro i hi
  have hv : vl[i]? = some vl[i] := List.getElem?_eq_getElem (by omega)
  refine ⟨vl[i], ?_, (h i _ hv).below ((Below.refl _ _).alloc (Nat.le_refl _) _)⟩
  rw [Nat.zero_add, World.cell?_alloc_new]
  simp
theorem JB.base {w : World} {base base' : Nat} {v : Value} {l : List Nat} (h : JB w base v l) (hb : base' ≤ base) : JB w base' v l := by
  refine ⟨h.1, h.2.1, ?_⟩
  rcases h.2.2 with h | ⟨g, cap, cur, h1, h2, h3⟩
  · exact .inl h
  · exact .inr ⟨g, cap, cur, h1, by omega, h3⟩
/-- a string's bytes, in new memory -/
theorem conv_bytes (w : World) (s : ByteArray) (hs : s.size ≤ maxLen) : ∃ c w', (convert 9 49 (.string s)).run Tryz.prog w = .ok (.slice (some ⟨w.heap.size, 0, none⟩) s.size c) w' ∧ IsB w' (.slice (some ⟨w.heap.size, 0, none⟩) s.size c) (bl s) ∧ Below w.heap.size w w' := by
  refine ⟨_, _, Lib.run_convert_string_bytes w _ _ 5 s Tryz.underlying9 Tryz.underlying49 Tryz.underlying5, ⟨bl_byt s, by rw [bl_len]; exact hs, .inr ⟨w.heap.size, 0, _, by rw [bl_len], by rw [bl_len]; exact grownCap_ge _ _ _ _, grownCap_le_maxLen _ _ _ _ hs, by rw [Lib.bytesWorld_size]; omega, fun j hj => ?_⟩⟩, ⟨?_, ?_, ?_, by rw [Lib.bytesWorld_size]; omega, fun i hi => Lib.bytesWorld_at_old w _ s i hi⟩⟩
  · rw [bl_len] at hj
    rw [Nat.zero_add]
    have h := Lib.bytesWorld_cell w 5 s j hj
    rw [h]
    unfold bl
    rw [List.getD_eq_getElem?_getD, List.getD_eq_getElem?_getD, List.getElem?_map]
    cases s.data.toList[j]? <;> rfl
  · simp [Lib.bytesWorld, World.freeze, World.alloc, World.drew, -World.alloc_eq, -World.drew_eq]
  · simp [Lib.bytesWorld, World.freeze, World.alloc, World.drew, -World.alloc_eq, -World.drew_eq]
  · simp [Lib.bytesWorld, World.freeze, World.alloc, World.drew, -World.alloc_eq, -World.drew_eq]
set_option maxRecDepth 100000 in
set_option maxHeartbeats 1000000 in
theorem body_1 (lsn : Nat) (key val : ByteArray) (w : World) (hl : lsn < 18446744073709551616) (h : rf (ofR ⟨lsn, 1, key, val⟩) = 0) :
    Calls Tryz.prog 48 #[.agg (fv (ofR ⟨lsn, 1, key, val⟩))] w fun e w' => ∃ u, e = .returned (.tuple #[u, .int .i64 0]) ∧ JB w' w.heap.size u (bd (ofR ⟨lsn, 1, key, val⟩)) ∧ Below w.heap.size w w' := by
  have HC := hd (refusal_is (ofR ⟨lsn, 1, key, val⟩))
  obtain ⟨hb1, hb2⟩ := bd_len (f := ofR ⟨lsn, 1, key, val⟩) ⟨hl, by show 0 < 18446744073709551616; omega, by show 0 < 4294967296; omega⟩ h
  have hk : key.size ≤ 64 ∧ val.size ≤ 2048 := by
    have h' := h
    unfold rf at h'
    rw [if_pos (.inl rfl)] at h'
    obtain ⟨_, _, q3, q4, _⟩ := rfR_ok h'
    exact ⟨q3.2, q4⟩
  have HBP : Hid (bp (ofR ⟨lsn, 1, key, val⟩) = [[1], enc [lsn, key.size], bl key, bl val]) := by
    show bp (ofR ⟨lsn, 1, key, val⟩) = _
    unfold bp ofR
    rw [if_pos rfl]; rfl
  have HBD : Hid (bd (ofR ⟨lsn, 1, key, val⟩) = [[1], enc [lsn, key.size], bl key, bl val].flatten) := by
    show bd _ = _
    unfold bd; rw [HBP.out]
  rw [HBD.out] at hb1 hb2 ⊢
  obtain ⟨hk1, hk2⟩ := hk
  rw [h] at HC
  clear h HBP HBD
  simp only [fv, ofR, zp, ze] at *
  go_enter Tryz.func48, Tryz.ntmps48
  go_wp2_with fail
  refine Calls.mono (HC.out _) ?_
  rintro e w1 ⟨rfl, hb⟩
  have HX : Hid (Blk w1 w.heap.size 59 [.int .i64 1, .int .u64 (lsn : Int), .int .i64 1, .string key, .string val, .int .u64 0, .int .i64 0, .int .i64 0, .int .i64 0, .string ByteArray.empty, .int .i64 0, .int .i64 0, .int .i64 0, .int .u32 0]) := (Blk.new w _ _).keep hb
  have HB := hd (below_alloc1 hb)
  have hs1 := hb.size
  rw [World.size_alloc] at hs1
  clear hb HC
  have c0 := HX.out.cell 0 _ rfl
  have c1 := HX.out.cell 1 _ rfl
  have c2 := HX.out.cell 2 _ rfl
  have c3 := HX.out.cell 3 _ rfl
  have c4 := HX.out.cell 4 _ rfl
  clear HX
  have n1 : w.heap.size < w1.heap.size := by omega
  have n2 : ¬ w.heap.size = w1.heap.size := by omega
  have n3 : ¬ w1.heap.size = w.heap.size := by omega
  have n4 : ¬ w.heap.size = w1.heap.size + 1 := by omega
  have n5 : ¬ w1.heap.size + 1 = w.heap.size := by omega
  have n6 : w.heap.size < w1.heap.size + 1 := by omega
  go_wp2_with fail
  obtain ⟨X, hX⟩ : ∃ X, X = (w1.alloc (.cells #[.int .u8 1] 5)).alloc (.cells #[.int .u64 (lsn : Int), .int .i64 1, .string key, .string val] 38) := ⟨_, rfl⟩
  have HXS : Hid (X.heap.size = w1.heap.size + 1 + 1) := by show X.heap.size = _; rw [hX]; simp
  have HXB : Hid (Below w.heap.size w X) := by rw [hX]; exact (HB.out.alloc (by omega) _).alloc (by simp; omega) _
  have HK : Hid (IsB X (.slice (some ⟨w1.heap.size, 0, none⟩) 1 1) [1]) := by
    rw [hX]
    exact (lit_isK_at .u8 256 w1 #[.int .u8 1] 5 [1] 1 _ rfl rfl rfl (by simp) (by simp [maxLen])).below ((Below.refl _ _).alloc (Nat.le_refl _) _)
  have HR : Hid (Blk X (w1.heap.size + 1) 38 [.int .u64 (lsn : Int), .int .i64 1, .string key, .string val]) := by
    rw [hX]
    have := Blk.new (w1.alloc (.cells #[.int .u8 1] 5)) 38 [.int .u64 (lsn : Int), .int .i64 1, .string key, .string val]
    rw [World.size_alloc] at this
    exact this
  rw [← hX]
  have hlit := lit_isK_at .u64 18446744073709551616 X #[.int .u64 (lsn : Int), .int .u64 (key.size : Int)] 35 [lsn, key.size] 2 (w1.heap.size + 1 + 1) HXS.out rfl rfl (by intro x hx; simp at hx; omega) (by simp [maxLen])
  refine Calls.mono (encode_is _ [lsn, key.size] _ hlit (by simp)) ?_
  rintro e w2 ⟨rfl, hj, hb⟩
  have HB2 : Hid (Below X.heap.size X w2) := below_alloc1 hb
  have HJ := hd hj.isB
  have hs2 := HB2.out.size
  clear hb hj hlit hX c0 c1 c2 c3 c4
  have HK2 := hd (HK.out.below HB2.out)
  have HR2 := hd (HR.out.keep HB2.out)
  have HXB2 : Hid (Below w.heap.size w w2) := HXB.out.trans (HB2.out.mono HXB.out.size)
  rw [World.size_alloc] at HJ ⊢
  clear HK HR HXB HB2 HB
  obtain ⟨cc1, w3, hc1, hi1, hbb1⟩ := conv_bytes w2 key (by unfold maxLen; omega)
  have d2 := HR2.out.cell 2 _ rfl
  have HR3 := hd (HR2.out.keep hbb1)
  have d3 := HR3.out.cell 3 _ rfl
  have HI1 := hd hi1
  have HJ3 := hd (HJ.out.below hbb1)
  have HK3 := hd (HK2.out.below hbb1)
  have HB3 : Hid (Below w.heap.size w w3) := HXB2.out.trans (hbb1.mono HXB2.out.size)
  clear hi1 hbb1 HR2 HJ HK2 HXB2
  obtain ⟨cc2, w4, hc2, hi2, hbb2⟩ := conv_bytes w3 val (by unfold maxLen; omega)
  have HI2 := hd hi2
  have HI14 := hd (HI1.out.below hbb2)
  have HJ4 := hd (HJ3.out.below hbb2)
  have HK4 := hd (HK3.out.below hbb2)
  have HB4 : Hid (Below w.heap.size w w4) := HB3.out.trans (hbb2.mono HB3.out.size)
  clear hi2 hbb2 HI1 HJ3 HK3 HB3 HR3
  have HP := hd (ps_lit w4 [.slice (some ⟨w1.heap.size, 0, none⟩) 1 1, .slice (some ⟨X.heap.size + 1, 0, none⟩) (enc [lsn, key.size]).length (enc [lsn, key.size]).length, .slice (some ⟨w2.heap.size, 0, none⟩) key.size cc1, .slice (some ⟨w3.heap.size, 0, none⟩) val.size cc2] [[1], enc [lsn, key.size], bl key, bl val] 49 rfl (by
    intro i v hv
    match i, hv with
    | 0, hv => cases hv; exact HK4.out
    | 1, hv => cases hv; exact HJ4.out
    | 2, hv => cases hv; exact HI14.out
    | 3, hv => cases hv; exact HI2.out
    | i + 4, hv => simp at hv))
  have HCC := hd (concat_row w4.heap.size 0 4 _ _ (by simp) (by simp) HP.out (by omega) (by omega))
  clear HP HI2 HI14 HJ4 HK4
  go_wp2_with fail
  refine Calls.mono HCC.out ?_
  rintro e w5 ⟨u, rfl, hj5, hb5⟩
  have HJ5 := hd (hj5.base (base' := w.heap.size) (by have := HB4.out.size; rw [World.size_alloc]; omega))
  have HB5 : Hid (Below w.heap.size w w5) := HB4.out.trans ((below_alloc1 hb5).mono HB4.out.size)
  clear hj5 hb5 HCC
  go_wp2_with fail
  go_ret2
  exact ⟨u, rfl, HJ5.out, HB5.out⟩
end Vt
end Go.Proofs.YtolddolfpnkndaaGreat
