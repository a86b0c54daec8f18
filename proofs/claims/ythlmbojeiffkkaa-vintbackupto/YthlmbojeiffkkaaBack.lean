/-
  PROVED: for all numbers l and bytes behind them, of bulk at most 1048576, the Go law VintBack answers true and changes nothing that came in: what is encoded is decoded, whatever stands behind.
-/
import Derived.Test.YthlmbojeiffkkaaV7
import Derived.JoinedCond
namespace Go.Proofs.Ythlmbojeiffkkaa
open Go.ChangeShapes Go.WideShapes Go.ChangeAt Go.RowKit
namespace Back
open Vt
theorem drop_cons {l : List Nat} {j : Nat} (h : j < l.length) : l.drop j = l.getD j 0 :: l.drop (j + 1) := by
  rw [List.drop_eq_getElem_cons h, List.getD_eq_getElem?_getD, List.getElem?_eq_getElem h]; rfl
/-- what is left behind the j-th number, as a slice -/
def Rest (w : World) (base : Nat) (v : Value) (l : List Nat) : Prop := ∃ g off cap, v = .slice (some ⟨g, off, none⟩) l.length cap ∧ l.length ≤ cap ∧ cap ≤ maxLen ∧ base ≤ g ∧ IsB w (.slice (some ⟨g, off, none⟩) l.length cap) l
set_option maxRecDepth 100000 in
set_option maxHeartbeats 4000000 in
theorem walkB (vn vb : Value) (l lb : List Nat) (w : World) (hN : IsN w vn l) (hB : IsB w vb lb) (hm : l.length + lb.length ≤ 1048576) :
    Calls Try.prog 7 #[vn, vb] w fun e w' => e = .returned (.bool true) ∧ Below w.heap.size w w' := by
  obtain ⟨i0, hi, hz0, hz1, hz2⟩ := info_parts info_u8
  have HC := hd (encode_is vn l w hN (by omega))
  have HN := hd hN
  have HV := hd hB
  have henc := enc_len hN.1
  obtain ⟨an, cn, rfl⟩ := hN.shape
  obtain ⟨a, c, rfl⟩ := hB.shape
  clear hN hB
  go_enter Try.func7, Try.ntmps7
  go_wp2_with fail
  refine Calls.mono HC.out ?_
  rintro e w1 ⟨rfl, hj1, hb1⟩
  have HB1 := hd hb1
  have HJ1 := hd hj1
  clear hj1 hb1 HC
  obtain ⟨L, hL⟩ : ∃ L, L = (enc l).length := ⟨_, rfl⟩
  rw [← hL] at HJ1 henc ⊢
  have HO1 : Hid (w1.ownsRow w.heap.size 5 1 (.slice (some ⟨w.heap.size, 0, none⟩) L L) L (bs (enc l))) := by
    have := HJ1.out.2
    rw [← hL] at this; exact this
  have HL := hd hL
  clear hL
  by_cases h0 : lb.length = 0
  · obtain rfl : lb = [] := List.length_eq_zero_iff.1 h0
    have HR : Hid (Rest w1 w.heap.size (.slice (some ⟨w.heap.size, 0, none⟩) L L) (enc l ++ [])) := by
      rw [List.append_nil]
      refine ⟨w.heap.size, 0, L, by rw [← HL.out], by rw [← HL.out]; omega, by unfold maxLen; omega, Nat.le_refl _, ?_⟩
      rw [← HL.out]; exact HJ1.out.isB
    rw [List.length_nil]
    have hz : ∀ {X : Nat}, X + 0 = X := by intro X; rfl
    cases a with
    | none =>
      go_wp2_with fail
      have HBW := HB1
      go_loopw [5, 6] (fun v i wr => ∃ j : Nat, j ≤ l.length ∧ i = .int .i64 (j : Int) ∧ Rest wr w.heap.size v (enc (l.drop j) ++ []) ∧ Below w.heap.size w wr) (fun _ i _ => l.length - (intOf i).toNat)
      case atStart => exact ⟨0, by omega, rfl, HR.out, HBW.out⟩
      case round =>
        clear HR HBW
        obtain ⟨j, hj, rfl, hR, hBr⟩ := hrel
        have HBr := hd hBr
        clear hBr
        by_cases hlt : j < l.length
        · have hx := N64.at HN.out.1 j
          have hdc := drop_cons hlt
          obtain ⟨_, _, ⟨rfl, _⟩ | ⟨nb, no, nc, e, _, _, hnb, hnr⟩⟩ := HN.out
          · simp at hlt
          · injection e with e1 e2 e3
            subst e1 e3
            have hc : wr.cell? ⟨nb, no + j, none⟩ = some (.int .u64 ((l.getD j 0 : Nat) : Int)) := by
              rw [HBr.out.cell hnb]; exact hnr j hlt
            rw [hdc, enc_cons, List.append_assoc] at hR
            generalize l.getD j 0 = x at *
            obtain ⟨R, hRR⟩ : ∃ R, enc (l.drop (j + 1)) ++ [] = R := ⟨_, rfl⟩
            rw [hRR] at hR
            have HRR := hd hRR
            obtain ⟨K, hK⟩ : ∃ K, (vrt x).length = K := ⟨_, rfl⟩
            have HK := hd hK
            have hK1 := vrt_len x
            rw [hK] at hK1
            obtain ⟨g, off, cap, rfl, hcap, hcm, hg, hIr⟩ := hR
            rw [List.length_append, hK] at hcap hIr ⊢
            have HG := hd hg
            have HIr := hd hIr
            have HD := hd (dec_vrt hx R)
            rw [hK] at HD
            unfold maxLen at hcm
            clear hdc hnr hRR hK hg hIr hnb
            go_wp2_with fail
            refine Calls.mono (decode_is _ _ _ HIr.out) ?_
            rw [HD.out]
            unfold ans
            rintro e w7 ⟨rfl, rfl⟩
            by_cases hck : cap = K
            · have hR0 : R.length = 0 := by omega
              obtain rfl : R = [] := List.length_eq_zero_iff.1 hR0
              rw [List.length_nil] at *
              rw [Nat.add_zero] at *
              subst hck
              go_wp2_with fail
              refine Calls.mono (size_is _ [x] _ (lit_isK .u64 18446744073709551616 w7 #[.int .u64 (x : Int)] 23 [x] 1 rfl rfl (by simpa using hx) (by simp [maxLen])) (by simp)) ?_
              rw [enc_one, HK.out]
              rintro e w8 ⟨rfl, hw8⟩
              have HB8 : Hid (Below w.heap.size w w8) := by rw [hw8]; exact HBr.out.alloc HBr.out.size _
              clear hw8 HBr HIr
              go_wp2_with fail
              go_roundw
              case rel =>
                refine ⟨j + 1, by omega, by go_num, ⟨g, off, 0, ?_, by rw [HRR.out]; simp, by unfold maxLen; omega, HG.out, ?_⟩, HB8.out⟩
                · rw [HRR.out, List.length_nil]
                · rw [HRR.out, List.length_nil]; exact isK_nil _ _ _ _ _
              case measure => simp [intOf]; omega
            · have hck2 : ¬ K = cap := by omega
              go_wp2_with fail
              refine Calls.mono (size_is _ [x] _ (lit_isK .u64 18446744073709551616 w7 #[.int .u64 (x : Int)] 23 [x] 1 rfl rfl (by simpa using hx) (by simp [maxLen])) (by simp)) ?_
              rw [enc_one, HK.out]
              rintro e w8 ⟨rfl, hw8⟩
              have HB8 : Hid (Below w.heap.size w w8) := by rw [hw8]; exact HBr.out.alloc HBr.out.size _
              have HI8 : Hid (IsB w8 (.slice (some ⟨g, off, none⟩) (K + R.length) cap) (vrt x ++ R)) := by
                rw [hw8]; exact HIr.out.below ((Below.refl _ _).alloc (Nat.le_refl _) _)
              clear hw8 HBr HIr
              go_wp2_with fail
              go_roundw
              case rel =>
                refine ⟨j + 1, by omega, by go_num, ⟨g, off + K, cap - K, ?_, by rw [HRR.out]; omega, by unfold maxLen; omega, HG.out, ?_⟩, HB8.out⟩
                · rw [HRR.out]
                · have := HI8.out.drop K (by omega) (off + K) (K + R.length - K) (cap - K) (by omega) rfl rfl
                  rw [show K + R.length - K = R.length by omega, List.drop_left' HK.out] at this
                  rw [HRR.out]; exact this
              case measure => simp [intOf]; omega
        · obtain rfl : j = l.length := by omega
          rw [List.drop_length, enc_nil, List.nil_append] at hR
          obtain ⟨g, off, cap, rfl, hcap, hcm, hg, hIr⟩ := hR
          have HIr := hd hIr
          clear hIr
          have HVr := hd (HV.out.below HBr.out)
          go_wp2_with fail
          refine Calls.mono (same_is _ _ _ _ _ HIr.out HVr.out) ?_
          rw [decide_eq_true rfl]
          rintro e w9 ⟨rfl, q, hw9⟩
          have HB9 : Hid (Below w.heap.size w w9) := by rw [hw9]; exact below_drewN HBr.out q
          clear hw9
          go_wp2_with fail
          refine Calls.mono (works_any w9) ?_
          rintro e w10 ⟨rfl, hb10⟩
          have HB10 : Hid (Below w.heap.size w w10) := HB9.out.trans (hb10.mono HB9.out.size)
          clear hb10
          go_wp2_with fail
          go_ret
          exact ⟨rfl, HB10.out⟩
    | some ad =>
      obtain ⟨ab, ao, asp⟩ := ad
      go_wp2_with fail
      have HBW := HB1
      go_loopw [5, 6] (fun v i wr => ∃ j : Nat, j ≤ l.length ∧ i = .int .i64 (j : Int) ∧ Rest wr w.heap.size v (enc (l.drop j) ++ []) ∧ Below w.heap.size w wr) (fun _ i _ => l.length - (intOf i).toNat)
      case atStart => exact ⟨0, by omega, rfl, HR.out, HBW.out⟩
      case round =>
        clear HR HBW
        obtain ⟨j, hj, rfl, hR, hBr⟩ := hrel
        have HBr := hd hBr
        clear hBr
        by_cases hlt : j < l.length
        · have hx := N64.at HN.out.1 j
          have hdc := drop_cons hlt
          obtain ⟨_, _, ⟨rfl, _⟩ | ⟨nb, no, nc, e, _, _, hnb, hnr⟩⟩ := HN.out
          · simp at hlt
          · injection e with e1 e2 e3
            subst e1 e3
            have hc : wr.cell? ⟨nb, no + j, none⟩ = some (.int .u64 ((l.getD j 0 : Nat) : Int)) := by
              rw [HBr.out.cell hnb]; exact hnr j hlt
            rw [hdc, enc_cons, List.append_assoc] at hR
            generalize l.getD j 0 = x at *
            obtain ⟨R, hRR⟩ : ∃ R, enc (l.drop (j + 1)) ++ [] = R := ⟨_, rfl⟩
            rw [hRR] at hR
            have HRR := hd hRR
            obtain ⟨K, hK⟩ : ∃ K, (vrt x).length = K := ⟨_, rfl⟩
            have HK := hd hK
            have hK1 := vrt_len x
            rw [hK] at hK1
            obtain ⟨g, off, cap, rfl, hcap, hcm, hg, hIr⟩ := hR
            rw [List.length_append, hK] at hcap hIr ⊢
            have HG := hd hg
            have HIr := hd hIr
            have HD := hd (dec_vrt hx R)
            rw [hK] at HD
            unfold maxLen at hcm
            clear hdc hnr hRR hK hg hIr hnb
            go_wp2_with fail
            refine Calls.mono (decode_is _ _ _ HIr.out) ?_
            rw [HD.out]
            unfold ans
            rintro e w7 ⟨rfl, rfl⟩
            by_cases hck : cap = K
            · have hR0 : R.length = 0 := by omega
              obtain rfl : R = [] := List.length_eq_zero_iff.1 hR0
              rw [List.length_nil] at *
              rw [Nat.add_zero] at *
              subst hck
              go_wp2_with fail
              refine Calls.mono (size_is _ [x] _ (lit_isK .u64 18446744073709551616 w7 #[.int .u64 (x : Int)] 23 [x] 1 rfl rfl (by simpa using hx) (by simp [maxLen])) (by simp)) ?_
              rw [enc_one, HK.out]
              rintro e w8 ⟨rfl, hw8⟩
              have HB8 : Hid (Below w.heap.size w w8) := by rw [hw8]; exact HBr.out.alloc HBr.out.size _
              clear hw8 HBr HIr
              go_wp2_with fail
              go_roundw
              case rel =>
                refine ⟨j + 1, by omega, by go_num, ⟨g, off, 0, ?_, by rw [HRR.out]; simp, by unfold maxLen; omega, HG.out, ?_⟩, HB8.out⟩
                · rw [HRR.out, List.length_nil]
                · rw [HRR.out, List.length_nil]; exact isK_nil _ _ _ _ _
              case measure => simp [intOf]; omega
            · have hck2 : ¬ K = cap := by omega
              go_wp2_with fail
              refine Calls.mono (size_is _ [x] _ (lit_isK .u64 18446744073709551616 w7 #[.int .u64 (x : Int)] 23 [x] 1 rfl rfl (by simpa using hx) (by simp [maxLen])) (by simp)) ?_
              rw [enc_one, HK.out]
              rintro e w8 ⟨rfl, hw8⟩
              have HB8 : Hid (Below w.heap.size w w8) := by rw [hw8]; exact HBr.out.alloc HBr.out.size _
              have HI8 : Hid (IsB w8 (.slice (some ⟨g, off, none⟩) (K + R.length) cap) (vrt x ++ R)) := by
                rw [hw8]; exact HIr.out.below ((Below.refl _ _).alloc (Nat.le_refl _) _)
              clear hw8 HBr HIr
              go_wp2_with fail
              go_roundw
              case rel =>
                refine ⟨j + 1, by omega, by go_num, ⟨g, off + K, cap - K, ?_, by rw [HRR.out]; omega, by unfold maxLen; omega, HG.out, ?_⟩, HB8.out⟩
                · rw [HRR.out]
                · have := HI8.out.drop K (by omega) (off + K) (K + R.length - K) (cap - K) (by omega) rfl rfl
                  rw [show K + R.length - K = R.length by omega, List.drop_left' HK.out] at this
                  rw [HRR.out]; exact this
              case measure => simp [intOf]; omega
        · obtain rfl : j = l.length := by omega
          rw [List.drop_length, enc_nil, List.nil_append] at hR
          obtain ⟨g, off, cap, rfl, hcap, hcm, hg, hIr⟩ := hR
          have HIr := hd hIr
          clear hIr
          have HVr := hd (HV.out.below HBr.out)
          go_wp2_with fail
          refine Calls.mono (same_is _ _ _ _ _ HIr.out HVr.out) ?_
          rw [decide_eq_true rfl]
          rintro e w9 ⟨rfl, q, hw9⟩
          have HB9 : Hid (Below w.heap.size w w9) := by rw [hw9]; exact below_drewN HBr.out q
          clear hw9
          go_wp2_with fail
          refine Calls.mono (works_any w9) ?_
          rintro e w10 ⟨rfl, hb10⟩
          have HB10 : Hid (Below w.heap.size w w10) := HB9.out.trans (hb10.mono HB9.out.size)
          clear hb10
          go_wp2_with fail
          go_ret
          exact ⟨rfl, HB10.out⟩
  · obtain ⟨hbl, hml, ⟨rfl, a', c', e⟩ | ⟨bb, oo, cc, e, hlc2, hcm, hbb, hrow⟩⟩ := HV.out
    · simp at h0
    · injection e with e1 e2 e3
      subst e1 e3
      have hrow1 : Row w1 bb oo lb := (HV.out.below HB1.out).row
      have hlen : (bs lb).length = lb.length * 1 := by simp [bs]
      go_wp2_with (at_builtin; refine wpList_append_lies _ rfl _ _ 22 rfl w.heap.size 5 i0 (.int .u8 0) 1 1 Try.underlying22 hi hz0 hz1 hz2 rfl (by decide) _ L (bs (enc l)) rfl HO1.out ⟨bb, oo, none⟩ lb.length c (bs lb) rfl hlen (news_of_row hrow1) (bs_one lb) (by omega) (by unfold maxLen; omega) (by omega) HB1.out.size w1.heap.size rfl ?_; intro g cap w5 hown5 hgrow5 hat5 hlt5)
      have HBW : Hid (Below w.heap.size w w5) := HB1.out.grown hgrow5 HB1.out.size (fun k hk => by cases hk; exact Nat.le_refl _)
      have HR : Hid (Rest w5 w.heap.size (.slice (some ⟨g, 0, none⟩) (L + lb.length) cap) (enc l ++ lb)) := by
        rw [bs_app] at hown5
        have hcp := own_cap hown5
        have hll : L + lb.length = (enc l ++ lb).length := by rw [List.length_append, ← HL.out]
        have hbuf := buf_of_own (byt_app (enc_byt l) hbl) hll hlt5 hown5
        refine ⟨g, 0, cap, by rw [hll], by rw [← hll]; exact hcp, hbuf.2.1, (own_lt hown5).2, ?_⟩
        exact hbuf.isB rfl
      clear hown5 hgrow5 hat5 hlt5 HO1 HB1 HJ1 hrow1 hrow
      go_loopw [5, 6] (fun v i wr => ∃ j : Nat, j ≤ l.length ∧ i = .int .i64 (j : Int) ∧ Rest wr w.heap.size v (enc (l.drop j) ++ lb) ∧ Below w.heap.size w wr) (fun _ i _ => l.length - (intOf i).toNat)
      case atStart => exact ⟨0, by omega, rfl, HR.out, HBW.out⟩
      case round =>
        clear HR HBW
        obtain ⟨j, hj, rfl, hR, hBr⟩ := hrel
        have HBr := hd hBr
        clear hBr
        by_cases hlt : j < l.length
        · have hx := N64.at HN.out.1 j
          have hdc := drop_cons hlt
          obtain ⟨_, _, ⟨rfl, _⟩ | ⟨nb, no, nc, e, _, _, hnb, hnr⟩⟩ := HN.out
          · simp at hlt
          · injection e with e1 e2 e3
            subst e1 e3
            have hc : wr.cell? ⟨nb, no + j, none⟩ = some (.int .u64 ((l.getD j 0 : Nat) : Int)) := by
              rw [HBr.out.cell hnb]; exact hnr j hlt
            rw [hdc, enc_cons, List.append_assoc] at hR
            generalize l.getD j 0 = x at *
            obtain ⟨R, hRR⟩ : ∃ R, enc (l.drop (j + 1)) ++ lb = R := ⟨_, rfl⟩
            rw [hRR] at hR
            have HRR := hd hRR
            obtain ⟨K, hK⟩ : ∃ K, (vrt x).length = K := ⟨_, rfl⟩
            have HK := hd hK
            have hK1 := vrt_len x
            rw [hK] at hK1
            obtain ⟨g, off, cap, rfl, hcap, hcm, hg, hIr⟩ := hR
            rw [List.length_append, hK] at hcap hIr ⊢
            have HG := hd hg
            have HIr := hd hIr
            have HD := hd (dec_vrt hx R)
            rw [hK] at HD
            unfold maxLen at hcm
            clear hdc hnr hRR hK hg hIr hnb
            go_wp2_with fail
            refine Calls.mono (decode_is _ _ _ HIr.out) ?_
            rw [HD.out]
            unfold ans
            rintro e w7 ⟨rfl, rfl⟩
            by_cases hck : cap = K
            · have hR0 : R.length = 0 := by omega
              obtain rfl : R = [] := List.length_eq_zero_iff.1 hR0
              rw [List.length_nil] at *
              rw [Nat.add_zero] at *
              subst hck
              go_wp2_with fail
              refine Calls.mono (size_is _ [x] _ (lit_isK .u64 18446744073709551616 w7 #[.int .u64 (x : Int)] 23 [x] 1 rfl rfl (by simpa using hx) (by simp [maxLen])) (by simp)) ?_
              rw [enc_one, HK.out]
              rintro e w8 ⟨rfl, hw8⟩
              have HB8 : Hid (Below w.heap.size w w8) := by rw [hw8]; exact HBr.out.alloc HBr.out.size _
              clear hw8 HBr HIr
              go_wp2_with fail
              go_roundw
              case rel =>
                refine ⟨j + 1, by omega, by go_num, ⟨g, off, 0, ?_, by rw [HRR.out]; simp, by unfold maxLen; omega, HG.out, ?_⟩, HB8.out⟩
                · rw [HRR.out, List.length_nil]
                · rw [HRR.out, List.length_nil]; exact isK_nil _ _ _ _ _
              case measure => simp [intOf]; omega
            · have hck2 : ¬ K = cap := by omega
              go_wp2_with fail
              refine Calls.mono (size_is _ [x] _ (lit_isK .u64 18446744073709551616 w7 #[.int .u64 (x : Int)] 23 [x] 1 rfl rfl (by simpa using hx) (by simp [maxLen])) (by simp)) ?_
              rw [enc_one, HK.out]
              rintro e w8 ⟨rfl, hw8⟩
              have HB8 : Hid (Below w.heap.size w w8) := by rw [hw8]; exact HBr.out.alloc HBr.out.size _
              have HI8 : Hid (IsB w8 (.slice (some ⟨g, off, none⟩) (K + R.length) cap) (vrt x ++ R)) := by
                rw [hw8]; exact HIr.out.below ((Below.refl _ _).alloc (Nat.le_refl _) _)
              clear hw8 HBr HIr
              go_wp2_with fail
              go_roundw
              case rel =>
                refine ⟨j + 1, by omega, by go_num, ⟨g, off + K, cap - K, ?_, by rw [HRR.out]; omega, by unfold maxLen; omega, HG.out, ?_⟩, HB8.out⟩
                · rw [HRR.out]
                · have := HI8.out.drop K (by omega) (off + K) (K + R.length - K) (cap - K) (by omega) rfl rfl
                  rw [show K + R.length - K = R.length by omega, List.drop_left' HK.out] at this
                  rw [HRR.out]; exact this
              case measure => simp [intOf]; omega
        · obtain rfl : j = l.length := by omega
          rw [List.drop_length, enc_nil, List.nil_append] at hR
          obtain ⟨g, off, cap, rfl, hcap, hcm, hg, hIr⟩ := hR
          have HIr := hd hIr
          clear hIr
          have HVr := hd (HV.out.below HBr.out)
          go_wp2_with fail
          refine Calls.mono (same_is _ _ _ _ _ HIr.out HVr.out) ?_
          rw [decide_eq_true rfl]
          rintro e w9 ⟨rfl, q, hw9⟩
          have HB9 : Hid (Below w.heap.size w w9) := by rw [hw9]; exact below_drewN HBr.out q
          clear hw9
          go_wp2_with fail
          refine Calls.mono (works_any w9) ?_
          rintro e w10 ⟨rfl, hb10⟩
          have HB10 : Hid (Below w.heap.size w w10) := HB9.out.trans (hb10.mono HB9.out.size)
          clear hb10
          go_wp2_with fail
          go_ret
          exact ⟨rfl, HB10.out⟩
theorem walk (a0 : Option Addr) (len0 cap0 : Nat) (z0 : List Int) (a1 : Option Addr) (len1 cap1 : Nat) (z1 : List Int) (w : World) (w0 : IsRow .u64 w a0 len0 cap0 z0) (w1 : IsRow .u8 w a1 len1 cap1 z1) (hm : len0 + len1 ≤ 1048576) :
    Calls Try.prog 7 #[.slice a0 len0 cap0, .slice a1 len1 cap1] w fun e w' => e = .returned (.bool true) ∧ Below w.heap.size w w' := by
  obtain ⟨l, hl, hN⟩ := w0.isN
  obtain ⟨lb, hlb, hB⟩ := w1.isB
  exact walkB _ _ l lb w hN hB (by omega)
/-- numbers weigh one each -/
theorem lits_bulk {H : Type} (k : IntKind) (zs : List Int) : zs.length ≤ Rows.uptoBulkAll (lits (H := H) k zs) := by
  induction zs with
  | nil => exact Nat.zero_le _
  | cons z r ih =>
    rw [show lits (H := H) k (z :: r) = .lit (.int k z) :: lits k r from rfl]
    simp only [Rows.uptoBulkAll, Rows.uptoBulk, List.length_cons]
    omega
set_option linter.unusedVariables false
set_option maxRecDepth 100000 in
theorem lifted (os : Os) (started : os.Started) (H : Type) (enc : TypeId × Value → H) (F : Stop.Interp) :
    ReturnsInHanded {} Try.checked os 7 .any ((Rows.OpenSpec.upto Rows.vintBackSpec).pre6 enc Try.prog Try.f7 Rows.vintBackUptoRow.domain false) (((Rows.OpenSpec.upto Rows.vintBackSpec).at F).post enc Try.prog Try.f7 false true false false) := by
  refine returnsInHanded_of_cond (C := Try.checked) (s := Rows.OpenSpec.upto Rows.vintBackSpec) (k := Rows.uptoSmall) rfl own started (by kernel_rfl) Try.func7
    (OpenSpec.witness (enc := enc) (C := Try.checked) (s := Rows.OpenSpec.upto Rows.vintBackSpec) (k := Rows.uptoSmall) rfl false ⟨#[], #[.slice none 0 0, .slice none 0 0], []⟩ 8 (by kernel_rfl) (by kernel_rfl) (by kernel_rfl)
      (x := ([.nil, .nil], [], [])) (by kernel_rfl) rfl (by kernel_rfl)) ?_
  intro W base args ds gs before hval0 hW _ hk0 _
  have hk : Rows.uptoBulkAll (ds ++ gs) ≤ 1048576 := of_decide_eq_true hk0
  clear hk0
  have hval : ∀ (j : Nat) t v, Try.f7.params[j]? = some t → args[j]? = some v → Value.okWide Try.prog W .any base t v := hval0
  have hW' := hW
  obtain ⟨p, q, hA0, hV, rfl, hfz, hnd⟩ := hW
  have hA : DataW.TrodAll enc Try.prog W 0 (fun _ => true) true Try.f7.params.toList args.toList ds p := hA0
  rw [Try.params7] at hA hval
  obtain ⟨v0, vs0, d0, ds0, p0, q0, hargs, rfl, rfl, h0, r0⟩ := trodAll_cons hA
  obtain ⟨v1, vs1, d1, ds1, p1, q1, rfl, rfl, rfl, h1, r1⟩ := trodAll_cons r0
  obtain ⟨rfl, rfl, rfl⟩ := trodAll_nil r1
  obtain rfl : args = #[v0, v1] := by cases args; simp_all
  obtain ⟨rfl, rfl⟩ := trodVars_none hV
  have opens_u8 : ∀ (v : Value) (d : DataW H) (pl : List MemPlace) (a : Option Addr) (len cap : Nat), v = .slice a len cap → DataW.Trod enc Try.prog W 0 (fun _ => true) true 22 v d pl → ∃ zs, IsRow .u8 W a len cap zs ∧ len ≤ Rows.uptoBulk d := by
    rintro v d pl a len cap rfl ⟨fuel, hf⟩
    rcases open_ints Try.underlying22 Try.underlying5 (by kernel_rfl) hf with ⟨hcs, _⟩ | ⟨x, l, c, zs, hcs, _, hl, hm, hz, hx, hcell, hwz⟩
    · simp [Value.cells] at hcs
      obtain ⟨rfl, rfl, rfl⟩ := hcs
      exact ⟨[], .inl ⟨rfl, rfl, rfl, rfl⟩, by omega⟩
    · simp [Value.cells] at hcs
      obtain ⟨rfl, rfl, rfl⟩ := hcs
      have hz2 : zs.length = cap := by simpa using hz
      simp only [Prod.mk.injEq] at hx
      refine ⟨zs, .inr ⟨_, rfl, hl, hm, hz2, hcell, hwz⟩, ?_⟩
      rw [hx.1]
      have h1 := lits_bulk (H := H) .u8 (zs.take len)
      rw [List.length_take] at h1
      simp only [Rows.uptoBulk]
      omega
  have opens_u64 : ∀ (v : Value) (d : DataW H) (pl : List MemPlace) (a : Option Addr) (len cap : Nat), v = .slice a len cap → DataW.Trod enc Try.prog W 0 (fun _ => true) true 38 v d pl → ∃ zs, IsRow .u64 W a len cap zs ∧ len ≤ Rows.uptoBulk d := by
    rintro v d pl a len cap rfl ⟨fuel, hf⟩
    rcases open_ints Try.underlying38 Try.underlying23 (by kernel_rfl) hf with ⟨hcs, _⟩ | ⟨x, l, c, zs, hcs, _, hl, hm, hz, hx, hcell, hwz⟩
    · simp [Value.cells] at hcs
      obtain ⟨rfl, rfl, rfl⟩ := hcs
      exact ⟨[], .inl ⟨rfl, rfl, rfl, rfl⟩, by omega⟩
    · simp [Value.cells] at hcs
      obtain ⟨rfl, rfl, rfl⟩ := hcs
      have hz2 : zs.length = cap := by simpa using hz
      simp only [Prod.mk.injEq] at hx
      refine ⟨zs, .inr ⟨_, rfl, hl, hm, hz2, hcell, hwz⟩, ?_⟩
      rw [hx.1]
      have h1 := lits_bulk (H := H) .u64 (zs.take len)
      rw [List.length_take] at h1
      simp only [Rows.uptoBulk]
      omega
  obtain ⟨a0, len0, cap0, rfl⟩ := okWide_slice Try.underlying38 (hval 0 38 v0 rfl rfl)
  obtain ⟨a1, len1, cap1, rfl⟩ := okWide_slice Try.underlying22 (hval 1 22 v1 rfl rfl)
  have k0 := h0
  have k1 := h1
  have lt0 : ∀ x ∈ p0, x.block < W.heap.size := by obtain ⟨m, hm⟩ := k0; exact DataW.trod_lt m _ _ _ hm
  have lt1 : ∀ x ∈ p1, x.block < W.heap.size := by obtain ⟨m, hm⟩ := k1; exact DataW.trod_lt m _ _ _ hm
  obtain ⟨z0, w0, b0⟩ := opens_u64 _ d0 p0 a0 len0 cap0 rfl h0
  obtain ⟨z1, w1, b1⟩ := opens_u8 _ d1 p1 a1 len1 cap1 rfl h1
  have hm : len0 + len1 ≤ 1048576 := by
    simp only [List.cons_append, Rows.uptoBulkAll] at hk
    omega
  clear hA0 hval0
  refine (walk a0 len0 cap0 z0 a1 len1 cap1 z1 W w0 w1 hm).mono fun e W' ⟨he, bel⟩ => ?_
  subst he
  exact ⟨_, rfl, _, _, _, [], _, [], hW', trodAll_mk1 (shut_bool Try.underlying4 _), (trodAll_cons_mk (Below.trod laidOut (by kernel_rfl) (of_decide_eq_true (by kernel_rfl)) k0 bel lt0) (trodAll_cons_mk (Below.trod laidOut (by kernel_rfl) (of_decide_eq_true (by kernel_rfl)) k1 bel lt1) trodAll_mk0)), rfl, bel.frame _, fun h => by cases h⟩
theorem over : Rows.VintBackUptoSaid :=
  OpenClaim.holds_of_cond 7 Try.f7 rfl rfl rfl rfl rfl rfl rfl ⟨rfl, rfl, rfl, rfl, rfl⟩ rfl rfl rfl rfl rfl (by kernel_rfl) Try.func7 (by kernel_rfl)
    (of_decide_eq_true (by kernel_rfl)) (by unfold Func.isWrapper; first | (rw [if_pos (by decide +kernel)]; kernel_rfl) | (rw [if_neg (by decide +kernel)]; exact ⟨rfl, rfl⟩))
    (fun os started H enc _ F => lifted os started H enc F)
end Back

theorem vintBack_upto : Rows.VintBackUptoSaid := Back.over
#print axioms vintBack_upto
end Go.Proofs.Ythlmbojeiffkkaa
