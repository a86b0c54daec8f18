/-
  PROVED: for all sums the Go law CrcForges answers true: Forge answers just the four bytes of the document's own division, whenever it is asked, and they are the caller's own memory. No condition.
-/
import Derived.Test.YtfodnbbpkonfpaaFo0
namespace Go.Proofs.Ytfodnbbpkonfpaa
open Go.ChangeShapes Go.WideShapes Go.ChangeAt Go.RowKit
namespace Forges
set_option maxRecDepth 100000 in
set_option maxHeartbeats 2000000 in
theorem walkB (s t : Nat) (w : World) (hs : s < 4294967296) (ht : t < 4294967296) :
    Calls Try.prog 7 #[.int .u32 (s : Int), .int .u32 (t : Int)] w fun e w' => e = .returned (.bool true) ∧ Below w.heap.size w w' := by
  obtain ⟨i0, hi, hz0, hz1, hz2⟩ := info_parts info_u8
  go_enter Try.func7, Try.ntmps7
  go_wp2_with fail
  refine (known_any _).mono ?_
  rintro e w1 ⟨rfl, hb1⟩
  have HW1 := hd hb1
  clear hb1
  go_wp2_with fail
  refine (refForge_any s t w1 hs ht).mono ?_
  rintro e w2 ⟨rfl, hy2, hb2⟩
  have hyl : w1.heap.size < w2.heap.size := lt_of_cell (hy2.row 0 (by simp [Crc.by4]))
  have HW2 : Hid (Below w.heap.size w w2) := HW1.out.trans (hb2.mono HW1.out.size)
  have HY2 := hd hy2
  have HYL := hd hyl
  clear hb2 hy2 hyl
  go_wp2_with fail
  refine (forge_buf s t w2 hs ht).mono ?_
  rintro e w3 ⟨rfl, hx3, hb3⟩
  have HB3 := hd hb3
  have HX3 := hd hx3
  clear hb3 hx3
  go_wp2_with fail
  refine (forge_buf s t w3 hs ht).mono ?_
  rintro e w4 ⟨rfl, ht4, hb4⟩
  have HB4 : Hid (Below w2.heap.size w2 w4) := HB3.out.trans (hb4.mono HB3.out.size)
  have HX4 := hd (HX3.out.below HX3.out.2.2.1 hb4)
  have HT4 := hd ht4
  clear hb4 ht4
  go_wp2_with fail
  refine (forge_buf t s w4 ht hs).mono ?_
  rintro e w5 ⟨rfl, hz5, hb5⟩
  have HB5 : Hid (Below w2.heap.size w2 w5) := HB4.out.trans (hb5.mono HB4.out.size)
  have HX5 := hd (HX4.out.below HX4.out.2.2.1 hb5)
  have HT5 := hd (HT4.out.below HT4.out.2.2.1 hb5)
  have HZ5 := hd hz5
  clear hb5 hz5
  go_wp2_with fail
  refine (forge_buf s t w5 hs ht).mono ?_
  rintro e w6 ⟨rfl, ha6, hb6⟩
  have HB6 : Hid (Below w2.heap.size w2 w6) := HB5.out.trans (hb6.mono HB5.out.size)
  have HX6 := hd (HX5.out.below HX5.out.2.2.1 hb6)
  have HT6 := hd (HT5.out.below HT5.out.2.2.1 hb6)
  have HZ6 := hd (HZ5.out.below HZ5.out.2.2.1 hb6)
  have HA6 := hd ha6
  clear hb6 ha6
  go_wp2_with fail
  refine (refForge_any t s w6 ht hs).mono ?_
  rintro e w7 ⟨rfl, hw7, hb7⟩
  have HB7 : Hid (Below w2.heap.size w2 w7) := HB6.out.trans (hb7.mono HB6.out.size)
  have HX7 := hd (HX6.out.below HX6.out.2.2.1 hb7)
  have HT7 := hd (HT6.out.below HT6.out.2.2.1 hb7)
  have HZ7 := hd (HZ6.out.below HZ6.out.2.2.1 hb7)
  have HA7 := hd (HA6.out.below HA6.out.2.2.1 hb7)
  have HV7 := hd hw7
  have HY7 := hd (HY2.out.below HB7.out)
  clear hb7 hw7
  have HG := hd (goOn_is s _ _ w7 hs HY7.out (by simp [Crc.by4]))
  rw [Crc.go_fg s ht] at HG
  go_wp2_with fail
  refine Calls.mono HG.out ?_
  rintro e w8 ⟨rfl, rfl⟩
  have o12 : w1.heap.size < w2.heap.size := HYL.out
  have o23 : w2.heap.size < w3.heap.size := HX3.out.2.2.1
  have o34 : w3.heap.size < w4.heap.size := HT4.out.2.2.1
  have o45 : w4.heap.size < w5.heap.size := HZ5.out.2.2.1
  have o56 : w5.heap.size < w6.heap.size := HA6.out.2.2.1
  clear HYL HB3 HX3 HB4 HX4 HT4 HB5 HX5 HT5 HZ5 HB6 HX6 HT6 HZ6 HA6 HG HW1
  go_wp2_with fail
  go_loopw [12] (fun i wr => ∃ k n : Nat, k ≤ 4 ∧ i = .int .i64 (k : Int) ∧ wr = w8.drewN n) (fun i _ => 4 - (intOf i).toNat)
  case atStart => exact ⟨0, 0, by omega, rfl, rfl⟩
  case round =>
    obtain ⟨k, n, hk, rfl, rfl⟩ := hrel
    by_cases hlt : k < 4
    · have cx := HX7.out.cell (j := k) (by simp [Crc.by4]; omega)
      have ct := HT7.out.cell (j := k) (by simp [Crc.by4]; omega)
      have cz := HZ7.out.cell (j := k) (by simp [Crc.by4]; omega)
      have ca := HA7.out.cell (j := k) (by simp [Crc.by4]; omega)
      have cy := HY7.out.row k (by simp [Crc.by4]; omega)
      have cv := HV7.out.row k (by simp [Crc.by4]; omega)
      rw [Nat.zero_add] at cy cv
      generalize (Crc.by4 (Crc.fg s t)).getD k 0 = p at cx ct ca cy
      generalize (Crc.by4 (Crc.fg t s)).getD k 0 = q at cz cv
      clear o12 o23 o34 o45 o56
      go_wp2
      go_quiet (fail)
      go_wp2
      go_roundw
      case rel => exact ⟨k + 1, _, by omega, by go_num, rfl⟩
      case measure => simp [intOf]; omega
    · obtain rfl : k = 4 := by omega
      have HF1 : Hid (Four (w8.drewN n) w2.heap.size 0 51) := ⟨_, by simp [Crc.by4], HX7.out, by omega⟩
      have HF2 : Hid (Four (w8.drewN n) w5.heap.size 0 102) := ⟨_, by simp [Crc.by4], HA7.out, by omega⟩
      have HF3 : Hid (Four (w8.drewN n) w4.heap.size 0 119) := ⟨_, by simp [Crc.by4], HZ7.out, by omega⟩
      have HF4 : Hid (Four (w8.drewN n) w3.heap.size 0 120) := ⟨_, by simp [Crc.by4], HT7.out, by omega⟩
      have HFB : Hid (Below w2.heap.size w2 (w8.drewN n)) := below_drewN HB7.out n
      clear HX7 HA7 HZ7 HT7 HV7 HB7
      go_wp2
      go_loopw [13] (fun i wr => ∃ k : Nat, k ≤ 4 ∧ i = .int .i64 (k : Int) ∧ Four wr w2.heap.size k 51 ∧ Four wr w5.heap.size k 102 ∧ Four wr w4.heap.size k 119 ∧ Four wr w3.heap.size k 120 ∧ Below w2.heap.size w2 wr) (fun i _ => 4 - (intOf i).toNat)
      case atStart => exact ⟨0, by omega, rfl, HF1.out, HF2.out, HF3.out, HF4.out, HFB.out⟩
      case round =>
        obtain ⟨k, hk, rfl, f1, f2, f3, f4, fb⟩ := hrel
        have H1 := hd f1
        have H2 := hd f2
        have H3 := hd f3
        have H4 := hd f4
        have HB := hd fb
        clear f1 f2 f3 f4 fb HF1 HF2 HF3 HF4 HFB
        by_cases hlt : k < 4
        · obtain ⟨x1, c1, z1⟩ := H1.out.old (j := k) hlt
          have n25 : w2.heap.size ≠ w5.heap.size := by omega
          have n24 : w2.heap.size ≠ w4.heap.size := by omega
          have n23 : w2.heap.size ≠ w3.heap.size := by omega
          have n54 : w5.heap.size ≠ w4.heap.size := by omega
          have n53 : w5.heap.size ≠ w3.heap.size := by omega
          have n43 : w4.heap.size ≠ w3.heap.size := by omega
          have G2 := hd (H2.out.other (p := ⟨w2.heap.size, k, none⟩) n25 (.int .u8 51))
          have G3 := hd ((H3.out.other (p := ⟨w2.heap.size, k, none⟩) n24 (.int .u8 51)).other (p := ⟨w5.heap.size, k, none⟩) n54 (.int .u8 102))
          have G4 := hd (((H4.out.other (p := ⟨w2.heap.size, k, none⟩) n23 (.int .u8 51)).other (p := ⟨w5.heap.size, k, none⟩) n53 (.int .u8 102)).other (p := ⟨w4.heap.size, k, none⟩) n43 (.int .u8 119))
          obtain ⟨x2, c2, z2⟩ := G2.out.old (j := k) hlt
          obtain ⟨x3, c3, z3⟩ := G3.out.old (j := k) hlt
          obtain ⟨x4, c4, z4⟩ := G4.out.old (j := k) hlt
          have E1 := hd ((((H1.out.set hlt (c := 51) (by decide)).other (p := ⟨w5.heap.size, k, none⟩) n25.symm (.int .u8 102)).other (p := ⟨w4.heap.size, k, none⟩) n24.symm (.int .u8 119)).other (p := ⟨w3.heap.size, k, none⟩) n23.symm (.int .u8 120))
          have E2 := hd (((G2.out.set hlt (c := 102) (by decide)).other (p := ⟨w4.heap.size, k, none⟩) n54.symm (.int .u8 119)).other (p := ⟨w3.heap.size, k, none⟩) n53.symm (.int .u8 120))
          have E3 := hd ((G3.out.set hlt (c := 119) (by decide)).other (p := ⟨w3.heap.size, k, none⟩) n43.symm (.int .u8 120))
          have E4 := hd (G4.out.set hlt (c := 120) (by decide))
          have EB := hd ((((HB.out.setCell (p := ⟨w2.heap.size, k, none⟩) (Nat.le_refl _) (.int .u8 51)).setCell (p := ⟨w5.heap.size, k, none⟩) (show w2.heap.size ≤ w5.heap.size by omega) (.int .u8 102)).setCell (p := ⟨w4.heap.size, k, none⟩) (show w2.heap.size ≤ w4.heap.size by omega) (.int .u8 119)).setCell (p := ⟨w3.heap.size, k, none⟩) (show w2.heap.size ≤ w3.heap.size by omega) (.int .u8 120))
          clear n25 n24 n23 n54 n53 n43
          go_wp2
          go_roundw
          case rel => exact ⟨k + 1, by omega, by go_num, E1.out, E2.out, E3.out, E4.out, EB.out⟩
          case measure => simp [intOf]; omega
        · obtain rfl : k = 4 := by omega
          obtain ⟨w9, hw9⟩ : ∃ w9 : World, w9 = wr := ⟨_, rfl⟩
          rw [← hw9] at H1 H2 H3 H4 HB
          have L1 : w2.heap.size < w9.heap.size := H1.out.lt
          have L2 : w5.heap.size < w9.heap.size := H2.out.lt
          have L3 : w4.heap.size < w9.heap.size := H3.out.lt
          have L4 : w3.heap.size < w9.heap.size := H4.out.lt
          go_wp2
          go_loopw [14, 15, 16, 17] (fun v1 v2 v3 i wr => ∃ k : Nat, k ≤ 64 ∧ i = .int .i64 (k : Int) ∧ Below w9.heap.size w9 wr ∧ ((k = 0 ∧ v1 = .slice (some ⟨w2.heap.size, 0, none⟩) 4 4 ∧ v2 = .slice (some ⟨w5.heap.size, 0, none⟩) 4 4 ∧ v3 = .slice (some ⟨w4.heap.size, 0, none⟩) 4 4) ∨ (0 < k ∧ ∃ g1 c1 g2 c2 g3 c3 : Nat, v1 = .slice (some ⟨g1, 0, none⟩) (4 + k) c1 ∧ v2 = .slice (some ⟨g2, 0, none⟩) (4 + k) c2 ∧ v3 = .slice (some ⟨g3, 0, none⟩) (4 + k) c3 ∧ Many wr w9.heap.size g1 c1 (4 + k) 51 ∧ Many wr w9.heap.size g2 c2 (4 + k) 102 ∧ Many wr w9.heap.size g3 c3 (4 + k) 119 ∧ g1 ≠ g2 ∧ g1 ≠ g3 ∧ g2 ≠ g3))) (fun _ _ _ i _ => 64 - (intOf i).toNat)
          case atStart => exact ⟨0, by omega, rfl, by rw [hw9]; exact Below.refl _ _, .inl ⟨rfl, rfl, rfl, rfl⟩⟩
          case round =>
            clear hw9
            obtain ⟨k, hk, rfl, hbr, hcase⟩ := hrel
            by_cases hlt : k < 64
            · have tok1 : True := trivial
              rcases hcase with ⟨rfl, rfl, rfl, rfl⟩ | ⟨hk0, g1, c1, g2, c2, g3, c3, rfl, rfl, rfl, m1, m2, m3, d12, d13, d23⟩
              · go_wp2_with (first
                  | (at_builtin; have _t := tok1; refine wpList_append_grows _ rfl _ _ 22 rfl 5 i0 (.int .u8 0) 1 1 Try.underlying22 hi hz0 hz1 hz2 rfl (by decide) (some ⟨w2.heap.size, 0, none⟩) 4 4 (bs (List.replicate 4 51)) rfl (fun h => by cases h) rfl (four_holds (H1.out.below (show w2.heap.size < w9.heap.size by omega) (hbr.alloc hbr.size _))) ⟨wr.heap.size, 0, none⟩ 1 1 [.int .u8 51] rfl rfl (cell_one_new _ _ _) (one_u8 _) (by decide) (by decide) (by decide) ?_; intro v1 wa hv1 gv1; clear tok1; have hba := (hbr.alloc hbr.size (.cells #[.int .u8 51] 5)).grown gv1 (by have := hbr.size; simp; omega) (fun k hk => by cases hk); have tok2 : True := trivial)
                  | (at_builtin; have _t := tok2; refine wpList_append_grows _ rfl _ _ 22 rfl 5 i0 (.int .u8 0) 1 1 Try.underlying22 hi hz0 hz1 hz2 rfl (by decide) (some ⟨w5.heap.size, 0, none⟩) 4 4 (bs (List.replicate 4 102)) rfl (fun h => by cases h) rfl (four_holds (H2.out.below (show w5.heap.size < w9.heap.size by omega) (hba.alloc hba.size _))) ⟨wa.heap.size, 0, none⟩ 1 1 [.int .u8 102] rfl rfl (cell_one_new _ _ _) (one_u8 _) (by decide) (by decide) (by decide) ?_; intro v2 wb hv2 gv2; clear tok2; have hbb := (hba.alloc hba.size (.cells #[.int .u8 102] 5)).grown gv2 (by have := hba.size; simp; omega) (fun k hk => by cases hk); have tok3 : True := trivial)
                  | (at_builtin; have _t := tok3; refine wpList_append_grows _ rfl _ _ 22 rfl 5 i0 (.int .u8 0) 1 1 Try.underlying22 hi hz0 hz1 hz2 rfl (by decide) (some ⟨w4.heap.size, 0, none⟩) 4 4 (bs (List.replicate 4 119)) rfl (fun h => by cases h) rfl (four_holds (H3.out.below (show w4.heap.size < w9.heap.size by omega) (hbb.alloc hbb.size _))) ⟨wb.heap.size, 0, none⟩ 1 1 [.int .u8 119] rfl rfl (cell_one_new _ _ _) (one_u8 _) (by decide) (by decide) (by decide) ?_; intro v3 wc hv3 gv3; clear tok3; have hbc := (hbb.alloc hbb.size (.cells #[.int .u8 119] 5)).grown gv3 (by have := hbb.size; simp; omega) (fun k hk => by cases hk); have tok4 : True := trivial))
                go_roundw
                case rel =>
                  obtain ⟨g1, c1, e1, b1, l1⟩ := hv1.form (by decide)
                  obtain ⟨g2, c2, e2, b2, l2⟩ := hv2.form (by decide)
                  obtain ⟨g3, c3, e3, b3, l3⟩ := hv3.form (by decide)
                  have m1 : Many wa w9.heap.size g1 c1 5 51 := many_of hv1 rfl e1 (Nat.le_trans hbr.size (by simp))
                  have m2 : Many wb w9.heap.size g2 c2 5 102 := many_of hv2 rfl e2 (Nat.le_trans hba.size (by simp))
                  have m3 : Many wc w9.heap.size g3 c3 5 119 := many_of hv3 rfl e3 (Nat.le_trans hbb.size (by simp))
                  simp only [World.size_alloc] at b1 b2 b3
                  have s2 := gv2.size
                  have s3 := gv3.size
                  simp only [World.size_alloc] at s2 s3
                  (repeat apply Exists.intro)
                  exact ⟨⟨1, by omega, by go_num, hbc, .inr ⟨by omega, g1, c1, g2, c2, g3, c3, e1, e2, e3, (((m1.alloc _).grown gv2 (by simp)).alloc _).grown gv3 (by simp), (m2.alloc _).grown gv3 (by simp), m3, by omega, by omega, by omega⟩⟩, rfl⟩
                case measure => simp [intOf]
              · go_wp2_with (first
                  | (at_builtin; have _t := tok1; refine wpList_append_lies _ rfl _ _ 22 rfl w9.heap.size 5 i0 (.int .u8 0) 1 1 Try.underlying22 hi hz0 hz1 hz2 rfl (by decide) (.slice (some ⟨g1, 0, none⟩) (4 + k) c1) (4 + k) (bs (List.replicate (4 + k) 51)) rfl (World.ownsRow.alloc m1 _) ⟨wr.heap.size, 0, none⟩ 1 1 [.int .u8 51] rfl rfl (cell_one_new _ _ _) (one_u8 _) (by decide) (by unfold maxLen; omega) (by omega) (Nat.le_trans hbr.size (by simp)) (wr.heap.size + 1) (by simp) ?_; intro h1 e1 wa ownh1 grh1 ath1 lth1; clear tok1; have tok2 : True := trivial; have hba := (hbr.alloc hbr.size (.cells #[.int .u8 51] 5)).grown grh1 (by have := hbr.size; simp; omega) (fun k hk => by have := m1.lt.1; simp [Value.ownBlock] at hk; omega); have m2a := (m2.alloc (.cells #[.int .u8 51] 5)).grown grh1 (by simp [Value.ownBlock]; exact d12.symm); have m3a := (m3.alloc (.cells #[.int .u8 51] 5)).grown grh1 (by simp [Value.ownBlock]; exact d13.symm))
                  | (at_builtin; have _t := tok2; refine wpList_append_lies _ rfl _ _ 22 rfl w9.heap.size 5 i0 (.int .u8 0) 1 1 Try.underlying22 hi hz0 hz1 hz2 rfl (by decide) (.slice (some ⟨g2, 0, none⟩) (4 + k) c2) (4 + k) (bs (List.replicate (4 + k) 102)) rfl (World.ownsRow.alloc m2a _) ⟨wa.heap.size, 0, none⟩ 1 1 [.int .u8 102] rfl rfl (cell_one_new _ _ _) (one_u8 _) (by decide) (by unfold maxLen; omega) (by omega) (Nat.le_trans hba.size (by simp)) (wa.heap.size + 1) (by simp) ?_; intro h2 e2 wb ownh2 grh2 ath2 lth2; clear tok2; have tok3 : True := trivial; have hbb := (hba.alloc hba.size (.cells #[.int .u8 102] 5)).grown grh2 (by have := hba.size; simp; omega) (fun k hk => by have := m2a.lt.1; simp [Value.ownBlock] at hk; omega); have m3b := (m3a.alloc (.cells #[.int .u8 102] 5)).grown grh2 (by simp [Value.ownBlock]; exact d23.symm))
                  | (at_builtin; have _t := tok3; refine wpList_append_lies _ rfl _ _ 22 rfl w9.heap.size 5 i0 (.int .u8 0) 1 1 Try.underlying22 hi hz0 hz1 hz2 rfl (by decide) (.slice (some ⟨g3, 0, none⟩) (4 + k) c3) (4 + k) (bs (List.replicate (4 + k) 119)) rfl (World.ownsRow.alloc m3b _) ⟨wb.heap.size, 0, none⟩ 1 1 [.int .u8 119] rfl rfl (cell_one_new _ _ _) (one_u8 _) (by decide) (by unfold maxLen; omega) (by omega) (Nat.le_trans hbb.size (by simp)) (wb.heap.size + 1) (by simp) ?_; intro h3 e3 wc ownh3 grh3 ath3 lth3; clear tok3; have tok4 : True := trivial; have hbc := (hbb.alloc hbb.size (.cells #[.int .u8 119] 5)).grown grh3 (by have := hbb.size; simp; omega) (fun k hk => by have := m3b.lt.1; simp [Value.ownBlock] at hk; omega)))
                go_roundw
                case rel =>
                  have M1 : Many wa w9.heap.size h1 e1 (4 + k + 1) 51 := many_of ownh1 rfl rfl (Nat.le_refl _)
                  have M2 : Many wb w9.heap.size h2 e2 (4 + k + 1) 102 := many_of ownh2 rfl rfl (Nat.le_refl _)
                  have M3 : Many wc w9.heap.size h3 e3 (4 + k + 1) 119 := many_of ownh3 rfl rfl (Nat.le_refl _)
                  have q1 := m1.lt
                  have q2 := m2.lt
                  have q3 := m3.lt
                  have q4 := m2a.lt
                  have q5 := m3b.lt
                  have s1 := grh1.size
                  have s2 := grh2.size
                  have s3 := grh3.size
                  simp only [World.size_alloc] at s1 s2 s3
                  simp only [Value.ownBlock, Option.some.injEq] at ath1 ath2 ath3
                  have n1 : h1 ≠ g2 := by omega
                  have n2 : h1 ≠ g3 := by omega
                  have n3 : h2 ≠ g3 := by omega
                  have n4 : h1 ≠ h2 := by omega
                  have n5 : h1 ≠ h3 := by omega
                  have n6 : h2 ≠ h3 := by omega
                  (repeat apply Exists.intro)
                  exact ⟨⟨k + 1, by omega, by go_num, hbc, .inr ⟨by omega, h1, e1, h2, e2, h3, e3, rfl, rfl, rfl, (((M1.alloc _).grown grh2 (by simp [Value.ownBlock]; exact n1)).alloc _).grown grh3 (by simp [Value.ownBlock]; exact n2), (M2.alloc _).grown grh3 (by simp [Value.ownBlock]; exact n3), M3, n4, n5, n6⟩⟩, rfl⟩
                case measure => simp [intOf]; omega
            · obtain rfl : k = 64 := by omega
              rcases hcase with ⟨h, _⟩ | ⟨_, g1, c1, g2, c2, g3, c3, rfl, rfl, rfl, m1, m2, m3, _, _, _⟩
              · omega
              · have A1 := hd (H1.out.below L1 hbr)
                have A2 := hd (H2.out.below L2 hbr)
                have A3 := hd (H3.out.below L3 hbr)
                have A4 := hd (H4.out.below L4 hbr)
                have AY := hd ((HY2.out.below HB.out).below hbr)
                have M1 := hd m1
                have M2 := hd m2
                have M3 := hd m3
                have HWr : Hid (Below w.heap.size w wr) := HW2.out.trans ((HB.out.trans (hbr.mono HB.out.size)).mono HW2.out.size)
                clear m1 m2 m3 hbr H1 H2 H3 H4 HB HW2 HY2 HY7 L1 L2 L3 L4 o12 o23 o34 o45 o56
                go_wp2_with fail
                refine (forge_buf s t wr hs ht).mono ?_
                rintro e w10 ⟨rfl, hl10, hb10⟩
                have B1 := hd (A1.out.below A1.out.lt hb10)
                have B2 := hd (A2.out.below A2.out.lt hb10)
                have B3 := hd (A3.out.below A3.out.lt hb10)
                have B4 := hd (A4.out.below A4.out.lt hb10)
                have BY := hd (AY.out.below hb10)
                have BL := hd hl10
                have N1 := hd (M1.out.below hb10)
                have N2 := hd (M2.out.below hb10)
                have N3 := hd (M3.out.below hb10)
                have HW10 : Hid (Below w.heap.size w w10) := HWr.out.trans (hb10.mono HWr.out.size)
                clear hl10 hb10 A1 A2 A3 A4 AY M1 M2 M3 HWr
                go_wp2_with fail
                go_loopw [19] (fun i wx => ∃ k n : Nat, k ≤ 4 ∧ i = .int .i64 (k : Int) ∧ wx = w10.drewN n) (fun i _ => 4 - (intOf i).toNat)
                case atStart => exact ⟨0, 0, by omega, rfl, rfl⟩
                case round =>
                  obtain ⟨k, n2, hk, rfl, rfl⟩ := hrel
                  by_cases hlt : k < 4
                  · have cl := BL.out.cell (j := k) (by simp [Crc.by4]; omega)
                    have cy := BY.out.row k (by simp [Crc.by4]; omega)
                    rw [Nat.zero_add] at cy
                    have x1 := B1.out.cell (j := k) hlt hlt
                    have x2 := B2.out.cell (j := k) hlt hlt
                    have x3 := B3.out.cell (j := k) hlt hlt
                    have x4 := B4.out.cell (j := k) hlt hlt
                    generalize (Crc.by4 (Crc.fg s t)).getD k 0 = p at cl cy
                    go_wp2
                    go_quiet (fail)
                    go_wp2
                    go_roundw
                    case rel => exact ⟨k + 1, _, by omega, by go_num, rfl⟩
                    case measure => simp [intOf]; omega
                  · obtain rfl : k = 4 := by omega
                    clear B1 B2 B3 B4 BY BL
                    go_wp2
                    go_loop [20] (fun i => ∃ k : Nat, k ≤ 68 ∧ i = .int .i64 (k : Int)) (fun i => 68 - (intOf i).toNat)
                    case atStart => exact ⟨0, by omega, rfl⟩
                    case round =>
                      obtain ⟨k, hk, rfl⟩ := hrel
                      by_cases hlt : k < 68
                      · have y1 := N1.out.cell (j := k) hlt
                        have y2 := N2.out.cell (j := k) hlt
                        have y3 := N3.out.cell (j := k) hlt
                        go_wp2
                        go_round
                        case rel => exact ⟨k + 1, by omega, by go_num⟩
                        case measure => simp [intOf]; omega
                      · obtain rfl : k = 68 := by omega
                        go_wp2
                        go_ret
                        exact ⟨rfl, below_drewN HW10.out n2⟩
theorem walk (a0 : Int) (a1 : Int) (w : World) (w0 : (Lit.int .u32 a0).wf = true) (w1 : (Lit.int .u32 a1).wf = true) :
    Calls Try.prog 7 #[.int .u32 a0, .int .u32 a1] w fun e w' => e = .returned (.bool true) ∧ Below w.heap.size w w' := by
  obtain ⟨x, rfl, hx⟩ := wf_u32 w0
  obtain ⟨y, rfl, hy⟩ := wf_u32 w1
  exact walkB x y w hx hy
set_option linter.unusedVariables false
set_option maxRecDepth 100000 in
theorem lifted (os : Os) (started : os.Started) (H : Type) (enc : TypeId × Value → H) :
    ReturnsInHanded {} Try.checked os 7 .any (Rows.crcForgesSpec.pre6 enc Try.prog Try.f7 Rows.crcForgesRow.domain false) (Rows.crcForgesSpec.post enc Try.prog Try.f7 false true false false) := by
  refine returnsInHanded_of_change (C := Try.checked) own started (by kernel_rfl) Try.func7
    (ChangeSpec.witness6 (enc := enc) (C := Try.checked) false ⟨#[], #[.int .u32 0, .int .u32 0], []⟩ 8 (by kernel_rfl) (by kernel_rfl) (by kernel_rfl) (by kernel_rfl)) ?_
  intro W base args ds gs before hval0 hW hcnd _
  have hval : ∀ (j : Nat) t v, Try.f7.params[j]? = some t → args[j]? = some v → Value.okWide Try.prog W .any base t v := hval0
  have hW' := hW
  obtain ⟨p, q, hA0, hV, rfl, hfz, hnd⟩ := hW
  have hA : DataW.TrodAll enc Try.prog W 0 (fun _ => true) true Try.f7.params.toList args.toList ds p := hA0
  rw [Try.params7] at hA hval
  obtain ⟨v0, vs0, d0, ds0, p0, q0, hargs, rfl, rfl, h0, r0⟩ := trodAll_cons hA
  obtain ⟨v1, vs1, d1, ds1, p1, q1, rfl, rfl, rfl, h1, r1⟩ := trodAll_cons r0
  obtain ⟨rfl, rfl, rfl⟩ := trodAll_nil r1
  obtain rfl : args = #[v0, v1] := by cases args; simp_all
  obtain ⟨rfl, rfl⟩ := trodVars_none hV
  obtain ⟨a0, rfl, rfl, rfl, w0⟩ := open_int Try.underlying23 (hval 0 23 v0 rfl rfl) h0
  obtain ⟨a1, rfl, rfl, rfl, w1⟩ := open_int Try.underlying23 (hval 1 23 v1 rfl rfl) h1
  clear hA0 hval0
  refine (walk a0 a1 W w0 w1).mono fun e W' ⟨he, bel⟩ => ?_
  subst he
  exact ⟨_, rfl, _, _, _, [], _, [], hW', trodAll_mk1 (shut_bool Try.underlying4 _), (trodAll_cons_mk (shut_int Try.underlying23 w0) (trodAll_cons_mk (shut_int Try.underlying23 w1) trodAll_mk0)), rfl, bel.frame _, fun h => by cases h⟩

theorem over : Rows.crcForgesRow.holds Try.pinned (OpenSpec.ofChange Rows.crcForgesSpec) :=
  OpenClaim.holds_of_wide 7 Try.f7 rfl rfl rfl rfl rfl rfl rfl ⟨rfl, rfl, rfl, rfl, rfl⟩ rfl rfl rfl rfl rfl (by kernel_rfl) Try.func7 (by kernel_rfl)
    (of_decide_eq_true (by kernel_rfl)) (by unfold Func.isWrapper; first | (rw [if_pos (by decide +kernel)]; kernel_rfl) | (rw [if_neg (by decide +kernel)]; exact ⟨rfl, rfl⟩))
    (fun os started H enc _ => lifted os started H enc)

end Forges

theorem crcForges_holds : Rows.CrcForgesSaid := Forges.over
#print axioms crcForges_holds
end Go.Proofs.Ytfodnbbpkonfpaa
