/-
  THE REFERENCE OF LAYER 4: Decode of what has its length.
-/
import Derived.Test.YtnjhbidialngmaaXhbe
namespace Go.Proofs.Ytnjhbidialngmaa
open Go.RowKit
namespace Vt
theorem gmem {l : List Nat} {i : Nat} (h : i < l.length) : l.getD i 0 ∈ l := by
  rw [List.getD_eq_getElem?_getD, List.getElem?_eq_getElem h]
  exact List.getElem_mem h
attribute [local go_sem] Oper.semAt_some
attribute [local go_sem ↓] slice_hidQ
set_option maxRecDepth 100000 in
set_option maxHeartbeats 2000000 in
theorem r4dec_main (b off c a : Nat) (l : List Nat) (w : World) (hI : IsB w (.slice (some ⟨b, off, none⟩) l.length c) l) (ha : a < l.length) (hm : l.length ≤ 9223372036854775000) (h7 : l.getD a 0 = 167) (n : Nat) (hn : lnR (l.drop a) = (n, 0)) (hn2 : n < 2097152) (hs : a + n + 9 ≤ l.length) (hrl : rl (l.drop a) = (n, 0)) :
    Calls Try.prog 67 #[.slice (some ⟨b, off, none⟩) l.length c, .int .i64 (a : Int)] w fun e' w' => e' = .returned (dval (dcd (l.drop a))) ∧ Below w.heap.size w w' := by
  have r0 := hI.row a ha
  rw [h7] at r0
  have hbw : b < w.heap.size := lt_of_cell r0
  have n1 : ¬ b = w.heap.size := by omega
  have n2 : ¬ w.heap.size = b := by omega
  have h1 : ¬ (a : Int) ≥ (l.length : Int) := by omega
  have HLE := hd (fun o => r4_length b off c a l (w.alloc o) (hI.below ((Below.refl _ w).alloc (Nat.le_refl _) o)) ha hm)
  rw [hn] at HLE
  have hb : ¬ (l.length : Int) - ((a : Int) + 4) < (n : Int) + 5 := by omega
  obtain ⟨va, vc, hsl, hsI⟩ := sub_is hI (a + 4) n (by omega)
  obtain ⟨ta, tc, hsl2, hsI2⟩ := sub_is hI (a + 1) (3 + n) (by omega)
  have HI := hd hI
  have HSI := hd hsI
  have HSI2 := hd hsI2
  clear hI hn h7 hsI hsI2
  simp only [Int.natCast_add, Int.cast_ofNat_Int] at hsl hsl2
  have ha0 : ¬ (a : Int) < 0 := by omega
  go_enter Try.func67, Try.ntmps67
  go_wp2_with fail
  refine Calls.mono (HLE.out _) ?_
  rintro e' w1 ⟨rfl, rfl⟩
  go_wp2_with fail
  obtain ⟨W0, hW0⟩ : ∃ W0, W0 = w.alloc (.cells #[.int .i64 0, .int .u64 0, .int .i64 0, .string ⟨#[]⟩, .string ⟨#[]⟩, .int .u64 0, .int .i64 0, .int .i64 0, .int .i64 0, .string ⟨#[]⟩, .int .i64 0, .int .i64 0, .int .i64 0, .int .u32 0] 34) := ⟨_, rfl⟩
  rw [← hW0]
  have HB0 : Hid (Below w.heap.size w W0) := by rw [hW0]; exact (Below.refl _ w).alloc (Nat.le_refl _) _
  have HR0 : Hid (Blk W0 w.heap.size 34 [.int .i64 0, .int .u64 0, .int .i64 0, .string ⟨#[]⟩, .string ⟨#[]⟩, .int .u64 0, .int .i64 0, .int .i64 0, .int .i64 0, .string ⟨#[]⟩, .int .i64 0, .int .i64 0, .int .i64 0, .int .u32 0]) := by rw [hW0]; exact Blk.new w 34 _
  obtain ⟨bd_, hbd⟩ : ∃ bd_, bd_ = (l.drop (a + 4)).take n := ⟨_, rfl⟩
  rw [← hbd] at HSI
  have hbl : bd_.length = n := by rw [hbd, List.length_take, List.length_drop]; omega
  have HBD : Hid (((l.drop a).drop 4).take n = bd_) := hd (by rw [List.drop_drop, hbd])
  have HBL := hd hbl
  have HRL := hd hrl
  clear hW0 hbd hbl hrl
  have y0 := HR0.out.cell 0 _ rfl
  have yz0 := HR0.out.frozen 0
  have y1 := HR0.out.cell 1 _ rfl
  have yz1 := HR0.out.frozen 1
  have y2 := HR0.out.cell 2 _ rfl
  have yz2 := HR0.out.frozen 2
  have y3 := HR0.out.cell 3 _ rfl
  have yz3 := HR0.out.frozen 3
  have y4 := HR0.out.cell 4 _ rfl
  have yz4 := HR0.out.frozen 4
  have y5 := HR0.out.cell 5 _ rfl
  have yz5 := HR0.out.frozen 5
  have y6 := HR0.out.cell 6 _ rfl
  have yz6 := HR0.out.frozen 6
  have y7 := HR0.out.cell 7 _ rfl
  have yz7 := HR0.out.frozen 7
  have y8 := HR0.out.cell 8 _ rfl
  have yz8 := HR0.out.frozen 8
  have y9 := HR0.out.cell 9 _ rfl
  have yz9 := HR0.out.frozen 9
  have y10 := HR0.out.cell 10 _ rfl
  have yz10 := HR0.out.frozen 10
  have y11 := HR0.out.cell 11 _ rfl
  have yz11 := HR0.out.frozen 11
  have y12 := HR0.out.cell 12 _ rfl
  have yz12 := HR0.out.frozen 12
  have y13 := HR0.out.cell 13 _ rfl
  have yz13 := HR0.out.frozen 13
  go_loopw [11] (fun y wi => ∃ j : Nat, j ≤ n ∧ y = .int .i64 (j : Int) ∧ (∀ i, i < j → bd_.getD i 0 ≠ 167) ∧ wi = W0) (fun y _ => n - (intOf y).toNat)
  case atStart => exact ⟨0, by omega, rfl, by intro i hi; omega, rfl⟩
  case round =>
    obtain ⟨j, hj, rfl, hall, hwr⟩ := hrel
    subst hwr
    have HAL := hd hall
    clear hall
    by_cases hjn : j < n
    · have hjn' : (j : Int) < (n : Int) := by omega
      obtain ⟨b', off', rfl⟩ : ∃ b' off', va = some ⟨b', off', none⟩ := by
        obtain ⟨_, _, ⟨h, _⟩ | ⟨b', off', c', e, _⟩⟩ := HSI.out
        · have := HBL.out; rw [h] at this; simp at this; omega
        · injection e with e; exact ⟨b', off', e⟩
      have r1 := (HSI.out.below HB0.out).row j (by rw [HBL.out]; exact hjn)
      by_cases h7 : bd_.getD j 0 = 167
      · rw [h7] at r1
        have HDC : Hid (dcd (l.drop a) = (zf, 0, 45)) := hd (by
          have hx : nx bd_ < n := by
            rcases Nat.lt_or_ge j (nx bd_) with h | h
            · exact absurd h7 (nx_lt h)
            · omega
          unfold dcd
          rw [HRL.out]
          simp only
          rw [if_neg (by simp), HBD.out, if_pos hx])
        clear h7
        go_wp2_with fail
        refine bodyPost_ret (results_cell3 rfl _ _ w.heap.size 34 #[.int .i64 0, .int .u64 0, .int .i64 0, .string ⟨#[]⟩, .string ⟨#[]⟩, .int .u64 0, .int .i64 0, .int .i64 0, .int .i64 0, .string ⟨#[]⟩, .int .i64 0, .int .i64 0, .int .i64 0, .int .u32 0] (0, 0) _ rfl (setL_blk [.int .i64 0, .int .u64 0, .int .i64 0, .string ⟨#[]⟩, .string ⟨#[]⟩, .int .u64 0, .int .i64 0, .int .i64 0, .int .i64 0, .string ⟨#[]⟩, .int .i64 0, .int .i64 0, .int .i64 0, .int .u32 0] _ 0 [] [.int .i64 0, .int .u64 0, .int .i64 0, .string ⟨#[]⟩, .string ⟨#[]⟩, .int .u64 0, .int .i64 0, .int .i64 0, .int .i64 0, .string ⟨#[]⟩, .int .i64 0, .int .i64 0, .int .i64 0, .int .u32 0] rfl rfl HR0.out) Try.underlying34 rfl (by kernel_rfl)) rfl ?_
        refine ⟨by rw [HDC.out]; rfl, ?_⟩
        exact (setL_keepO (B := w.heap.size) (O := w.heap.size) [.int .i64 0, .int .u64 0, .int .i64 0, .string ⟨#[]⟩, .string ⟨#[]⟩, .int .u64 0, .int .i64 0, .int .i64 0, .int .i64 0, .string ⟨#[]⟩, .int .i64 0, .int .i64 0, .int .i64 0, .int .u32 0] _ w 0 (Nat.le_refl _) (KeepO.of_below HB0.out)).below (Nat.le_refl _) (Nat.le_refl _)
      · have hb7 : (((bd_.getD j 0 : Nat) : Int) == 167) = false := by rw [beq_eq_false_iff_ne]; omega
        have HAL2 : Hid (∀ i, i < j + 1 → bd_.getD i 0 ≠ 167) := fun i hi => by
          rcases Nat.lt_or_ge i j with h | h
          · exact HAL.out i h
          · obtain rfl : i = j := by omega
            exact h7
        generalize bd_.getD j 0 = x at *
        clear h7
        go_wp2_with fail
        go_roundw
        case rel => exact ⟨j + 1, by omega, by go_num, HAL2.out, trivial⟩
        case measure => simp [intOf]; omega
    · obtain rfl : j = n := by omega
      have HNX : Hid (¬ nx bd_ < j) := fun h => HAL.out _ h (nx_at (by rw [HBL.out]; exact h))
      go_wp2_with fail
      obtain ⟨q5, hq5⟩ : ∃ q5, q5 = ((l.drop a).drop (4 + j)).take 5 := ⟨_, rfl⟩
      have hq5l : q5.length = 5 := by rw [hq5, List.length_take, List.length_drop, List.length_drop]; omega
      have HQ5 := hd hq5
      have HQL := hd hq5l
      have HQG : Hid (∀ i, i < 5 → l.getD (a + 4 + j + i) 0 = q5.getD i 0) := fun i hi => by
        rw [hq5, List.getD_eq_getElem?_getD, List.getD_eq_getElem?_getD, List.getElem?_take_of_lt hi, List.getElem?_drop, List.getElem?_drop, show a + (4 + j + i) = a + 4 + j + i by omega]
      have HD44 : Hid ((¬ ((∀ x ∈ q5, x < 128) ∧ nm q5 = Crc.go 0 (((l.drop a).drop 1).take (3 + j)))) → dcd (l.drop a) = (zf, 0, 44)) := fun h => by
        unfold dcd
        rw [HRL.out]
        simp only
        rw [if_neg (by simp), HBD.out, if_neg HNX.out, ← HQ5.out, if_pos h]
      clear hq5 hq5l
      go_loopw [12, 13] (fun s y wi => ∃ t : Nat, t ≤ 5 ∧ s = .int .i64 (nm (q5.take t) : Int) ∧ y = .int .i64 (t : Int) ∧ (∀ x ∈ q5.take t, x < 128) ∧ (0 < t → q5.getD 0 0 ≤ 15) ∧ wi = wr) (fun _ y _ => 5 - (intOf y).toNat)
      case atStart => exact ⟨0, by omega, rfl, rfl, by simp, by omega, rfl⟩
      case round =>
        obtain ⟨t, ht, rfl, rfl, hall, hf, hwr⟩ := hrel
        subst hwr
        have HA5 := hd hall
        have HF0 := hd hf
        have hnl := nm_lt hall
        have htl : (q5.take t).length = t := by rw [List.length_take, HQL.out]; omega
        rw [htl] at hnl
        have hnl2 : nm (q5.take t) < 34359738368 := Nat.lt_of_lt_of_le hnl (Nat.le_trans (Nat.pow_le_pow_right (by omega) ht) (by decide))
        clear hall hf hnl htl
        by_cases ht5 : t < 5
        · have r1 := (HI.out.below HB0.out).row (a + 4 + j + t) (by omega)
          have hx := HI.out.1 _ (gmem (l := l) (i := a + 4 + j + t) (by omega))
          rw [HQG.out t ht5] at r1 hx
          have HST : Hid (q5.take (t + 1) = q5.take t ++ [q5.getD t 0]) := hd (take_succ_getD (by rw [HQL.out]; exact ht5))
          have HMX : Hid (q5.getD t 0 ∈ q5) := hd (gmem (by rw [HQL.out]; exact ht5))
          by_cases hd1 : q5.getD t 0 > 127
          · have HDC : Hid (dcd (l.drop a) = (zf, 0, 44)) := hd (HD44.out (fun h => by have := h.1 _ HMX.out; omega))
            have hb1 : ((q5.getD t 0 : Nat) : Int) > 127 := by omega
            generalize q5.getD t 0 = x at *
            clear hd1
            go_wp2_with fail
            refine bodyPost_ret (results_cell3 rfl _ _ w.heap.size 34 #[.int .i64 0, .int .u64 0, .int .i64 0, .string ⟨#[]⟩, .string ⟨#[]⟩, .int .u64 0, .int .i64 0, .int .i64 0, .int .i64 0, .string ⟨#[]⟩, .int .i64 0, .int .i64 0, .int .i64 0, .int .u32 0] (0, 0) _ rfl (setL_blk [.int .i64 0, .int .u64 0, .int .i64 0, .string ⟨#[]⟩, .string ⟨#[]⟩, .int .u64 0, .int .i64 0, .int .i64 0, .int .i64 0, .string ⟨#[]⟩, .int .i64 0, .int .i64 0, .int .i64 0, .int .u32 0] _ 0 [] [.int .i64 0, .int .u64 0, .int .i64 0, .string ⟨#[]⟩, .string ⟨#[]⟩, .int .u64 0, .int .i64 0, .int .i64 0, .int .i64 0, .string ⟨#[]⟩, .int .i64 0, .int .i64 0, .int .i64 0, .int .u32 0] rfl rfl HR0.out) Try.underlying34 rfl (by kernel_rfl)) rfl ?_
            refine ⟨by rw [HDC.out]; rfl, ?_⟩
            exact (setL_keepO (B := w.heap.size) (O := w.heap.size) [.int .i64 0, .int .u64 0, .int .i64 0, .string ⟨#[]⟩, .string ⟨#[]⟩, .int .u64 0, .int .i64 0, .int .i64 0, .int .i64 0, .string ⟨#[]⟩, .int .i64 0, .int .i64 0, .int .i64 0, .int .u32 0] _ w 0 (Nat.le_refl _) (KeepO.of_below HB0.out)).below (Nat.le_refl _) (Nat.le_refl _)
          · by_cases ht0 : t = 0
            · subst ht0
              simp only [Nat.add_zero] at r1
              by_cases hd2 : q5.getD 0 0 > 15
              · have HDC : Hid (dcd (l.drop a) = (zf, 0, 44)) := hd (HD44.out (fun h => by
                  have h1 := Crc.go_lt 0 (((l.drop a).drop 1).take (3 + j))
                  obtain ⟨x0, r, hq⟩ : ∃ x0 r, q5 = x0 :: r := by
                    cases hq : q5 with
                    | nil => have := HQL.out; rw [hq] at this; simp at this
                    | cons x0 r => exact ⟨x0, r, rfl⟩
                  have h2 := h.2
                  have h3 := HQL.out
                  rw [hq] at h2 hd2 h3
                  simp only [List.getD_cons_zero] at hd2
                  simp only [List.length_cons] at h3
                  rw [nm_cons, show r.length = 4 by omega] at h2
                  have : (128 : Nat) ^ 4 = 268435456 := by decide
                  rw [this] at h2
                  omega))
                have hb1 : ¬ ((q5.getD 0 0 : Nat) : Int) > 127 := by omega
                have hb2 : ((q5.getD 0 0 : Nat) : Int) > 15 := by omega
                generalize q5.getD 0 0 = x at *
                clear hd1 hd2
                go_wp2_with fail
                refine bodyPost_ret (results_cell3 rfl _ _ w.heap.size 34 #[.int .i64 0, .int .u64 0, .int .i64 0, .string ⟨#[]⟩, .string ⟨#[]⟩, .int .u64 0, .int .i64 0, .int .i64 0, .int .i64 0, .string ⟨#[]⟩, .int .i64 0, .int .i64 0, .int .i64 0, .int .u32 0] (0, 0) _ rfl (setL_blk [.int .i64 0, .int .u64 0, .int .i64 0, .string ⟨#[]⟩, .string ⟨#[]⟩, .int .u64 0, .int .i64 0, .int .i64 0, .int .i64 0, .string ⟨#[]⟩, .int .i64 0, .int .i64 0, .int .i64 0, .int .u32 0] _ 0 [] [.int .i64 0, .int .u64 0, .int .i64 0, .string ⟨#[]⟩, .string ⟨#[]⟩, .int .u64 0, .int .i64 0, .int .i64 0, .int .i64 0, .string ⟨#[]⟩, .int .i64 0, .int .i64 0, .int .i64 0, .int .u32 0] rfl rfl HR0.out) Try.underlying34 rfl (by kernel_rfl)) rfl ?_
                refine ⟨by rw [HDC.out]; rfl, ?_⟩
                exact (setL_keepO (B := w.heap.size) (O := w.heap.size) [.int .i64 0, .int .u64 0, .int .i64 0, .string ⟨#[]⟩, .string ⟨#[]⟩, .int .u64 0, .int .i64 0, .int .i64 0, .int .i64 0, .string ⟨#[]⟩, .int .i64 0, .int .i64 0, .int .i64 0, .int .u32 0] _ w 0 (Nat.le_refl _) (KeepO.of_below HB0.out)).below (Nat.le_refl _) (Nat.le_refl _)
              · have HN1 : Hid (nm (q5.take (0 + 1)) = 128 * nm (q5.take 0) + q5.getD 0 0) := hd (by rw [HST.out, nm_snoc]; omega)
                have HA6 : Hid (∀ x ∈ q5.take (0 + 1), x < 128) := fun x hx => by
                  rw [HST.out] at hx
                  rcases List.mem_append.1 hx with h | h
                  · exact HA5.out x h
                  · rw [List.mem_singleton.1 h]; omega
                have hb1 : ¬ ((q5.getD 0 0 : Nat) : Int) > 127 := by omega
                have hb2 : ¬ ((q5.getD 0 0 : Nat) : Int) > 15 := by omega
                have HF6 : Hid (q5.getD 0 0 ≤ 15) := hd (by omega)
                generalize q5.getD 0 0 = x at *
                generalize nm (q5.take 0) = y at *
                clear hd1 hd2
                go_wp2_with fail
                go_roundw
                case rel => exact ⟨0 + 1, by omega, by rw [HN1.out]; go_num, by go_num, HA6.out, fun _ => HF6.out, trivial⟩
                case measure => simp [intOf]
            · have HN1 : Hid (nm (q5.take (t + 1)) = 128 * nm (q5.take t) + q5.getD t 0) := hd (by rw [HST.out, nm_snoc]; omega)
              have HA6 : Hid (∀ x ∈ q5.take (t + 1), x < 128) := fun x hx => by
                rw [HST.out] at hx
                rcases List.mem_append.1 hx with h | h
                · exact HA5.out x h
                · rw [List.mem_singleton.1 h]; omega
              have hb1 : ¬ ((q5.getD t 0 : Nat) : Int) > 127 := by omega
              have hb2 : ((t : Int) == 0) = false := by rw [beq_eq_false_iff_ne]; omega
              have HF6 : Hid (q5.getD 0 0 ≤ 15) := hd (HF0.out (by omega))
              generalize q5.getD t 0 = x at *
              generalize nm (q5.take t) = y at *
              clear hd1 ht0
              go_wp2_with fail
              go_roundw
              case rel => exact ⟨t + 1, by omega, by rw [HN1.out]; go_num, by go_num, HA6.out, fun _ => HF6.out, trivial⟩
              case measure => simp [intOf]; omega
        · obtain rfl : t = 5 := by omega
          have hq5t : q5.take 5 = q5 := List.take_of_length_le (by rw [HQL.out]; omega)
          rw [hq5t] at HA5 ⊢
          have hS : nm q5 < 4294967296 := by
            have h0 := HF0.out (by omega)
            have h3 := HQL.out
            have h4 := HA5.out
            obtain ⟨x0, r, hq⟩ : ∃ x0 r, q5 = x0 :: r := by
              cases hq : q5 with
              | nil => rw [hq] at h3; simp at h3
              | cons x0 r => exact ⟨x0, r, rfl⟩
            rw [hq] at h0 h3 h4 ⊢
            simp only [List.getD_cons_zero] at h0
            simp only [List.length_cons] at h3
            have h5 := nm_lt (l := r) (fun x hx => h4 x (List.mem_cons_of_mem _ hx))
            rw [nm_cons]
            rw [show r.length = 4 by omega] at h5 ⊢
            have : (128 : Nat) ^ 4 = 268435456 := by decide
            rw [this] at h5 ⊢
            omega
          have HTX : Hid (((l.drop a).drop 1).take (3 + j) = (l.drop (a + 1)).take (3 + j)) := hd (by rw [List.drop_drop])
          obtain ⟨tx, htx⟩ : ∃ tx, tx = (l.drop (a + 1)).take (3 + j) := ⟨_, rfl⟩
          rw [← htx] at HSI2 HTX
          have htl : tx.length = 3 + j := by rw [htx, List.length_take, List.length_drop]; omega
          rw [HTX.out] at HD44
          have hsl3 : ∀ w, (slQ 36 (.slice (some ⟨b, off, none⟩) l.length c) (some (.int .i64 ((a : Int) + 1))) (some (.int .i64 ((a : Int) + 4 + (j : Int)))) none).run Try.prog w = .ok (.slice ta (3 + j) tc) w := by
            intro w
            have := hsl2 w
            rwa [show (a : Int) + 1 + (3 + (j : Int)) = (a : Int) + 4 + (j : Int) by omega] at this
          have HSU := hd (r1_sum _ tx wr (by have := HSI2.out.below HB0.out; exact this) (by omega))
          have HTXQ := hd htx
          clear hsl2 hq5t htx htl HF0
          obtain ⟨S, hSS⟩ : ∃ S, S = nm q5 := ⟨_, rfl⟩
          rw [← hSS] at hS HD44 ⊢
          have HSS := hd hSS
          clear hSS hnl2
          go_wp2_with fail
          refine Calls.mono HSU.out ?_
          rintro e' w9 ⟨rfl, hw9⟩
          subst hw9
          have hcr := Crc.go_lt 0 tx
          obtain ⟨R, hR⟩ : ∃ R, R = Crc.go 0 tx := ⟨_, rfl⟩
          rw [← hR] at HD44 hcr ⊢
          have HRR := hd hR
          clear HSU hR
          by_cases hSR : S = R
          · have hbR : ((S : Int) != (R : Int)) = false := by rw [hSR]; simp
            have HDG : Hid (dcd (l.drop a) = match opF bd_ with | none => (zf, 0, 45) | some f => (f, j + 9, 0)) := hd (by
              unfold dcd
              rw [HRL.out]
              simp only
              rw [if_neg (by simp), HBD.out, if_neg HNX.out, ← HQ5.out, if_neg (fun h => h ⟨HA5.out, by rw [HTX.out, ← HSS.out, hSR]; exact HRR.out⟩)]
              rfl)
            go_wp2_with fail
            refine Calls.mono (r4_plain _ bd_ _ (HSI.out.below HB0.out) (by rw [HBL.out]; omega)) ?_
            rintro e' w2 ⟨hpl, hb2⟩
            have hsw := HR0.out.lt
            have HR2 := hd (HR0.out.keep hb2)
            have HB2 := hd (HB0.out.trans (hb2.mono HB0.out.size))
            have hby := HSI.out.1
            have HOB := hd (fun h0 f => opF_bdy (l := bd_) hby h0 f)
            clear hb2 HR0 HB0 hby hSR y0 yz0 y1 yz1 y2 yz2 y3 yz3 y4 yz4 y5 yz5 y6 yz6 y7 yz7 y8 yz8 y9 yz9 y10 yz10 y11 yz11 y12 yz12 y13 yz13
            rcases hpl with ⟨h0, u, rfl, hJ⟩ | ⟨h0, rfl⟩
            · obtain ⟨ua, uc, rfl, huc⟩ := hJ.shape
              have HJ := hd hJ
              have hpb := hJ.isB
              have hpl2 : (plain bd_).length ≤ 4194304 := by
                have := plain_len bd_; have := HBL.out; omega
              have HOP := hd (r4_opened _ (plain bd_) w2 hpb hpl2)
              have HOB2 := hd (HOB.out h0)
              clear hJ hpb HOB h0 hpl2
              go_wp2_with fail
              refine Calls.mono HOP.out ?_
              rintro e' w3 ⟨hop, hb3⟩
              have HR3 := hd (HR2.out.keep hb3)
              have HB3 := hd (HB2.out.trans (hb3.mono HB2.out.size))
              clear hb3 HR2 HB2 HOP HJ
              rcases hop with ⟨f, hf, rfl⟩ | ⟨hno, rfl⟩
              · have HDC : Hid (dcd (l.drop a) = (f, j + 9, 0)) := hd (by rw [HDG.out, (HOB2.out f).2 hf])
                clear hf HDG HOB2
                obtain ⟨k, ⟨rl, rk, rkey, rval⟩, ⟨pl, pk, pa, pn, pkey⟩, ⟨ec, eb, ef, es⟩⟩ := f
                simp only [fv]
                have y0 := HR3.out.cell 0 _ rfl
                have yz0 := HR3.out.frozen 0
                have y1 := HR3.out.cell 1 _ rfl
                have yz1 := HR3.out.frozen 1
                have y2 := HR3.out.cell 2 _ rfl
                have yz2 := HR3.out.frozen 2
                have y3 := HR3.out.cell 3 _ rfl
                have yz3 := HR3.out.frozen 3
                have y4 := HR3.out.cell 4 _ rfl
                have yz4 := HR3.out.frozen 4
                have y5 := HR3.out.cell 5 _ rfl
                have yz5 := HR3.out.frozen 5
                have y6 := HR3.out.cell 6 _ rfl
                have yz6 := HR3.out.frozen 6
                have y7 := HR3.out.cell 7 _ rfl
                have yz7 := HR3.out.frozen 7
                have y8 := HR3.out.cell 8 _ rfl
                have yz8 := HR3.out.frozen 8
                have y9 := HR3.out.cell 9 _ rfl
                have yz9 := HR3.out.frozen 9
                have y10 := HR3.out.cell 10 _ rfl
                have yz10 := HR3.out.frozen 10
                have y11 := HR3.out.cell 11 _ rfl
                have yz11 := HR3.out.frozen 11
                have y12 := HR3.out.cell 12 _ rfl
                have yz12 := HR3.out.frozen 12
                have y13 := HR3.out.cell 13 _ rfl
                have yz13 := HR3.out.frozen 13
                have hlt3 := HR3.out.lt
                have nn1 : ¬ w.heap.size = w3.heap.size := by omega
                have nn2 : ¬ w3.heap.size = w.heap.size := by omega
                go_wp2_with fail
                refine bodyPost_ret (results_cell3 rfl _ _ w.heap.size 34 #[.int .i64 k, .int .u64 (rl : Int), .int .i64 rk, .string rkey, .string rval, .int .u64 (pl : Int), .int .i64 pk, .int .i64 pa, .int .i64 pn, .string pkey, .int .i64 ec, .int .i64 eb, .int .i64 ef, .int .u32 (es : Int)] (0, 0) _ rfl ((setL_blk [.int .i64 k, .int .u64 (rl : Int), .int .i64 rk, .string rkey, .string rval, .int .u64 (pl : Int), .int .i64 pk, .int .i64 pa, .int .i64 pn, .string pkey, .int .i64 ec, .int .i64 eb, .int .i64 ef, .int .u32 (es : Int)] _ 0 [] [.int .i64 0, .int .u64 0, .int .i64 0, .string ⟨#[]⟩, .string ⟨#[]⟩, .int .u64 0, .int .i64 0, .int .i64 0, .int .i64 0, .string ⟨#[]⟩, .int .i64 0, .int .i64 0, .int .i64 0, .int .u32 0] rfl rfl HR3.out).alloc _) Try.underlying34 rfl (by kernel_rfl)) rfl ?_
                refine ⟨by rw [HDC.out]; simp only [dval, fv, Int.natCast_add, Int.cast_ofNat_Int]; rfl, ?_⟩
                have hfb := (setL_keepO (B := w.heap.size) (O := w.heap.size) [.int .i64 k, .int .u64 (rl : Int), .int .i64 rk, .string rkey, .string rval, .int .u64 (pl : Int), .int .i64 pk, .int .i64 pa, .int .i64 pn, .string pkey, .int .i64 ec, .int .i64 eb, .int .i64 ef, .int .u32 (es : Int)] _ w 0 (Nat.le_refl _) (KeepO.of_below HB3.out)).below (Nat.le_refl _) (Nat.le_refl _)
                exact hfb.alloc hfb.size _
              · have HDC : Hid (dcd (l.drop a) = (zf, 0, 45)) := hd (by
                  rw [HDG.out]
                  cases ho : opF bd_ with
                  | none => rfl
                  | some f => exact absurd ((HOB2.out f).1 ho) (hno f))
                clear hno HDG HOB2
                simp only [fv, zf, zr, zp, ze]
                have y0 := HR3.out.cell 0 _ rfl
                have yz0 := HR3.out.frozen 0
                have y1 := HR3.out.cell 1 _ rfl
                have yz1 := HR3.out.frozen 1
                have y2 := HR3.out.cell 2 _ rfl
                have yz2 := HR3.out.frozen 2
                have y3 := HR3.out.cell 3 _ rfl
                have yz3 := HR3.out.frozen 3
                have y4 := HR3.out.cell 4 _ rfl
                have yz4 := HR3.out.frozen 4
                have y5 := HR3.out.cell 5 _ rfl
                have yz5 := HR3.out.frozen 5
                have y6 := HR3.out.cell 6 _ rfl
                have yz6 := HR3.out.frozen 6
                have y7 := HR3.out.cell 7 _ rfl
                have yz7 := HR3.out.frozen 7
                have y8 := HR3.out.cell 8 _ rfl
                have yz8 := HR3.out.frozen 8
                have y9 := HR3.out.cell 9 _ rfl
                have yz9 := HR3.out.frozen 9
                have y10 := HR3.out.cell 10 _ rfl
                have yz10 := HR3.out.frozen 10
                have y11 := HR3.out.cell 11 _ rfl
                have yz11 := HR3.out.frozen 11
                have y12 := HR3.out.cell 12 _ rfl
                have yz12 := HR3.out.frozen 12
                have y13 := HR3.out.cell 13 _ rfl
                have yz13 := HR3.out.frozen 13
                have hlt3 := HR3.out.lt
                have nn1 : ¬ w.heap.size = w3.heap.size := by omega
                have nn2 : ¬ w3.heap.size = w.heap.size := by omega
                go_wp2_with fail
                refine bodyPost_ret (results_cell3 rfl _ _ w.heap.size 34 #[.int .i64 0, .int .u64 0, .int .i64 0, .string ⟨#[]⟩, .string ⟨#[]⟩, .int .u64 0, .int .i64 0, .int .i64 0, .int .i64 0, .string ⟨#[]⟩, .int .i64 0, .int .i64 0, .int .i64 0, .int .u32 0] (0, 0) _ rfl ((setL_blk [.int .i64 0, .int .u64 0, .int .i64 0, .string ⟨#[]⟩, .string ⟨#[]⟩, .int .u64 0, .int .i64 0, .int .i64 0, .int .i64 0, .string ⟨#[]⟩, .int .i64 0, .int .i64 0, .int .i64 0, .int .u32 0] _ 0 [] [.int .i64 0, .int .u64 0, .int .i64 0, .string ⟨#[]⟩, .string ⟨#[]⟩, .int .u64 0, .int .i64 0, .int .i64 0, .int .i64 0, .string ⟨#[]⟩, .int .i64 0, .int .i64 0, .int .i64 0, .int .u32 0] rfl rfl HR3.out).alloc _) Try.underlying34 rfl (by kernel_rfl)) rfl ?_
                refine ⟨by rw [HDC.out]; rfl, ?_⟩
                have hfb := (setL_keepO (B := w.heap.size) (O := w.heap.size) [.int .i64 0, .int .u64 0, .int .i64 0, .string ⟨#[]⟩, .string ⟨#[]⟩, .int .u64 0, .int .i64 0, .int .i64 0, .int .i64 0, .string ⟨#[]⟩, .int .i64 0, .int .i64 0, .int .i64 0, .int .u32 0] _ w 0 (Nat.le_refl _) (KeepO.of_below HB3.out)).below (Nat.le_refl _) (Nat.le_refl _)
                exact hfb.alloc hfb.size _
            · have HDC : Hid (dcd (l.drop a) = (zf, 0, 45)) := hd (by rw [HDG.out, opF_no (fun h => h0 h.1)])
              clear h0 HDG HOB
              have y0 := HR2.out.cell 0 _ rfl
              have yz0 := HR2.out.frozen 0
              have y1 := HR2.out.cell 1 _ rfl
              have yz1 := HR2.out.frozen 1
              have y2 := HR2.out.cell 2 _ rfl
              have yz2 := HR2.out.frozen 2
              have y3 := HR2.out.cell 3 _ rfl
              have yz3 := HR2.out.frozen 3
              have y4 := HR2.out.cell 4 _ rfl
              have yz4 := HR2.out.frozen 4
              have y5 := HR2.out.cell 5 _ rfl
              have yz5 := HR2.out.frozen 5
              have y6 := HR2.out.cell 6 _ rfl
              have yz6 := HR2.out.frozen 6
              have y7 := HR2.out.cell 7 _ rfl
              have yz7 := HR2.out.frozen 7
              have y8 := HR2.out.cell 8 _ rfl
              have yz8 := HR2.out.frozen 8
              have y9 := HR2.out.cell 9 _ rfl
              have yz9 := HR2.out.frozen 9
              have y10 := HR2.out.cell 10 _ rfl
              have yz10 := HR2.out.frozen 10
              have y11 := HR2.out.cell 11 _ rfl
              have yz11 := HR2.out.frozen 11
              have y12 := HR2.out.cell 12 _ rfl
              have yz12 := HR2.out.frozen 12
              have y13 := HR2.out.cell 13 _ rfl
              have yz13 := HR2.out.frozen 13
              go_wp2_with fail
              refine bodyPost_ret (results_cell3 rfl _ _ w.heap.size 34 #[.int .i64 0, .int .u64 0, .int .i64 0, .string ⟨#[]⟩, .string ⟨#[]⟩, .int .u64 0, .int .i64 0, .int .i64 0, .int .i64 0, .string ⟨#[]⟩, .int .i64 0, .int .i64 0, .int .i64 0, .int .u32 0] (0, 0) _ rfl (setL_blk [.int .i64 0, .int .u64 0, .int .i64 0, .string ⟨#[]⟩, .string ⟨#[]⟩, .int .u64 0, .int .i64 0, .int .i64 0, .int .i64 0, .string ⟨#[]⟩, .int .i64 0, .int .i64 0, .int .i64 0, .int .u32 0] _ 0 [] [.int .i64 0, .int .u64 0, .int .i64 0, .string ⟨#[]⟩, .string ⟨#[]⟩, .int .u64 0, .int .i64 0, .int .i64 0, .int .i64 0, .string ⟨#[]⟩, .int .i64 0, .int .i64 0, .int .i64 0, .int .u32 0] rfl rfl HR2.out) Try.underlying34 rfl (by kernel_rfl)) rfl ?_
              refine ⟨by rw [HDC.out]; rfl, ?_⟩
              exact (setL_keepO (B := w.heap.size) (O := w.heap.size) [.int .i64 0, .int .u64 0, .int .i64 0, .string ⟨#[]⟩, .string ⟨#[]⟩, .int .u64 0, .int .i64 0, .int .i64 0, .int .i64 0, .string ⟨#[]⟩, .int .i64 0, .int .i64 0, .int .i64 0, .int .u32 0] _ w 0 (Nat.le_refl _) (KeepO.of_below HB2.out)).below (Nat.le_refl _) (Nat.le_refl _)
          · have hbR : ((S : Int) != (R : Int)) = true := by rw [bne_iff_ne]; omega
            have HDC : Hid (dcd (l.drop a) = (zf, 0, 44)) := hd (HD44.out (fun h => hSR h.2))
            clear hSR
            go_wp2_with fail
            refine bodyPost_ret (results_cell3 rfl _ _ w.heap.size 34 #[.int .i64 0, .int .u64 0, .int .i64 0, .string ⟨#[]⟩, .string ⟨#[]⟩, .int .u64 0, .int .i64 0, .int .i64 0, .int .i64 0, .string ⟨#[]⟩, .int .i64 0, .int .i64 0, .int .i64 0, .int .u32 0] (0, 0) _ rfl (setL_blk [.int .i64 0, .int .u64 0, .int .i64 0, .string ⟨#[]⟩, .string ⟨#[]⟩, .int .u64 0, .int .i64 0, .int .i64 0, .int .i64 0, .string ⟨#[]⟩, .int .i64 0, .int .i64 0, .int .i64 0, .int .u32 0] _ 0 [] [.int .i64 0, .int .u64 0, .int .i64 0, .string ⟨#[]⟩, .string ⟨#[]⟩, .int .u64 0, .int .i64 0, .int .i64 0, .int .i64 0, .string ⟨#[]⟩, .int .i64 0, .int .i64 0, .int .i64 0, .int .u32 0] rfl rfl HR0.out) Try.underlying34 rfl (by kernel_rfl)) rfl ?_
            refine ⟨by rw [HDC.out]; rfl, ?_⟩
            exact (setL_keepO (B := w.heap.size) (O := w.heap.size) [.int .i64 0, .int .u64 0, .int .i64 0, .string ⟨#[]⟩, .string ⟨#[]⟩, .int .u64 0, .int .i64 0, .int .i64 0, .int .i64 0, .string ⟨#[]⟩, .int .i64 0, .int .i64 0, .int .i64 0, .int .u32 0] _ w 0 (Nat.le_refl _) (KeepO.of_below HB0.out)).below (Nat.le_refl _) (Nat.le_refl _)
end Vt
end Go.Proofs.Ytnjhbidialngmaa
