/-
  TopNamed: names come back, fresh ones are fresh: whatever files there are, a segment, its hint file, a quarantine file, and what is written ahead of each, get names that none has; sorted again they are the same, each once. Without a condition.
-/
import Derived.Test.YtglnhppgoomehabNq2
namespace Go.Proofs.Ytglnhppgoomehab
open Go.ChangeShapes Go.WideShapes Go.ChangeAt Go.RowKit
namespace Ntop
open Vt Nam
theorem seq (s : ByteArray) {a : List Nat} (ha : Byt a) : (s.toList == (str a).toList) = decide (bl s = a) := by
  rw [show s.toList = (str (bl s)).toList by rw [str_bl], str_eq (bl_byt s) ha]
theorem seqs (s t : ByteArray) : (s.toList == t.toList) = decide (s = t) := by
  rw [show t.toList = (str (bl t)).toList by rw [str_bl], seq s (bl_byt t)]
  refine decide_eq_decide.2 ⟨bl_inj, fun h => by rw [h]⟩
theorem getD_mem {ss : List ByteArray} {j : Nat} (h : j < ss.length) : ss.getD j ByteArray.empty ∈ ss := by
  rw [List.getD_eq_getElem?_getD, List.getElem?_eq_getElem h]; exact List.getElem_mem h
/-- none of the names is one that was made of a fresh number -/
theorem none_is {k n : Nat} {ss : List ByteArray} (hF : FrOk k (ss.map bl) n) (hn : Nu n) {s : ByteArray} (hs : s ∈ ss) {d : Nat} (hd : Cl d) (ho : ow d = ow k) : ¬ bl s = mk d n ∧ ¬ bl s = mk d n ++ tmpL := by
  have hne := hF.2.2.1 (bl s) (List.mem_map.2 ⟨_, hs, rfl⟩)
  exact ⟨fun h => hne (by rw [h]; exact (tk_mk hd hn ho).1), fun h => hne (by rw [h]; exact (tk_mk hd hn ho).2)⟩
theorem some1000 {w : World} {a : Option Addr} {cap : Nat} {ss : List ByteArray} (h : IsS w (.slice a ss.length cap) ss) (hl : 1000 < ss.length) : ∃ b off, a = some ⟨b, off, none⟩ ∧ 1000 ≤ cap ∧ cap ≤ 9223372036854775807 ∧ IsS w (.slice (some ⟨b, off, none⟩) 1000 cap) (ss.take 1000) := by
  obtain ⟨h1, h2, ⟨e, _⟩ | ⟨b, off, c, e, h3, h4, h5, h6⟩⟩ := h
  · rw [e] at hl; simp at hl
  · injection e with e1 e2 e3
    subst e1 e3
    have hI : IsS w (.slice (some ⟨b, off, none⟩) ss.length cap) ss := ⟨h1, h2, .inr ⟨b, off, cap, rfl, h3, h4, h5, h6⟩⟩
    exact ⟨b, off, rfl, by omega, by unfold maxLen at h4; omega, hI.take 1000 (by omega)⟩
set_option maxRecDepth 100000 in
set_option maxHeartbeats 2000000 in
theorem walkB (v : Value) (ss0 : List ByteArray) (n : Nat) (w : World) (hS : IsS w v ss0) (hn : n < 4294967296) :
    Calls Try.prog 5 #[v, .int .u32 (n : Int)] w fun e w' => e = .returned (.bool true) ∧ Below w.heap.size w w' := by
  obtain ⟨a, cap, rfl⟩ := hS.shape
  have HS := hd hS
  clear hS
  go_enter Try.func5, Try.ntmps5
  apply wp_seq_k
  intro K1 hK1
  have HK1 := hd hK1
  clear hK1
  go_wp2_with fail
  apply HK1.out
  apply wp_seq_k
  intro K2 hK2
  have HK2 := hd hK2
  clear hK2 HK1
  refine (fun (R2 : ∀ (v0 u28 u29 u30 u31 u32 : Value) (ss : List ByteArray), ss.length ≤ 1000 → IsS w v0 ss → K2 ⟨#[v0, .int .u32 (n : Int), undef, undef, .bool false, undef, undef, undef, undef, undef, undef, undef, undef, undef, undef, undef, undef, undef, undef, undef, undef, undef, undef, undef, undef, undef, undef, undef, u28, u29, u30, u31, u32, undef, undef, undef, undef, undef, undef, undef, undef, undef, undef, undef, undef, undef, undef, undef, undef, undef, undef, undef, undef, undef, undef, undef, undef, undef, undef, undef, undef, undef, undef, undef, undef, undef, undef, undef, undef, undef, undef, undef, undef, undef, undef, undef, undef, undef, undef, undef, undef, undef, undef, undef, undef, undef, undef, undef, undef, undef, undef, undef, undef, undef, undef, undef, undef, undef, undef, undef, undef, undef, undef, undef, undef, undef, undef, undef, undef, undef, undef, undef, undef, undef, undef, undef, undef, undef, undef, undef, undef, undef, undef, undef, undef, undef, undef, undef, undef, undef, undef, undef, undef, undef, undef, undef, undef, undef, undef, undef, undef, undef, undef, undef, undef, undef, undef, undef, undef, undef, undef, undef, undef, undef, undef, undef, undef, undef, undef, undef, undef, undef, undef, undef, undef, undef, undef, undef, undef, undef, undef, undef, undef, undef, undef, undef, undef, undef, undef, undef, undef, undef, undef, undef, undef, undef, undef, undef, undef, undef, undef, undef, undef, undef, undef, undef, undef, undef, undef, undef, undef, undef, undef, undef, undef, undef, undef, undef, undef, undef, undef, undef, undef, undef, undef, undef, undef, undef, undef, undef, undef, undef, undef, undef, undef, undef, undef], []⟩ w) => ?main2) ?h2
  case main2 =>
    have HR2 := hd R2
    clear R2 HK2
    by_cases hl : 1000 < ss0.length
    · obtain ⟨b, off, rfl, hc1, hc2, hI⟩ := some1000 HS.out hl
      have hi : (1000 : Int) < (ss0.length : Int) := by omega
      have HI := hd hI
      clear hI
      go_wp2_with fail
      exact HR2.out _ _ _ _ _ _ _ (by rw [List.length_take]; omega) HI.out
    · have hi : ¬ (1000 : Int) < (ss0.length : Int) := by omega
      go_wp2_with fail
      exact HR2.out _ _ _ _ _ _ _ (by omega) HS.out
  case h2 =>
    intro v0 u28 u29 u30 u31 u32 ss hlen hI
    have HI := hd hI
    clear hI
    apply HK2.out
    apply wp_seq_k
    intro K3 hK3
    have HK3 := hd hK3
    clear hK3 HK2
    refine (fun (R3 : ∀ (nn : Nat) (u33 u34 : Value), Nu nn → K3 ⟨#[v0, .int .u32 (nn : Int), undef, undef, .bool false, undef, undef, undef, undef, undef, undef, undef, undef, undef, undef, undef, undef, undef, undef, undef, undef, undef, undef, undef, undef, undef, undef, undef, u28, u29, u30, u31, u32, u33, u34, undef, undef, undef, undef, undef, undef, undef, undef, undef, undef, undef, undef, undef, undef, undef, undef, undef, undef, undef, undef, undef, undef, undef, undef, undef, undef, undef, undef, undef, undef, undef, undef, undef, undef, undef, undef, undef, undef, undef, undef, undef, undef, undef, undef, undef, undef, undef, undef, undef, undef, undef, undef, undef, undef, undef, undef, undef, undef, undef, undef, undef, undef, undef, undef, undef, undef, undef, undef, undef, undef, undef, undef, undef, undef, undef, undef, undef, undef, undef, undef, undef, undef, undef, undef, undef, undef, undef, undef, undef, undef, undef, undef, undef, undef, undef, undef, undef, undef, undef, undef, undef, undef, undef, undef, undef, undef, undef, undef, undef, undef, undef, undef, undef, undef, undef, undef, undef, undef, undef, undef, undef, undef, undef, undef, undef, undef, undef, undef, undef, undef, undef, undef, undef, undef, undef, undef, undef, undef, undef, undef, undef, undef, undef, undef, undef, undef, undef, undef, undef, undef, undef, undef, undef, undef, undef, undef, undef, undef, undef, undef, undef, undef, undef, undef, undef, undef, undef, undef, undef, undef, undef, undef, undef, undef, undef, undef, undef, undef, undef, undef, undef, undef, undef, undef, undef, undef, undef, undef, undef, undef, undef, undef], []⟩ w) => ?main3) ?h3
    case main3 =>
      have HR3 := hd R3
      clear R3 HK3
      by_cases h0 : n = 0
      · subst h0
        go_wp2_with fail
        exact HR3.out 1 _ _ ⟨by omega, by omega⟩
      · have hpos : 0 < n := by omega
        have hnz : (((n : Nat) : Int) == 0) = false := by simp; omega
        go_wp2_with fail
        exact HR3.out n _ _ ⟨hpos, hn⟩
    case h3 =>
      intro nn u33 u34 hnn
      have HNN := hd hnn
      have hn1 := hnn.1
      have hn2 := hnn.2
      clear hnn
      obtain ⟨a, cap, rfl⟩ := HI.out.shape
      apply HK3.out
      clear HK3
      go_wp2_with fail
      go_loopw [6] (fun i wr => ∃ k : Nat, k ≤ 3 ∧ i = .int .i64 (k : Int) ∧ Blk wr w.heap.size 28 [.int .i64 1, .int .i64 2, .int .i64 3] ∧ Below w.heap.size w wr) (fun i _ => 3 - (intOf i).toNat)
      case atStart => exact ⟨0, by omega, rfl, Blk.new w _ _, (Below.refl _ _).alloc (Nat.le_refl _) _⟩
      case round =>
        obtain ⟨k, hk3, rfl, hK, hBr⟩ := hrel
        have HK := hd hK
        have HBr := hd hBr
        clear hK hBr
        by_cases hlt : k < 3
        · have hki : ((k : Nat) : Int) < 3 := by omega
          obtain ⟨c, hcc⟩ : ∃ c : Nat, c = k + 1 := ⟨_, rfl⟩
          have hc : Cl c := by unfold Cl; omega
          have HC := hd hc
          have hcv : ∀ W : World, Blk W w.heap.size 28 [.int .i64 1, .int .i64 2, .int .i64 3] → W.cell? ⟨w.heap.size, k, none⟩ = some (.int .i64 (c : Int)) := by
            intro W hW
            refine hW.cell k _ ?_
            have : k = 0 ∨ k = 1 ∨ k = 2 := by omega
            rcases this with rfl | rfl | rfl <;> (subst hcc; rfl)
          have HCV := hd hcv
          have HCC := hd hcc
          have hl0 := HCV.out wr HK.out
          have hwz := HBr.out.size
          clear hc hcv hcc
          go_wp2_with fail
          refine Calls.mono (make_ok c nn HC.out HNN.out _) ?_
          rintro e w1 ⟨rfl, hB⟩
          have HK1 := hd (HK.out.keep hB)
          have HB1 := hd (HBr.out.trans (hB.mono HBr.out.size))
          have hl1 := HCV.out w1 HK1.out
          clear hB hl0
          go_wp2_with fail
          refine Calls.mono (parse_is _ _ (Nat.le_trans mk_size (by unfold maxLen; omega))) ?_
          rintro e w1 ⟨rfl, rfl⟩
          rw [bl_str (mk_byt c nn), prs_mk HC.out HNN.out]
          go_wp2_with fail
          refine Calls.mono (temp_is _ _ (Nat.le_trans mk_size (by omega))) ?_
          rintro e w1 ⟨rfl, rfl⟩
          rw [bl_str (mk_byt c nn)]
          have hbt : Byt (mk c nn ++ tmpL) := byt_app (mk_byt c nn) tmp_byt
          have hzt : (str (mk c nn ++ tmpL)).size ≤ maxLen := by
            rw [str_size hbt, List.length_append, mk_len]
            have := atl_len c
            simp only [tmpL, List.length_cons, List.length_nil]
            unfold maxLen
            omega
          go_wp2_with fail
          refine Calls.mono (parse_is _ _ hzt) ?_
          rintro e w1 ⟨rfl, rfl⟩
          rw [bl_str hbt, prs_tmp]
          clear hbt hzt
          go_wp2_with fail
          refine Calls.mono (fresh_ok c HC.out _ ss _ (HI.out.below HB1.out rfl) (by omega)) ?_
          rintro e w2 ⟨⟨m, hF, rfl⟩, hB⟩
          have HK2 := hd (HK1.out.keep hB)
          have HB2 := hd (HB1.out.trans (hB.mono HB1.out.size))
          have hl2 := HCV.out w2 HK2.out
          have HF := hd hF
          have hm1 : 1 ≤ m := hF.1
          have hm2 : m ≤ ss.length + 1 := by have := hF.2.1; rw [List.length_map] at this; exact this
          have HMU : Hid (Nu m) := by show Nu m; exact ⟨by omega, by omega⟩
          clear hB hl1 hF
          go_wp2_with fail
          refine Calls.mono (make_ok c m HC.out HMU.out _) ?_
          rintro e w3 ⟨rfl, hB⟩
          have HK3 := hd (HK2.out.keep hB)
          have HB3 := hd (HB2.out.trans (hB.mono HB2.out.size))
          have hl3 := HCV.out w3 HK3.out
          have hne : (str (mk c m)).toList.isEmpty = false := by
            rw [ByteArray.toList_eq, str_data]; unfold mk ahd; split <;> rfl
          clear hB hl2
          go_wp2_with fail
          refine Calls.mono (pair_is _ _ (Nat.le_trans mk_size (by unfold maxLen; omega))) ?_
          rintro e w4 ⟨rfl, hB⟩
          have HK4 := hd (HK3.out.keep hB)
          have HB4 := hd (HB3.out.trans (hB.mono HB3.out.size))
          rw [bl_str (mk_byt c m)]
          clear hB hl3
          by_cases h2 : k < 2
          · have hk2 : ((k : Nat) : Int) < 2 := by omega
            obtain ⟨d, hd, hod, hpd, hpe⟩ : ∃ d, Cl d ∧ ow d = ow c ∧ (pa (mk c m) = mk d m ∧ pb (mk c m) = true) ∧ (pa (mk d m) = mk c m ∧ pb (mk d m) = true) := by
              have hcc := HCC.out
              have : k = 0 ∨ k = 1 := by omega
              rcases this with rfl | rfl
              · obtain rfl : c = 1 := by omega
                exact ⟨2, .inr (.inl rfl), rfl, pa_seg (prs_mk (.inl rfl) HMU.out), pa_hint (prs_mk (.inr (.inl rfl)) HMU.out)⟩
              · obtain rfl : c = 2 := by omega
                exact ⟨1, .inl rfl, rfl, pa_hint (prs_mk (.inr (.inl rfl)) HMU.out), pa_seg (prs_mk (.inl rfl) HMU.out)⟩
            rw [hpd.1, hpd.2]
            have HDC := hd
            have HD := Vt.hd hd
            have HOD := Vt.hd hod
            have HPE := Vt.hd hpe
            clear hd hod hpd hpe HDC
            go_wp2_with fail
            refine Calls.mono (pair_is _ _ (Nat.le_trans mk_size (by unfold maxLen; omega))) ?_
            rintro e w5 ⟨rfl, hB⟩
            have HK5 := Vt.hd (HK4.out.keep hB)
            have HB5 := Vt.hd (HB4.out.trans (hB.mono HB4.out.size))
            rw [bl_str (mk_byt d m), HPE.out.1, HPE.out.2]
            clear hB
            go_wp2_with fail
            go_loopw [21] (fun i wx => ∃ j q : Nat, j ≤ ss.length ∧ i = .int .i64 (j : Int) ∧ wx = w5.drewN q) (fun i _ => ss.length - (intOf i).toNat)
            case atStart => exact ⟨0, 0, by omega, rfl, rfl⟩
            case round =>
              obtain ⟨j, q2, hj, rfl, hwr⟩ := hrel
              obtain ⟨w6, hww⟩ : ∃ w6, w6 = wr := ⟨_, rfl⟩
              subst hww
              have HW6 := Vt.hd hwr
              have HB6 : Hid (Below w.heap.size w w6) := by
                show Below w.heap.size w w6
                rw [hwr]; exact HB5.out.trans ⟨rfl, rfl, rfl, Nat.le_refl _, fun _ _ => rfl⟩
              have HK6 : Hid (Blk w6 w.heap.size 28 [.int .i64 1, .int .i64 2, .int .i64 3]) := by
                show Blk w6 w.heap.size 28 [.int .i64 1, .int .i64 2, .int .i64 3]
                rw [hwr]; exact HK5.out
              clear hwr
              by_cases hjl : j < ss.length
              · have HJL : Hid (j + 1 ≤ ss.length) := hjl
                have hSr := HI.out.below HB6.out rfl
                obtain ⟨b, off, ha, hbl, _, hcell, hsz⟩ := hSr.at hjl
                have hq1 := none_is HF.out HMU.out (getD_mem hjl) HC.out rfl
                have hq2 := none_is HF.out HMU.out (getD_mem hjl) HD.out HOD.out
                rw [ha]
                clear ha hSr
                generalize ss.getD j ByteArray.empty = s at *
                have q1 : (s.toList == (str (mk c m)).toList) = false := by rw [seq _ (mk_byt c m)]; exact decide_eq_false hq1.1
                have q2' : (s.toList == (str (mk c m ++ tmpL)).toList) = false := by rw [seq _ (byt_app (mk_byt c m) tmp_byt)]; exact decide_eq_false hq1.2
                have q3 : (s.toList == (str (mk d m)).toList) = false := by rw [seq _ (mk_byt d m)]; exact decide_eq_false hq2.1
                have q4 : (s.toList == (str (mk d m ++ tmpL)).toList) = false := by rw [seq _ (byt_app (mk_byt d m) tmp_byt)]; exact decide_eq_false hq2.2
                clear hq2
                have HT2 : Hid (∀ w, Calls Try.prog 16 #[.string (str (mk d m))] w fun e w' => e = .returned (.string (str (mk d m ++ tmpL))) ∧ w' = w) := by
                  show ∀ w, Calls Try.prog 16 #[.string (str (mk d m))] w fun e w' => e = .returned (.string (str (mk d m ++ tmpL))) ∧ w' = w
                  intro w
                  have := temp_is (str (mk d m)) w (Nat.le_trans mk_size (by omega))
                  rwa [bl_str (mk_byt d m)] at this
                have HT1 : Hid (∀ w, Calls Try.prog 16 #[.string (str (mk c m))] w fun e w' => e = .returned (.string (str (mk c m ++ tmpL))) ∧ w' = w) := by
                  show ∀ w, Calls Try.prog 16 #[.string (str (mk c m))] w fun e w' => e = .returned (.string (str (mk c m ++ tmpL))) ∧ w' = w
                  intro w
                  have := temp_is (str (mk c m)) w (Nat.le_trans mk_size (by omega))
                  rwa [bl_str (mk_byt c m)] at this
                clear hq1 hj
                go_wp2_with fail
                go_quiet (first | (go_at_call 16; first | exact Calls.quiet_of_same (HT1.out _) | exact Calls.quiet_of_same (HT2.out _)))
                go_wp2_with fail
                go_roundw
                case rel =>
                  obtain ⟨q3, h3⟩ := drewN2 w5 q2 nq
                  exact ⟨j + 1, q3, HJL.out, by go_num, by rw [HW6.out]; exact h3⟩
                case measure => have := HJL.out; simp [intOf]; omega
              · have hji : ¬ ((j : Nat) : Int) < (ss.length : Int) := by omega
                have HK3' : Hid (k + 1 ≤ 3) := hlt
                clear hjl hj
                go_wp2_with fail
                exact ⟨⟨k + 1, HK3'.out, by go_num, HK6.out, HB6.out⟩, by have := HK3'.out; simp [intOf]; omega⟩
          · have hk2 : ¬ ((k : Nat) : Int) < 2 := by omega
            have hc3 : c = 3 := by have := HCC.out; omega
            have hpq := prs_mk (c := 3) (.inr (.inr rfl)) HMU.out
            obtain ⟨hpd1, hpd2⟩ := pa_no (l := mk 3 m) (by rw [hpq]; simp) (by rw [hpq]; simp)
            have HQ : Hid (pa (mk c m) = [] ∧ pb (mk c m) = false) := by rw [hc3]; exact ⟨hpd1, hpd2⟩
            rw [HQ.out.1, HQ.out.2]
            clear hc3 hpq hpd1 hpd2
            have hpn := pa_no (l := []) (by decide) (by decide)
            go_wp2_with fail
            refine Calls.mono (pair_is _ _ (by decide)) ?_
            rintro e w5 ⟨rfl, hB⟩
            have HK5 := Vt.hd (HK4.out.keep hB)
            have HB5 := Vt.hd (HB4.out.trans (hB.mono HB4.out.size))
            rw [bl_str byt_nil, hpn.1, hpn.2]
            clear hB hpn
            go_wp2_with fail
            go_loopw [21] (fun i wx => ∃ j q : Nat, j ≤ ss.length ∧ i = .int .i64 (j : Int) ∧ wx = w5.drewN q) (fun i _ => ss.length - (intOf i).toNat)
            case atStart => exact ⟨0, 0, by omega, rfl, rfl⟩
            case round =>
              obtain ⟨j, q2, hj, rfl, hwr⟩ := hrel
              obtain ⟨w6, hww⟩ : ∃ w6, w6 = wr := ⟨_, rfl⟩
              subst hww
              have HW6 := Vt.hd hwr
              have HB6 : Hid (Below w.heap.size w w6) := by
                show Below w.heap.size w w6
                rw [hwr]; exact HB5.out.trans ⟨rfl, rfl, rfl, Nat.le_refl _, fun _ _ => rfl⟩
              have HK6 : Hid (Blk w6 w.heap.size 28 [.int .i64 1, .int .i64 2, .int .i64 3]) := by
                show Blk w6 w.heap.size 28 [.int .i64 1, .int .i64 2, .int .i64 3]
                rw [hwr]; exact HK5.out
              clear hwr
              by_cases hjl : j < ss.length
              · have HJL : Hid (j + 1 ≤ ss.length) := hjl
                have hSr := HI.out.below HB6.out rfl
                obtain ⟨b, off, ha, hbl, _, hcell, hsz⟩ := hSr.at hjl
                have hq1 := none_is HF.out HMU.out (getD_mem hjl) HC.out rfl
                rw [ha]
                clear ha hSr
                generalize ss.getD j ByteArray.empty = s at *
                have q1 : (s.toList == (str (mk c m)).toList) = false := by rw [seq _ (mk_byt c m)]; exact decide_eq_false hq1.1
                have q2' : (s.toList == (str (mk c m ++ tmpL)).toList) = false := by rw [seq _ (byt_app (mk_byt c m) tmp_byt)]; exact decide_eq_false hq1.2
                have HT1 : Hid (∀ w, Calls Try.prog 16 #[.string (str (mk c m))] w fun e w' => e = .returned (.string (str (mk c m ++ tmpL))) ∧ w' = w) := by
                  show ∀ w, Calls Try.prog 16 #[.string (str (mk c m))] w fun e w' => e = .returned (.string (str (mk c m ++ tmpL))) ∧ w' = w
                  intro w
                  have := temp_is (str (mk c m)) w (Nat.le_trans mk_size (by omega))
                  rwa [bl_str (mk_byt c m)] at this
                clear hq1 hj
                go_wp2_with fail
                go_quiet (first | (go_at_call 16; first | exact Calls.quiet_of_same (HT1.out _)))
                go_wp2_with fail
                go_roundw
                case rel =>
                  obtain ⟨q3, h3⟩ := drewN2 w5 q2 nq
                  exact ⟨j + 1, q3, HJL.out, by go_num, by rw [HW6.out]; exact h3⟩
                case measure => have := HJL.out; simp [intOf]; omega
              · have hji : ¬ ((j : Nat) : Int) < (ss.length : Int) := by omega
                have HK3' : Hid (k + 1 ≤ 3) := hlt
                clear hjl hj
                go_wp2_with fail
                exact ⟨⟨k + 1, HK3'.out, by go_num, HK6.out, HB6.out⟩, by have := HK3'.out; simp [intOf]; omega⟩
        · have hki : ¬ ((k : Nat) : Int) < 3 := by omega
          clear hlt hk3
          go_wp2_with fail
          refine Calls.mono (sorted_is _ ss wr (HI.out.below HBr.out rfl) (by omega)) ?_
          rintro e w1 ⟨⟨v1, rfl, hJ1⟩, hB⟩
          have HB1 := hd (HBr.out.trans (hB.mono HBr.out.size))
          clear hB
          have hsl := srt_le ss
          obtain ⟨a1, c1, rfl, hle1⟩ := hJ1.shape
          have HJ1 := hd hJ1
          clear hJ1
          go_wp2_with fail
          refine Calls.mono (sorted_is _ (srt ss) w1 HJ1.out.isS (by omega)) ?_
          rintro e w2 ⟨⟨v2, rfl, hJ2⟩, hB⟩
          have HB2 := hd (HB1.out.trans (hB.mono HB1.out.size))
          have HI1 := hd (HJ1.out.isS.below hB rfl)
          rw [srt_srt] at hJ2
          obtain ⟨a2, c2, rfl, hle2⟩ := hJ2.shape
          have HI2 := hd hJ2.isS
          have HMM := hd (fun s => srt_mem ss s)
          have HCT := hd (fun s h => srt_count ss s h)
          clear hB hJ2 hle1 hle2
          generalize srt ss = L at *
          go_wp2_with fail
          go_loopw [24] (fun i wx => ∃ j q : Nat, j ≤ L.length ∧ i = .int .i64 (j : Int) ∧ wx = w2.drewN q) (fun i _ => L.length - (intOf i).toNat)
          case atStart => exact ⟨0, 0, by omega, rfl, rfl⟩
          case round =>
            obtain ⟨j, q2, hj, rfl, hwr⟩ := hrel
            obtain ⟨w6, hww⟩ : ∃ w6, w6 = wr := ⟨_, rfl⟩
            subst hww
            have HW6 := Vt.hd hwr
            have hS1 : IsS w6 (.slice a1 L.length c1) L := by rw [hwr]; exact HI1.out
            have hS2 : IsS w6 (.slice a2 L.length c2) L := by rw [hwr]; exact HI2.out
            clear hwr
            by_cases hjl : j < L.length
            · have HJL : Hid (j + 1 ≤ L.length) := hjl
              obtain ⟨b1, o1, ha1, hbl1, _, hcell1, hsz1⟩ := hS1.at hjl
              obtain ⟨b2, o2, ha2, hbl2, _, hcell2, hsz2⟩ := hS2.at hjl
              rw [ha1, ha2]
              clear ha1 ha2 hS1 hS2 hj
              generalize L.getD j ByteArray.empty = s at *
              go_wp2_with fail
              go_quiet (fail)
              go_wp2_with fail
              go_roundw
              case rel =>
                obtain ⟨q3, h3⟩ := drewN2 w2 q2 nq
                exact ⟨j + 1, q3, HJL.out, by go_num, by rw [HW6.out]; exact h3⟩
              case measure => have := HJL.out; simp [intOf]; omega
            · have hji : ¬ ((j : Nat) : Int) < (L.length : Int) := by omega
              have HB6 : Hid (Below w.heap.size w w6) := by
                show Below w.heap.size w w6
                rw [HW6.out]; exact HB2.out.trans ⟨rfl, rfl, rfl, Nat.le_refl _, fun _ _ => rfl⟩
              have HS1 := hd hS1
              clear hS1 hS2 hjl hj
              go_wp2_with fail
              go_loopw [25] (fun i wx => ∃ t q : Nat, t ≤ ss.length ∧ i = .int .i64 (t : Int) ∧ wx = w6.drewN q) (fun i _ => ss.length - (intOf i).toNat)
              case atStart => exact ⟨0, 0, by omega, rfl, rfl⟩
              case round =>
                obtain ⟨t, q4, ht, rfl, hwr⟩ := hrel
                obtain ⟨w7, hww⟩ : ∃ w7, w7 = wr := ⟨_, rfl⟩
                subst hww
                have HW7 := Vt.hd hwr
                have HB7 : Hid (Below w.heap.size w w7) := by
                  show Below w.heap.size w w7
                  rw [hwr]; exact HB6.out.trans ⟨rfl, rfl, rfl, Nat.le_refl _, fun _ _ => rfl⟩
                have HS7 : Hid (IsS w7 (.slice a1 L.length c1) L) := by
                  show IsS w7 (.slice a1 L.length c1) L
                  rw [hwr]; exact HS1.out
                clear hwr
                by_cases htl : t < ss.length
                · have HTL : Hid (t + 1 ≤ ss.length) := htl
                  have HC1 := hd (HCT.out _ (getD_mem htl))
                  have HTL2 := hd htl
                  have htli : ((t : Nat) : Int) < (ss.length : Int) := by omega
                  clear ht
                  go_wp2_with fail
                  go_loopw [26, 27] (fun x i wx => ∃ j q : Nat, j ≤ L.length ∧ i = .int .i64 (j : Int) ∧ x = .int .i64 (((L.take j).countP (fun x => decide (x = ss.getD t ByteArray.empty)) : Nat) : Int) ∧ wx = w7.drewN q) (fun _ i _ => L.length - (intOf i).toNat)
                  case atStart => exact ⟨0, 0, by omega, rfl, rfl, rfl⟩
                  case round =>
                    obtain ⟨j, q5, hj, rfl, rfl, hwr⟩ := hrel
                    obtain ⟨w8, hww⟩ : ∃ w8, w8 = wr := ⟨_, rfl⟩
                    subst hww
                    have HW8 := Vt.hd hwr
                    have hB8 : Below w.heap.size w w8 := by rw [hwr]; exact HB7.out.trans ⟨rfl, rfl, rfl, Nat.le_refl _, fun _ _ => rfl⟩
                    have hS8 : IsS w8 (.slice a1 L.length c1) L := by rw [hwr]; exact HS7.out
                    clear hwr
                    by_cases hjl : j < L.length
                    · have HJL : Hid (j + 1 ≤ L.length) := hjl
                      have hSr := HI.out.below hB8 rfl
                      obtain ⟨b1, o1, ha1, hbl1, _, hcell1, hsz1⟩ := hSr.at HTL2.out
                      obtain ⟨b2, o2, ha2, hbl2, _, hcell2, hsz2⟩ := hS8.at hjl
                      have HTS := hd (take_succ_S hjl)
                      have hle := List.countP_le_length (p := fun x => decide (x = ss.getD t ByteArray.empty)) (l := L.take j)
                      rw [List.length_take] at hle
                      have HCS := hd (List.countP_append (p := fun x => decide (x = ss.getD t ByteArray.empty)) (l₁ := L.take j) (l₂ := [L.getD j ByteArray.empty]))
                      rw [← HTS.out] at HCS
                      rw [ha1, ha2]
                      clear ha1 ha2 hSr hS8 hB8 hj HTS
                      have hqq := seqs (L.getD j ByteArray.empty) (ss.getD t ByteArray.empty)
                      have HSG : Hid (List.countP (fun x => decide (x = ss.getD t ByteArray.empty)) [L.getD j ByteArray.empty] = if L.getD j ByteArray.empty = ss.getD t ByteArray.empty then 1 else 0) := by
                        show List.countP (fun x => decide (x = ss.getD t ByteArray.empty)) [L.getD j ByteArray.empty] = if L.getD j ByteArray.empty = ss.getD t ByteArray.empty then 1 else 0
                        simp
                      generalize (L.take j).countP (fun x => decide (x = ss.getD t ByteArray.empty)) = cn at *
                      by_cases hse : L.getD j ByteArray.empty = ss.getD t ByteArray.empty
                      · rw [if_pos hse] at HSG
                        rw [decide_eq_true hse] at hqq
                        rw [HSG.out] at HCS
                        clear hse HSG
                        generalize L.getD j ByteArray.empty = s1 at *
                        generalize HG1 : ss.getD t ByteArray.empty = s2 at *
                        have HG2 := hd HG1
                        clear HG1
                        go_wp2_with fail
                        go_quiet (fail)
                        go_wp2_with fail
                        go_roundw
                        case rel =>
                          obtain ⟨q6, h6⟩ := drewN2 w7 q5 nq
                          exact ⟨j + 1, q6, HJL.out, by go_num, by rw [HCS.out]; rfl, by rw [HW8.out]; exact h6⟩
                        case measure => have := HJL.out; simp [intOf]; omega
                      · rw [if_neg hse] at HSG
                        rw [decide_eq_false hse] at hqq
                        rw [HSG.out] at HCS
                        clear hse HSG
                        generalize L.getD j ByteArray.empty = s1 at *
                        generalize HG1 : ss.getD t ByteArray.empty = s2 at *
                        have HG2 := hd HG1
                        clear HG1
                        go_wp2_with fail
                        go_quiet (fail)
                        go_wp2_with fail
                        go_roundw
                        case rel =>
                          obtain ⟨q6, h6⟩ := drewN2 w7 q5 nq
                          exact ⟨j + 1, q6, HJL.out, by go_num, by rw [HCS.out]; rfl, by rw [HW8.out]; exact h6⟩
                        case measure => have := HJL.out; simp [intOf]; omega
                    · have hji2 : ¬ ((j : Nat) : Int) < (L.length : Int) := by omega
                      rw [List.take_of_length_le (by omega), HC1.out]
                      clear hjl hj hS8 hB8
                      go_wp2_with fail
                      go_roundw
                      case rel =>
                        obtain ⟨q6, h6⟩ := drewN2 w6 q4 q5
                        exact ⟨t + 1, q6, HTL.out, by go_num, by rw [HW8.out, HW7.out]; exact h6⟩
                      case measure => have := HTL.out; simp [intOf]; omega
                · have hti : ¬ ((t : Nat) : Int) < (ss.length : Int) := by omega
                  clear htl ht
                  go_wp2_with fail
                  go_ret
                  exact ⟨rfl, HB7.out⟩
theorem walk (v : Value) (ss : List ByteArray) (a1 : Int) (w : World) (w0 : IsS w v ss) (w1 : (Lit.int .u32 a1).wf = true) :
    Calls Try.prog 5 #[v, .int .u32 a1] w fun e w' => e = .returned (.bool true) ∧ Below w.heap.size w w' := by
  have h1 := bounds_u32 w1
  obtain ⟨n, rfl⟩ : ∃ n : Nat, a1 = (n : Int) := ⟨a1.toNat, by omega⟩
  exact walkB v ss n w w0 (by omega)
set_option linter.unusedVariables false
set_option maxRecDepth 100000 in
theorem lifted (os : Os) (started : os.Started) (H : Type) (enc : TypeId × Value → H) :
    ReturnsInHanded {} Try.checked os 5 .any (Rows.topNamedSpec.pre6 enc Try.prog Try.f5 Rows.topNamedRow.domain false) (Rows.topNamedSpec.post enc Try.prog Try.f5 false true false false) := by
  refine returnsInHanded_of_change (C := Try.checked) own started (by kernel_rfl) Try.func5
    (ChangeSpec.witness6 (enc := enc) (C := Try.checked) false ⟨#[], #[.slice none 0 0, .int .u32 0], []⟩ 8 (by kernel_rfl) (by kernel_rfl) (by kernel_rfl) (by kernel_rfl)) ?_
  intro W base args ds gs before hval0 hW hcnd _
  have hval : ∀ (j : Nat) t v, Try.f5.params[j]? = some t → args[j]? = some v → Value.okWide Try.prog W .any base t v := hval0
  have hW' := hW
  obtain ⟨p, q, hA0, hV, rfl, hfz, hnd⟩ := hW
  have hA : DataW.TrodAll enc Try.prog W 0 (fun _ => true) true Try.f5.params.toList args.toList ds p := hA0
  rw [Try.params5] at hA hval
  obtain ⟨v0, vs0, d0, ds0, p0, q0, hargs, rfl, rfl, h0, r0⟩ := trodAll_cons hA
  obtain ⟨v1, vs1, d1, ds1, p1, q1, rfl, rfl, rfl, h1, r1⟩ := trodAll_cons r0
  obtain ⟨rfl, rfl, rfl⟩ := trodAll_nil r1
  obtain rfl : args = #[v0, v1] := by cases args; simp_all
  obtain ⟨rfl, rfl⟩ := trodVars_none hV
  obtain ⟨a0, len0, cap0, rfl⟩ := okWide_slice Try.underlying22 (hval 0 22 v0 rfl rfl)
  have k0 := h0
  have lt0 : ∀ x ∈ p0, x.block < W.heap.size := by obtain ⟨m, hm⟩ := k0; exact DataW.trod_lt m _ _ _ hm
  obtain ⟨s0, w0, sl0, sc0, sd0⟩ : ∃ ss : List ByteArray, IsS W (.slice a0 len0 cap0) ss ∧ ss.length = len0 ∧ len0 ≤ cap0 ∧ (cap0 = 0 ∨ ∃ e s, d0 = .slice e s ∧ e.length + s.length = cap0) := by
    obtain ⟨fuel, hf⟩ := h0
    exact strs_open hf
  obtain ⟨a1, rfl, rfl, rfl, w1⟩ := open_int Try.underlying29 (hval 1 29 v1 rfl rfl) h1
  clear hA0 hval0
  refine (walk (.slice a0 len0 cap0) s0 a1 W w0 w1).mono fun e W' ⟨he, bel⟩ => ?_
  subst he
  exact ⟨_, rfl, _, _, _, [], _, [], hW', trodAll_mk1 (shut_bool Try.underlying4 _), (trodAll_cons_mk (Below.trod laidOut (by kernel_rfl) (of_decide_eq_true (by kernel_rfl)) k0 bel lt0) (trodAll_cons_mk (shut_int Try.underlying29 w1) trodAll_mk0)), rfl, bel.frame _, fun h => by cases h⟩

theorem over : Rows.topNamedRow.holds Try.pinned (OpenSpec.ofChange Rows.topNamedSpec) :=
  OpenClaim.holds_of_wide 5 Try.f5 rfl rfl rfl rfl rfl rfl rfl ⟨rfl, rfl, rfl, rfl, rfl⟩ rfl rfl rfl rfl rfl (by kernel_rfl) Try.func5 (by kernel_rfl)
    (of_decide_eq_true (by kernel_rfl)) (by unfold Func.isWrapper; first | (rw [if_pos (by decide +kernel)]; kernel_rfl) | (rw [if_neg (by decide +kernel)]; exact ⟨rfl, rfl⟩))
    (fun os started H enc _ => lifted os started H enc)
end Ntop

theorem topNamed_holds : Rows.TopNamedSaid := Ntop.over
#print axioms topNamed_holds
end Go.Proofs.Ytglnhppgoomehab
