/-
  THE WALK OF vint.Encode: the varints of all numbers, one behind the other, in a row of the call's own.
-/
import Derived.Test.YtlddogigbodilaaQai
namespace Go.Proofs.Ytlddogigbodilaa
open Go.RowKit
namespace Vt
theorem or128 (m : Nat) : bits .or .u8 ((m : Int) % 256) 128 = ((m % 128 + 128 : Nat) : Int) := by
  have all : ∀ c : Fin 256, bits .or .u8 (c.val : Int) 128 = ((c.val % 128 + 128 : Nat) : Int) := by decide +kernel
  have := all ⟨m % 256, by omega⟩
  simp only at this
  rw [show (m : Int) % 256 = ((m % 256 : Nat) : Int) by omega, this]
  congr 2
  omega
set_option maxRecDepth 100000 in
set_option maxHeartbeats 400000 in
theorem encode_row (b off c : Nat) (l : List Nat) (w : World) (hl : N64 l) (hb : b < w.heap.size) (hr : RowK .u64 w b off l) (hm : l.length ≤ 17592186044416) :
    Calls Try.prog 100 #[.slice (some ⟨b, off, none⟩) l.length c] w fun e w' => e = .returned (.slice (some ⟨w.heap.size, 0, none⟩) (enc l).length (enc l).length) ∧ JB w' w.heap.size (.slice (some ⟨w.heap.size, 0, none⟩) (enc l).length (enc l).length) (enc l) ∧ Below w.heap.size w w' := by
  have HC := hd (size_row b off c l w hl hr (by omega))
  have hlen := enc_len hl
  have HR := hd hr
  have HL := hd hl
  obtain ⟨i0, hi, hz0, hz1, hz2⟩ := info_parts info_u8
  clear hr hl
  generalize hcap : (enc l).length = cap at *
  have HCAP := hd hcap
  clear hcap
  go_enter Try.func100, Try.ntmps100
  go_wp2_with fail
  refine Calls.mono HC.out ?_
  rintro e w' ⟨rfl, rfl⟩
  clear HC
  go_wp2_with (at_make; refine wpList_make_own _ rfl _ _ 22 rfl w'.heap.size 5 i0 (.int .u8 0) 1 Try.underlying22 hi hz0 hz1 .i64 .i64 (cap : Int) cap rfl rfl rfl (by rw [hz2]; omega) (by unfold maxLen; omega) (Nat.le_refl _) ?_; intro w1 hown hgrow)
  have HB1 : Hid (Below w'.heap.size w' w1) := (Below.refl _ _).grown hgrow (Nat.le_refl _) (fun k hk => by cases hk)
  have HO1 : Hid (JB w1 w'.heap.size (.slice (some ⟨w'.heap.size, 0, none⟩) 0 cap) []) := ⟨byt_nil, hown⟩
  clear hown hgrow
  go_loopw [3, 11] (fun v i wr => ∃ k : Nat, k ≤ l.length ∧ i = .int .i64 (k : Int) ∧ v = .slice (some ⟨w'.heap.size, 0, none⟩) (enc (l.take k)).length cap ∧ JB wr w'.heap.size (.slice (some ⟨w'.heap.size, 0, none⟩) (enc (l.take k)).length cap) (enc (l.take k)) ∧ Below w'.heap.size w' wr) (fun _ i _ => l.length - (intOf i).toNat)
  case atStart => exact ⟨0, by omega, rfl, rfl, HO1.out, HB1.out⟩
  case round =>
    clear HO1 HB1
    obtain ⟨k, hk, rfl, rfl, hJ, hB⟩ := hrel
    have HJ := hd hJ
    have HB := hd hB
    clear hJ hB
    by_cases hlt : k < l.length
    · have hc : wr.cell? ⟨b, off + k, none⟩ = some (.int .u64 ((l.getD k 0 : Nat) : Int)) := by
        rw [HB.out.cell hb]; exact HR.out k hlt
      have hx := HL.out.at k
      have HE := hd (enc_succ hlt)
      have HEC : Hid ((enc (l.take (k + 1))).length ≤ cap) := by
        show (enc (l.take (k + 1))).length ≤ cap
        rw [← HCAP.out]
        have : enc l = enc (l.take (k + 1)) ++ enc (l.drop (k + 1)) := by rw [← enc_append, List.take_append_drop]
        rw [this, List.length_append]; omega
      generalize l.getD k 0 = x at *
      generalize henc : enc (l.take k) = acc at *
      go_wp2_with fail
      go_loopw [3, 5] (fun v y wi => ∃ (m : Nat) (pre : List Nat), m < 18446744073709551616 ∧ y = .int .u64 (m : Int) ∧ vrt x = pre ++ vrt m ∧ v = .slice (some ⟨w'.heap.size, 0, none⟩) (acc.length + pre.length) cap ∧ JB wi w'.heap.size (.slice (some ⟨w'.heap.size, 0, none⟩) (acc.length + pre.length) cap) (acc ++ pre) ∧ Below w'.heap.size w' wi) (fun _ y _ => (intOf y).toNat)
      case atStart => exact ⟨x, [], hx, rfl, rfl, rfl, by simpa using HJ.out, HB.out⟩
      case round =>
        clear HJ HB hc
        obtain ⟨m, pre, hm2, rfl, hv, rfl, hJ, hB⟩ := hrel
        have HJ := hd hJ
        have HB := hd hB
        have HV := hd hv
        clear hJ hB hv
        have HO : Hid (wr.ownsRow w'.heap.size 5 1 (.slice (some ⟨w'.heap.size, 0, none⟩) (acc.length + pre.length) cap) (acc.length + pre.length) (bs (acc ++ pre))) := by
          have := HJ.out.2
          rw [List.length_append] at this; exact this
        have hfit : acc.length + pre.length + 1 ≤ cap := by
          have h1 := HEC.out
          have h2 := vrt_len m
          rw [HE.out, HV.out, List.length_append, List.length_append] at h1
          omega
        by_cases h128 : 128 ≤ m
        · go_wp2_with (at_builtin; refine wpList_append_fits _ rfl _ _ 22 rfl w'.heap.size 5 i0 1 Try.underlying22 hi hz1 w'.heap.size (acc.length + pre.length) cap (bs (acc ++ pre)) rfl (HO.out.alloc _) ⟨wr.heap.size, 0, none⟩ 1 1 [_] rfl rfl (cell_one_new _ _ _) (by simp [Value.oneCell']) hfit ?_; intro w2 hown2 hgrow2)
          have HO2 := hd (jb_snoc (or128 m) (by omega) HJ.out.1 (by rw [List.length_append]) hown2)
          have HB2 := hd ((HB.out.alloc HB.out.size _).grown hgrow2 (by have := HB.out.size; simp; omega) (fun k hk => by cases hk; exact Nat.le_refl _))
          clear hown2 hgrow2 HO
          go_roundw
          case rel =>
            refine ⟨m / 128, pre ++ [m % 128 + 128], by omega, by go_num, ?_, ?_, ?_, HB2.out⟩
            · rw [HV.out, vrt_big h128, List.append_assoc]; rfl
            · rw [List.length_append]; rfl
            · rw [← List.append_assoc, List.length_append]; exact HO2.out
          case measure => simp [intOf]; omega
        · go_wp2_with (at_builtin; refine wpList_append_fits _ rfl _ _ 22 rfl w'.heap.size 5 i0 1 Try.underlying22 hi hz1 w'.heap.size (acc.length + pre.length) cap (bs (acc ++ pre)) rfl (HO.out.alloc _) ⟨wr.heap.size, 0, none⟩ 1 1 [_] rfl rfl (cell_one_new _ _ _) (by simp [Value.oneCell']) hfit ?_; intro w2 hown2 hgrow2)
          have HO2 := hd (jb_snoc (y := m) (by omega) (by omega) HJ.out.1 (by rw [List.length_append]) hown2)
          have HB2 := hd ((HB.out.alloc HB.out.size _).grown hgrow2 (by have := HB.out.size; simp; omega) (fun k hk => by cases hk; exact Nat.le_refl _))
          have HF : Hid (acc ++ pre ++ [m] = enc (l.take (k + 1))) := by
            show acc ++ pre ++ [m] = enc (l.take (k + 1))
            rw [HE.out, HV.out, vrt_small (by omega), List.append_assoc]
          have HFL : Hid (acc.length + pre.length + 1 = (enc (l.take (k + 1))).length) := by
            show acc.length + pre.length + 1 = (enc (l.take (k + 1))).length
            rw [← HF.out]; simp; omega
          rw [HF.out, HFL.out] at HO2
          clear hown2 hgrow2 HO
          rw [HFL.out]
          go_roundw
          case rel => exact ⟨k + 1, by omega, by go_num, rfl, HO2.out, HB2.out⟩
          case measure => simp [intOf]; omega
    · obtain rfl : k = l.length := by omega
      rw [List.take_length, HCAP.out] at HJ
      go_wp2
      go_ret
      exact ⟨by rw [show (enc (l.take l.length)).length = cap by rw [List.take_length]; exact HCAP.out]; rfl, HJ.out, HB.out⟩
set_option maxRecDepth 100000 in
set_option maxHeartbeats 400000 in
theorem encode_nil (a : Option Addr) (c : Nat) (w : World) :
    Calls Try.prog 100 #[.slice a 0 c] w fun e w' => e = .returned (.slice (some ⟨w.heap.size, 0, none⟩) 0 0) ∧ JB w' w.heap.size (.slice (some ⟨w.heap.size, 0, none⟩) 0 0) [] ∧ Below w.heap.size w w' := by
  obtain ⟨i0, hi, hz0, hz1, hz2⟩ := info_parts info_u8
  go_enter Try.func100, Try.ntmps100
  go_wp2_with fail
  refine Calls.mono (size_nil a c w) ?_
  rintro e w' ⟨rfl, rfl⟩
  go_wp2_with (at_make; refine wpList_make_own _ rfl _ _ 22 rfl w'.heap.size 5 i0 (.int .u8 0) 1 Try.underlying22 hi hz0 hz1 .i64 .i64 0 0 rfl rfl rfl (by rw [hz2]; omega) (by unfold maxLen; omega) (Nat.le_refl _) ?_; intro w1 hown hgrow)
  have HB1 : Hid (Below w'.heap.size w' w1) := (Below.refl _ _).grown hgrow (Nat.le_refl _) (fun k hk => by cases hk)
  have HO1 : Hid (JB w1 w'.heap.size (.slice (some ⟨w'.heap.size, 0, none⟩) 0 0) []) := ⟨byt_nil, hown⟩
  clear hown hgrow
  go_loopw [3, 11] (fun v i wr => i = .int .i64 0 ∧ v = .slice (some ⟨w'.heap.size, 0, none⟩) 0 0 ∧ wr = w1) (fun _ _ _ => 0)
  case atStart => exact ⟨rfl, rfl, rfl⟩
  case round =>
    obtain ⟨rfl, rfl, rfl⟩ := hrel
    go_wp2
    go_ret
    exact ⟨rfl, HO1.out, HB1.out⟩
theorem encode_is (v : Value) (l : List Nat) (w : World) (h : IsN w v l) (hm : l.length ≤ 17592186044416) :
    Calls Try.prog 100 #[v] w fun e w' => e = .returned (.slice (some ⟨w.heap.size, 0, none⟩) (enc l).length (enc l).length) ∧ JB w' w.heap.size (.slice (some ⟨w.heap.size, 0, none⟩) (enc l).length (enc l).length) (enc l) ∧ Below w.heap.size w w' := by
  obtain ⟨hl, _, ⟨rfl, a, c, rfl⟩ | ⟨b, off, c, rfl, _, _, hb, hr⟩⟩ := h
  · exact encode_nil a c w
  · exact encode_row b off c l w hl hb hr hm
end Vt
end Go.Proofs.Ytlddogigbodilaa
