/-
  THE WALK OF vint.Decode: what the plain function 'dec' says.
  THE WALK OF vint.Encode: the varints of all numbers, one behind the other, in a row of the call's own.
  THE WALKS OF escape.Size, escape.first.
-/
import Derived.Test.YtolddolfpnkndaaGreatXuar
import Derived.Laws.ShiftsVarLaws
import Derived.Test.YtolddolfpnkndaaGreatXuaa
import Derived.Test.YtolddolfpnkndaaGreatXuaq
import Derived.Laws.BytesString
namespace Go.Proofs.YtolddolfpnkndaaGreat
open Go.RowKit
namespace Vt
/-- an answer of Decode -/
def ans (d : Nat × Nat × Nat) : Value := .tuple #[.int .u64 (d.1 : Int), .int .i64 (d.2.1 : Int), .int .i64 (d.2.2 : Int)]
theorem low7 (c : Nat) (h : c < 256) : bits .andNot .u8 (c : Int) 128 = ((c % 128 : Nat) : Int) := by
  have all : ∀ c : Fin 256, bits .andNot .u8 (c.val : Int) 128 = ((c.val % 128 : Nat) : Int) := by decide +kernel
  exact all ⟨c, h⟩
theorem or_step {n c k : Nat} (hn : n < 2 ^ (7 * k)) (hk : 7 * k ≤ 64) : n ||| c * 2 ^ (7 * k) % 2 ^ 64 = (n + c * 2 ^ (7 * k)) % 2 ^ 64 := by
  have e : c * 2 ^ (7 * k) % 2 ^ 64 = 2 ^ (7 * k) * (c % 2 ^ (64 - 7 * k)) := by
    rw [show (2 : Nat) ^ 64 = 2 ^ (7 * k) * 2 ^ (64 - 7 * k) by rw [← Nat.pow_add]; congr 1; omega, Nat.mul_comm c, Nat.mul_mod_mul_left]
  rw [e, Nat.or_comm, ← Nat.two_pow_add_eq_or_of_lt hn, ← e, Nat.add_comm]
  have e2 : (n + c * 2 ^ (7 * k)) % 2 ^ 64 = (n + c * 2 ^ (7 * k) % 2 ^ 64) % 2 ^ 64 := by rw [Nat.add_mod_mod]
  have hlt : n + c * 2 ^ (7 * k) % 2 ^ 64 < 2 ^ 64 := by
    rw [e]
    have hm : c % 2 ^ (64 - 7 * k) < 2 ^ (64 - 7 * k) := Nat.mod_lt _ (Nat.two_pow_pos _)
    have hp : (2 : Nat) ^ 64 = 2 ^ (7 * k) * 2 ^ (64 - 7 * k) := by rw [← Nat.pow_add]; congr 1; omega
    have : 2 ^ (7 * k) * (c % 2 ^ (64 - 7 * k) + 1) ≤ 2 ^ (7 * k) * 2 ^ (64 - 7 * k) := Nat.mul_le_mul_left _ hm
    rw [Nat.mul_add, Nat.mul_one] at this
    omega
  rw [e2, Nat.mod_eq_of_lt hlt]
theorem num_step {l : List Nat} {k : Nat} (hk : k < l.length) (h9 : k ≤ 9) :
    (num (l.take k) % 18446744073709551616) ||| (l.getD k 0 % 128) * 2 ^ (7 * k) % 18446744073709551616 = num (l.take (k + 1)) % 18446744073709551616 := by
  have h1 := num_lt (l.take k)
  rw [List.length_take, show min k l.length = k by omega, pow7] at h1
  have h2 : 2 ^ (7 * k) ≤ 2 ^ 63 := Nat.pow_le_pow_right (by omega) (by omega)
  have h3 : num (l.take k) < 18446744073709551616 := by
    have : (2 : Nat) ^ 63 = 9223372036854775808 := by decide
    omega
  rw [Nat.mod_eq_of_lt h3]
  have h4 := or_step (n := num (l.take k)) (c := l.getD k 0 % 128) (k := k) h1 (by omega)
  rw [show (2 : Nat) ^ 64 = 18446744073709551616 by decide] at h4
  rw [h4, take_succ_getD hk, num_append]
  congr 2
  rw [List.length_take, show min k l.length = k by omega, pow7]
  simp only [num, Nat.mul_zero, Nat.add_zero]
  rw [Nat.mul_comm]
theorem or_wrap {n x k m : Nat} (hn : n < 18446744073709551616) (h : n ||| x % 128 * 2 ^ (7 * k) % 18446744073709551616 = m) :
    bits .or .u64 (n : Int) (IntKind.u64.wrap ((x : Int) % 128 * 2 ^ (7 * k))) = (m : Int) := by
  have e : IntKind.u64.wrap ((x : Int) % 128 * 2 ^ (7 * k)) = ((x % 128 * 2 ^ (7 * k) % 18446744073709551616 : Nat) : Int) := by
    rw [IntKind.wrap_u64]
    simp only [Int.natCast_emod, Int.natCast_mul, Int.natCast_pow]
    rfl
  rw [e, u64_or_nat _ _ hn (Nat.mod_lt _ (by decide)), h]
theorem ended_any (z y : Int) (n k c : Nat) (w : World) (hz : z = (n : Int)) (hy : y = (k : Int)) (hk : k ≤ 10) (hc : c < 256) :
    Calls Tryz.prog 142 #[.int .u64 z, .int .i64 y, .int .u8 (c : Int)] w fun e w' => e = .returned (ans (if k = 10 ∧ 1 < c then (0, 0, 22) else if 1 < k ∧ c = 0 then (0, 0, 23) else (n, k, 0))) ∧ w' = w := by
  subst hz hy
  refine (ended_is n k c w hk hc).mono ?_
  rintro e w' ⟨rfl, rfl⟩
  refine ⟨?_, rfl⟩
  split
  · rfl
  · split
    · rfl
    · rfl
/-- what Decode answers where the first byte below 128 stands at k -/
theorem dec_at {l : List Nat} {k : Nat} (hb : Byt l) (h : ∀ j, j < k → 128 ≤ l.getD j 0) (hk : k < l.length) (h9 : k ≤ 9) (hc : l.getD k 0 < 128) :
    (if k + 1 = 10 ∧ 1 < l.getD k 0 then (0, 0, 22) else if 1 < k + 1 ∧ l.getD k 0 = 0 then (0, 0, 23) else (num (l.take (k + 1)) % 18446744073709551616, k + 1, 0)) = dec l := by
  have hi := idx_eq h hk hc
  have hok := fun n q => dec_ok (l := l) (n := n) (k := q) hb
  unfold dec at hok ⊢
  rw [hi] at hok ⊢
  rw [if_neg (by omega), if_neg (by omega)] at hok
  rw [if_neg (show ¬ 10 ≤ k by omega), if_neg (show ¬ k = l.length by omega)]
  by_cases h1 : k = 9 ∧ 1 < l.getD 9 0
  · rw [if_pos h1, if_pos (by rw [h1.1]; exact ⟨rfl, h1.2⟩)]
  · rw [if_neg h1] at hok ⊢
    rw [if_neg (by rintro ⟨h2, h3⟩; exact h1 ⟨by omega, by rw [show k = 9 by omega] at h3; exact h3⟩)]
    by_cases h2 : 0 < k ∧ l.getD k 0 = 0
    · rw [if_pos h2, if_pos ⟨by omega, h2.2⟩]
    · rw [if_neg h2] at hok ⊢
      rw [if_neg (by omega)]
      have := hok _ _ rfl
      rw [Nat.mod_eq_of_lt this.2.2.2.2.1]
theorem dec_none {l : List Nat} {M : Nat} (hM : M = min l.length 10) (h : ∀ j, j < M → 128 ≤ l.getD j 0) : dec l = if l.length < 10 then (0, 0, 21) else (0, 0, 22) := by
  have hle := idx_le l
  have hi : M ≤ idx l := by
    rcases Nat.lt_or_ge (idx l) M with h1 | h1
    · have h2 := h _ h1
      have h3 := idx_at (l := l) (by omega)
      omega
    · exact h1
  unfold dec
  by_cases h10 : l.length < 10
  · rw [if_neg (by omega), if_pos (by omega), if_pos h10]
  · rw [if_pos (by omega), if_neg h10]
set_option maxRecDepth 100000 in
set_option maxHeartbeats 400000 in
theorem decode_nil (a : Option Addr) (c : Nat) (w : World) :
    Calls Tryz.prog 127 #[.slice a 0 c] w fun e w' => e = .returned (ans (dec [])) ∧ w' = w := by
  go_enter Tryz.func127, Tryz.ntmps127
  go_wp2_with fail
  rw [show (min 0 10 : Int) = 0 from rfl, show (max 0 0 : Int) = 0 from rfl, Int.toNat_zero]
  go_loop [14] (fun i => i = .int .i64 0) (fun _ => 0)
  case atStart => exact rfl
  case round =>
    obtain rfl := hrel
    go_wp2
    go_ret3
    exact ⟨rfl, rfl⟩
set_option maxRecDepth 100000 in
set_option maxHeartbeats 400000 in
theorem decode_row (b off c : Nat) (l : List Nat) (w : World) (hb : Byt l) (hr : Row w b off l) (hlc : l.length ≤ c) (hm : c ≤ maxLen) :
    Calls Tryz.prog 127 #[.slice (some ⟨b, off, none⟩) l.length c] w fun e w' => e = .returned (ans (dec l)) ∧ w' = w := by
  unfold maxLen at hm
  obtain ⟨M, hM, hM2⟩ : ∃ M : Nat, M = min l.length 10 ∧ M ≤ l.length := ⟨_, rfl, by omega⟩
  have hM3 : M ≤ 10 := by omega
  have e1 : min ((l.length : Nat) : Int) 10 = (M : Int) := by omega
  have e2 : max (M : Int) 0 = (M : Int) := by omega
  have HR := hd hr
  have HB := hd hb
  have HM := hd hM
  clear hr hb hM
  go_enter Tryz.func127, Tryz.ntmps127
  go_wp2_with fail
  clear e1 e2
  go_loop [5, 14] (fun s i => ∃ k : Nat, k ≤ M ∧ i = .int .i64 (k : Int) ∧ s = .int .u64 ((num (l.take k) % 18446744073709551616 : Nat) : Int) ∧ ∀ j, j < k → 128 ≤ l.getD j 0) (fun _ i => M - (intOf i).toNat)
  case atStart => exact ⟨0, by omega, rfl, rfl, by intro j hj; omega⟩
  case round =>
    obtain ⟨k, hk, rfl, rfl, he⟩ := hrel
    have HE := hd he
    clear he
    by_cases hlt : k < M
    · have hc := HR.out k (by omega)
      have hx := getD_lt HB.out k
      have HS := hd (num_step (show k < l.length by omega) (by omega))
      have e7 := low7 _ hx
      obtain ⟨x, hxe⟩ : ∃ x, x = l.getD k 0 := ⟨_, rfl⟩
      have HX := hd hxe
      rw [← hxe] at hc hx HS e7
      clear hxe
      generalize hn : num (l.take k) % 18446744073709551616 = n at *
      have hn2 : n < 18446744073709551616 := by omega
      have HN := hd hn
      have HV := hd (or_wrap hn2 HS.out)
      clear hn HS
      go_wp2_with fail
      · have hc128 : x < 128 := by have : (x : Int) < 128 := by assumption
                                   omega
        refine Calls.mono (ended_any _ _ _ (k + 1) x w HV.out (by go_num) (by omega) hx) ?_
        have HD := hd (dec_at HB.out HE.out (show k < l.length by omega) (by omega) (by rw [← HX.out]; exact hc128))
        rw [← HX.out] at HD
        obtain ⟨d1, d2, d3, hdd⟩ : ∃ d1 d2 d3, dec l = (d1, d2, d3) := ⟨_, _, _, rfl⟩
        have HDD := hd hdd
        rw [HD.out, HDD.out]
        clear HD hdd
        rintro e w' ⟨rfl, rfl⟩
        unfold ans
        go_wp2_with fail
        go_ret3
        exact ⟨by rw [HDD.out]; rfl, rfl⟩
      · have hc128 : 128 ≤ x := by have : 128 ≤ (x : Int) := by assumption
                                   omega
        go_round
        case rel =>
          refine ⟨k + 1, by omega, by go_num, by rw [HV.out], fun j hj => ?_⟩
          rcases Nat.lt_or_ge j k with h | h
          · exact HE.out j h
          · rw [show j = k by omega, ← HX.out]; exact hc128
        case measure => simp [intOf]; omega
    · obtain rfl : k = M := by omega
      have HD := hd (dec_none HM.out HE.out)
      by_cases h10 : l.length < 10
      · rw [if_pos h10] at HD
        go_wp2_with fail
        go_ret3
        exact ⟨by rw [HD.out]; rfl, rfl⟩
      · rw [if_neg h10] at HD
        go_wp2_with fail
        go_ret3
        exact ⟨by rw [HD.out]; rfl, rfl⟩
theorem decode_is (v : Value) (l : List Nat) (w : World) (h : IsB w v l) :
    Calls Tryz.prog 127 #[v] w fun e w' => e = .returned (ans (dec l)) ∧ w' = w := by
  obtain ⟨hl, _, ⟨rfl, a, c, rfl⟩ | ⟨b, off, c, rfl, h1, h2, _, hr⟩⟩ := h
  · exact decode_nil a c w
  · exact decode_row b off c l w hl hr h1 h2
end Vt
end Go.Proofs.YtolddolfpnkndaaGreat
namespace Go.Proofs.YtolddolfpnkndaaGreat
open Go.RowKit
namespace Vt
theorem or128 (m : Nat) : bits .or .u8 ((m : Int) % 256) 128 = ((m % 128 + 128 : Nat) : Int) := by
  have all : ∀ c : Fin 256, bits .or .u8 (c.val : Int) 128 = ((c.val % 128 + 128 : Nat) : Int) := by decide +kernel
  have := all ⟨m % 256, by omega⟩
  simp only at this
  rw [show (m : Int) % 256 = ((m % 256 : Nat) : Int) by omega, this]
  congr 2
  omega
set_option maxRecDepth 100000 in
set_option maxHeartbeats 400000 in
theorem encode_row (b off c : Nat) (l : List Nat) (w : World) (hl : N64 l) (hb : b < w.heap.size) (hr : RowK .u64 w b off l) (hm : l.length ≤ 17592186044416) :
    Calls Tryz.prog 75 #[.slice (some ⟨b, off, none⟩) l.length c] w fun e w' => e = .returned (.slice (some ⟨w.heap.size, 0, none⟩) (enc l).length (enc l).length) ∧ JB w' w.heap.size (.slice (some ⟨w.heap.size, 0, none⟩) (enc l).length (enc l).length) (enc l) ∧ Below w.heap.size w w' := by
  have HC := hd (size_row b off c l w hl hr (by omega))
  have hlen := enc_len hl
  have HR := hd hr
  have HL := hd hl
  obtain ⟨i0, hi, hz0, hz1, hz2⟩ := info_parts info_u8
  clear hr hl
  generalize hcap : (enc l).length = cap at *
  have HCAP := hd hcap
  clear hcap
  go_enter Tryz.func75, Tryz.ntmps75
  go_wp2_with fail
  refine Calls.mono HC.out ?_
  rintro e w' ⟨rfl, rfl⟩
  clear HC
  go_wp2_with (at_make; refine wpList_make_own _ rfl _ _ 49 rfl w'.heap.size 5 i0 (.int .u8 0) 1 Tryz.underlying49 hi hz0 hz1 .i64 .i64 (cap : Int) cap rfl rfl rfl (by rw [hz2]; omega) (by unfold maxLen; omega) (Nat.le_refl _) ?_; intro w1 hown hgrow)
  have HB1 : Hid (Below w'.heap.size w' w1) := (Below.refl _ _).grown hgrow (Nat.le_refl _) (fun k hk => by cases hk)
  have HO1 : Hid (JB w1 w'.heap.size (.slice (some ⟨w'.heap.size, 0, none⟩) 0 cap) []) := ⟨byt_nil, hown⟩
  clear hown hgrow
  go_loopw [3, 11] (fun v i wr => ∃ k : Nat, k ≤ l.length ∧ i = .int .i64 (k : Int) ∧ v = .slice (some ⟨w'.heap.size, 0, none⟩) (enc (l.take k)).length cap ∧ JB wr w'.heap.size (.slice (some ⟨w'.heap.size, 0, none⟩) (enc (l.take k)).length cap) (enc (l.take k)) ∧ Below w'.heap.size w' wr) (fun _ i _ => l.length - (intOf i).toNat)
  case atStart => exact ⟨0, by omega, rfl, rfl, HO1.out, HB1.out⟩
  case round =>
    clear HO1 HB1
    obtain ⟨k, hk, rfl, rfl, hJ, hB⟩ := hrel
    have HJ := hd hJ
    have HB := hd hB
    clear hJ hB
    by_cases hlt : k < l.length
    · have hc : wr.cell? ⟨b, off + k, none⟩ = some (.int .u64 ((l.getD k 0 : Nat) : Int)) := by
        rw [HB.out.cell hb]; exact HR.out k hlt
      have hx := HL.out.at k
      have HE := hd (enc_succ hlt)
      have HEC : Hid ((enc (l.take (k + 1))).length ≤ cap) := by
        show (enc (l.take (k + 1))).length ≤ cap
        rw [← HCAP.out]
        have : enc l = enc (l.take (k + 1)) ++ enc (l.drop (k + 1)) := by rw [← enc_append, List.take_append_drop]
        rw [this, List.length_append]; omega
      generalize l.getD k 0 = x at *
      generalize henc : enc (l.take k) = acc at *
      go_wp2_with fail
      go_loopw [3, 5] (fun v y wi => ∃ (m : Nat) (pre : List Nat), m < 18446744073709551616 ∧ y = .int .u64 (m : Int) ∧ vrt x = pre ++ vrt m ∧ v = .slice (some ⟨w'.heap.size, 0, none⟩) (acc.length + pre.length) cap ∧ JB wi w'.heap.size (.slice (some ⟨w'.heap.size, 0, none⟩) (acc.length + pre.length) cap) (acc ++ pre) ∧ Below w'.heap.size w' wi) (fun _ y _ => (intOf y).toNat)
      case atStart => exact ⟨x, [], hx, rfl, rfl, rfl, by simpa using HJ.out, HB.out⟩
      case round =>
        clear HJ HB hc
        obtain ⟨m, pre, hm2, rfl, hv, rfl, hJ, hB⟩ := hrel
        have HJ := hd hJ
        have HB := hd hB
        have HV := hd hv
        clear hJ hB hv
        have HO : Hid (wr.ownsRow w'.heap.size 5 1 (.slice (some ⟨w'.heap.size, 0, none⟩) (acc.length + pre.length) cap) (acc.length + pre.length) (bs (acc ++ pre))) := by
          have := HJ.out.2
          rw [List.length_append] at this; exact this
        have hfit : acc.length + pre.length + 1 ≤ cap := by
          have h1 := HEC.out
          have h2 := vrt_len m
          rw [HE.out, HV.out, List.length_append, List.length_append] at h1
          omega
        by_cases h128 : 128 ≤ m
        · go_wp2_with (at_builtin; refine wpList_append_fits _ rfl _ _ 49 rfl w'.heap.size 5 i0 1 Tryz.underlying49 hi hz1 w'.heap.size (acc.length + pre.length) cap (bs (acc ++ pre)) rfl (HO.out.alloc _) ⟨wr.heap.size, 0, none⟩ 1 1 [_] rfl rfl (cell_one_new _ _ _) (by simp [Value.oneCell']) hfit ?_; intro w2 hown2 hgrow2)
          have HO2 := hd (jb_snoc (or128 m) (by omega) HJ.out.1 (by rw [List.length_append]) hown2)
          have HB2 := hd ((HB.out.alloc HB.out.size _).grown hgrow2 (by have := HB.out.size; simp; omega) (fun k hk => by cases hk; exact Nat.le_refl _))
          clear hown2 hgrow2 HO
          go_roundw
          case rel =>
            refine ⟨m / 128, pre ++ [m % 128 + 128], by omega, by go_num, ?_, ?_, ?_, HB2.out⟩
            · rw [HV.out, vrt_big h128, List.append_assoc]; rfl
            · rw [List.length_append]; rfl
            · rw [← List.append_assoc, List.length_append]; exact HO2.out
          case measure => simp [intOf]; omega
        · go_wp2_with (at_builtin; refine wpList_append_fits _ rfl _ _ 49 rfl w'.heap.size 5 i0 1 Tryz.underlying49 hi hz1 w'.heap.size (acc.length + pre.length) cap (bs (acc ++ pre)) rfl (HO.out.alloc _) ⟨wr.heap.size, 0, none⟩ 1 1 [_] rfl rfl (cell_one_new _ _ _) (by simp [Value.oneCell']) hfit ?_; intro w2 hown2 hgrow2)
          have HO2 := hd (jb_snoc (y := m) (by omega) (by omega) HJ.out.1 (by rw [List.length_append]) hown2)
          have HB2 := hd ((HB.out.alloc HB.out.size _).grown hgrow2 (by have := HB.out.size; simp; omega) (fun k hk => by cases hk; exact Nat.le_refl _))
          have HF : Hid (acc ++ pre ++ [m] = enc (l.take (k + 1))) := by
            show acc ++ pre ++ [m] = enc (l.take (k + 1))
            rw [HE.out, HV.out, vrt_small (by omega), List.append_assoc]
          have HFL : Hid (acc.length + pre.length + 1 = (enc (l.take (k + 1))).length) := by
            show acc.length + pre.length + 1 = (enc (l.take (k + 1))).length
            rw [← HF.out]; simp; omega
          rw [HF.out, HFL.out] at HO2
          clear hown2 hgrow2 HO
          rw [HFL.out]
          go_roundw
          case rel => exact ⟨k + 1, by omega, by go_num, rfl, HO2.out, HB2.out⟩
          case measure => simp [intOf]; omega
    · obtain rfl : k = l.length := by omega
      rw [List.take_length, HCAP.out] at HJ
      go_wp2
      go_ret
      exact ⟨by rw [show (enc (l.take l.length)).length = cap by rw [List.take_length]; exact HCAP.out]; rfl, HJ.out, HB.out⟩
set_option maxRecDepth 100000 in
set_option maxHeartbeats 400000 in
theorem encode_nil (a : Option Addr) (c : Nat) (w : World) :
    Calls Tryz.prog 75 #[.slice a 0 c] w fun e w' => e = .returned (.slice (some ⟨w.heap.size, 0, none⟩) 0 0) ∧ JB w' w.heap.size (.slice (some ⟨w.heap.size, 0, none⟩) 0 0) [] ∧ Below w.heap.size w w' := by
  obtain ⟨i0, hi, hz0, hz1, hz2⟩ := info_parts info_u8
  go_enter Tryz.func75, Tryz.ntmps75
  go_wp2_with fail
  refine Calls.mono (size_nil a c w) ?_
  rintro e w' ⟨rfl, rfl⟩
  go_wp2_with (at_make; refine wpList_make_own _ rfl _ _ 49 rfl w'.heap.size 5 i0 (.int .u8 0) 1 Tryz.underlying49 hi hz0 hz1 .i64 .i64 0 0 rfl rfl rfl (by rw [hz2]; omega) (by unfold maxLen; omega) (Nat.le_refl _) ?_; intro w1 hown hgrow)
  have HB1 : Hid (Below w'.heap.size w' w1) := (Below.refl _ _).grown hgrow (Nat.le_refl _) (fun k hk => by cases hk)
  have HO1 : Hid (JB w1 w'.heap.size (.slice (some ⟨w'.heap.size, 0, none⟩) 0 0) []) := ⟨byt_nil, hown⟩
  clear hown hgrow
  go_loopw [3, 11] (fun v i wr => i = .int .i64 0 ∧ v = .slice (some ⟨w'.heap.size, 0, none⟩) 0 0 ∧ wr = w1) (fun _ _ _ => 0)
  case atStart => exact ⟨rfl, rfl, rfl⟩
  case round =>
    obtain ⟨rfl, rfl, rfl⟩ := hrel
    go_wp2
    go_ret
    exact ⟨rfl, HO1.out, HB1.out⟩
theorem encode_is (v : Value) (l : List Nat) (w : World) (h : IsN w v l) (hm : l.length ≤ 17592186044416) :
    Calls Tryz.prog 75 #[v] w fun e w' => e = .returned (.slice (some ⟨w.heap.size, 0, none⟩) (enc l).length (enc l).length) ∧ JB w' w.heap.size (.slice (some ⟨w.heap.size, 0, none⟩) (enc l).length (enc l).length) (enc l) ∧ Below w.heap.size w w' := by
  obtain ⟨hl, _, ⟨rfl, a, c, rfl⟩ | ⟨b, off, c, rfl, _, _, hb, hr⟩⟩ := h
  · exact encode_nil a c w
  · exact encode_row b off c l w hl hb hr hm
end Vt
end Go.Proofs.YtolddolfpnkndaaGreat
namespace Go.Proofs.YtolddolfpnkndaaGreat
open Go.RowKit
namespace Vt
def eans (d : Nat × Nat × Nat) : Value := .tuple #[.int .u8 (d.1 : Int), .int .i64 (d.2.1 : Int), .int .i64 (d.2.2 : Int)]
theorem fs_1 {l : List Nat} (h : l.getD 0 0 = 167) : fs l = (0, 0, 31) := by unfold fs; rw [if_pos h]
theorem fs_2 {l : List Nat} (h : l.getD 0 0 ≠ 167) (h2 : l.getD 0 0 ≠ 166) : fs l = (l.getD 0 0, 1, 0) := by unfold fs; rw [if_neg h, if_pos h2]
theorem fs_3 {l : List Nat} (h : l.getD 0 0 = 166) (h2 : l.length = 1) : fs l = (0, 0, 32) := by unfold fs; rw [if_neg (by omega), if_neg (by simpa using h), if_pos h2]
theorem fs_4 {l : List Nat} (h : l.getD 0 0 = 166) (h2 : l.length ≠ 1) : fs l = if l.getD 1 0 = 0 then (166, 2, 0) else if l.getD 1 0 = 1 then (167, 2, 0) else (0, 0, 32) := by unfold fs; rw [if_neg (by omega), if_neg (by simpa using h), if_neg h2]
set_option maxRecDepth 100000 in
set_option maxHeartbeats 400000 in
theorem first_is (b off c : Nat) (l : List Nat) (w : World) (hb : Byt l) (hr : Row w b off l) (hne : l ≠ []) :
    Calls Tryz.prog 109 #[.slice (some ⟨b, off, none⟩) l.length c] w fun e w' => e = .returned (eans (fs l)) ∧ w' = w := by
  have hpos : 0 < l.length := List.length_pos_iff.2 hne
  have h0 := hr 0 hpos
  rw [Nat.add_zero] at h0
  have hx := getD_lt hb 0
  have hy := getD_lt hb 1
  have h1 : 1 < l.length → w.cell? ⟨b, off + 1, none⟩ = some (.int .u8 ((l.getD 1 0 : Nat) : Int)) := hr 1
  have F1 := hd (@fs_1 l)
  have F2 := hd (@fs_2 l)
  have F3 := hd (@fs_3 l)
  have F4 := hd (@fs_4 l)
  clear hr hb hne
  generalize l.getD 0 0 = x at *
  generalize l.getD 1 0 = y at *
  by_cases c1 : x = 167
  · subst c1
    rw [F1.out rfl]
    go_enter Tryz.func109, Tryz.ntmps109
    go_wp2_with fail
    go_ret3
    exact ⟨rfl, rfl⟩
  · by_cases c2 : x = 166
    · subst c2
      by_cases c3 : l.length = 1
      · rw [F3.out rfl c3]
        clear F1 F2 F3 F4 h1
        rw [c3]
        go_enter Tryz.func109, Tryz.ntmps109
        go_wp2_with fail
        go_ret3
        exact ⟨rfl, rfl⟩
      · rw [F4.out rfl c3]
        have h2 := h1 (by omega)
        have hl2 : ((l.length : Int) == 1) = false := by simp; omega
        clear F1 F2 F3 F4 h1
        by_cases c4 : y = 0
        · subst c4
          go_enter Tryz.func109, Tryz.ntmps109
          go_wp2_with fail
          go_ret3
          exact ⟨rfl, rfl⟩
        · by_cases c5 : y = 1
          · subst c5
            go_enter Tryz.func109, Tryz.ntmps109
            go_wp2_with fail
            go_ret3
            exact ⟨rfl, rfl⟩
          · rw [if_neg c4, if_neg c5]
            go_enter Tryz.func109, Tryz.ntmps109
            go_wp2_with fail
            go_ret3
            exact ⟨rfl, rfl⟩
    · rw [F2.out c1 c2]
      clear F1 F2 F3 F4 h1
      go_enter Tryz.func109, Tryz.ntmps109
      go_wp2_with fail
      go_ret3
      exact ⟨rfl, rfl⟩
end Vt
end Go.Proofs.YtolddolfpnkndaaGreat
