/-
  THE WALK OF vint.Decode: what the plain function 'dec' says.
  THE WALK OF vint.Encode: the varints of all numbers, one behind the other, in a row of the call's own.
  THE WALKS OF escape.Size, escape.first.
  THE WALKS OF escape.Size, escape.Wrap, escape.Open: what 'wr', 'plain' and 'badB' say, in rows of the call's own.
  THE WALK OF escape.Open: what 'plain' and 'badB' say; the plain bytes lie in a row of the call's own.
-/
import Derived.Test.YtnjhbidialngmaaXhac
import Derived.Laws.ShiftsVarLaws
import Derived.Test.YtnjhbidialngmaaXhaa
import Derived.Test.YtnjhbidialngmaaXhab
import Derived.Laws.BytesString
namespace Go.Proofs.Ytnjhbidialngmaa
open Go.RowKit
namespace Vt
/-- an answer of Decode -/
def ans (d : Nat × Nat × Nat) : Value := .tuple #[.int .u64 (d.1 : Int), .int .i64 (d.2.1 : Int), .int .i64 (d.2.2 : Int)]
theorem low7 (c : Nat) (h : c < 256) : bits .andNot .u8 (c : Int) 128 = ((c % 128 : Nat) : Int) := by
  have all : ∀ c : Fin 256, bits .andNot .u8 (c.val : Int) 128 = ((c.val % 128 : Nat) : Int) := by decide +kernel
  exact all ⟨c, h⟩
theorem or_step {n c k : Nat} (hn : n < 2 ^ (7 * k)) (hk : 7 * k ≤ 64) : n ||| c * 2 ^ (7 * k) % 2 ^ 64 = (n + c * 2 ^ (7 * k)) % 2 ^ 64 := by
  have e : c * 2 ^ (7 * k) % 2 ^ 64 = 2 ^ (7 * k) * (c % 2 ^ (64 - 7 * k)) := by
    rw [show (2 : Nat) ^ 64 = 2 ^ (7 * k) * 2 ^ (64 - 7 * k) by rw [← Nat.pow_add]; congr 1; omega, Nat.mul_comm c, Nat.mul_mod_mul_left]
  rw [e, Nat.or_comm, ← Nat.two_pow_add_eq_or_of_lt hn, ← e, Nat.add_comm]
  have e2 : (n + c * 2 ^ (7 * k)) % 2 ^ 64 = (n + c * 2 ^ (7 * k) % 2 ^ 64) % 2 ^ 64 := by rw [Nat.add_mod_mod]
  have hlt : n + c * 2 ^ (7 * k) % 2 ^ 64 < 2 ^ 64 := by
    rw [e]
    have hm : c % 2 ^ (64 - 7 * k) < 2 ^ (64 - 7 * k) := Nat.mod_lt _ (Nat.two_pow_pos _)
    have hp : (2 : Nat) ^ 64 = 2 ^ (7 * k) * 2 ^ (64 - 7 * k) := by rw [← Nat.pow_add]; congr 1; omega
    have : 2 ^ (7 * k) * (c % 2 ^ (64 - 7 * k) + 1) ≤ 2 ^ (7 * k) * 2 ^ (64 - 7 * k) := Nat.mul_le_mul_left _ hm
    rw [Nat.mul_add, Nat.mul_one] at this
    omega
  rw [e2, Nat.mod_eq_of_lt hlt]
theorem num_step {l : List Nat} {k : Nat} (hk : k < l.length) (h9 : k ≤ 9) :
    (num (l.take k) % 18446744073709551616) ||| (l.getD k 0 % 128) * 2 ^ (7 * k) % 18446744073709551616 = num (l.take (k + 1)) % 18446744073709551616 := by
  have h1 := num_lt (l.take k)
  rw [List.length_take, show min k l.length = k by omega, pow7] at h1
  have h2 : 2 ^ (7 * k) ≤ 2 ^ 63 := Nat.pow_le_pow_right (by omega) (by omega)
  have h3 : num (l.take k) < 18446744073709551616 := by
    have : (2 : Nat) ^ 63 = 9223372036854775808 := by decide
    omega
  rw [Nat.mod_eq_of_lt h3]
  have h4 := or_step (n := num (l.take k)) (c := l.getD k 0 % 128) (k := k) h1 (by omega)
  rw [show (2 : Nat) ^ 64 = 18446744073709551616 by decide] at h4
  rw [h4, take_succ_getD hk, num_append]
  congr 2
  rw [List.length_take, show min k l.length = k by omega, pow7]
  simp only [num, Nat.mul_zero, Nat.add_zero]
  rw [Nat.mul_comm]
theorem or_wrap {n x k m : Nat} (hn : n < 18446744073709551616) (h : n ||| x % 128 * 2 ^ (7 * k) % 18446744073709551616 = m) :
    bits .or .u64 (n : Int) (IntKind.u64.wrap ((x : Int) % 128 * 2 ^ (7 * k))) = (m : Int) := by
  have e : IntKind.u64.wrap ((x : Int) % 128 * 2 ^ (7 * k)) = ((x % 128 * 2 ^ (7 * k) % 18446744073709551616 : Nat) : Int) := by
    rw [IntKind.wrap_u64]
    simp only [Int.natCast_emod, Int.natCast_mul, Int.natCast_pow]
    rfl
  rw [e, u64_or_nat _ _ hn (Nat.mod_lt _ (by decide)), h]
theorem ended_any (z y : Int) (n k c : Nat) (w : World) (hz : z = (n : Int)) (hy : y = (k : Int)) (hk : k ≤ 10) (hc : c < 256) :
    Calls Try.prog 104 #[.int .u64 z, .int .i64 y, .int .u8 (c : Int)] w fun e w' => e = .returned (ans (if k = 10 ∧ 1 < c then (0, 0, 22) else if 1 < k ∧ c = 0 then (0, 0, 23) else (n, k, 0))) ∧ w' = w := by
  subst hz hy
  refine (ended_is n k c w hk hc).mono ?_
  rintro e w' ⟨rfl, rfl⟩
  refine ⟨?_, rfl⟩
  split
  · rfl
  · split
    · rfl
    · rfl
/-- what Decode answers where the first byte below 128 stands at k -/
theorem dec_at {l : List Nat} {k : Nat} (hb : Byt l) (h : ∀ j, j < k → 128 ≤ l.getD j 0) (hk : k < l.length) (h9 : k ≤ 9) (hc : l.getD k 0 < 128) :
    (if k + 1 = 10 ∧ 1 < l.getD k 0 then (0, 0, 22) else if 1 < k + 1 ∧ l.getD k 0 = 0 then (0, 0, 23) else (num (l.take (k + 1)) % 18446744073709551616, k + 1, 0)) = dec l := by
  have hi := idx_eq h hk hc
  have hok := fun n q => dec_ok (l := l) (n := n) (k := q) hb
  unfold dec at hok ⊢
  rw [hi] at hok ⊢
  rw [if_neg (by omega), if_neg (by omega)] at hok
  rw [if_neg (show ¬ 10 ≤ k by omega), if_neg (show ¬ k = l.length by omega)]
  by_cases h1 : k = 9 ∧ 1 < l.getD 9 0
  · rw [if_pos h1, if_pos (by rw [h1.1]; exact ⟨rfl, h1.2⟩)]
  · rw [if_neg h1] at hok ⊢
    rw [if_neg (by rintro ⟨h2, h3⟩; exact h1 ⟨by omega, by rw [show k = 9 by omega] at h3; exact h3⟩)]
    by_cases h2 : 0 < k ∧ l.getD k 0 = 0
    · rw [if_pos h2, if_pos ⟨by omega, h2.2⟩]
    · rw [if_neg h2] at hok ⊢
      rw [if_neg (by omega)]
      have := hok _ _ rfl
      rw [Nat.mod_eq_of_lt this.2.2.2.2.1]
theorem dec_none {l : List Nat} {M : Nat} (hM : M = min l.length 10) (h : ∀ j, j < M → 128 ≤ l.getD j 0) : dec l = if l.length < 10 then (0, 0, 21) else (0, 0, 22) := by
  have hle := idx_le l
  have hi : M ≤ idx l := by
    rcases Nat.lt_or_ge (idx l) M with h1 | h1
    · have h2 := h _ h1
      have h3 := idx_at (l := l) (by omega)
      omega
    · exact h1
  unfold dec
  by_cases h10 : l.length < 10
  · rw [if_neg (by omega), if_pos (by omega), if_pos h10]
  · rw [if_pos (by omega), if_neg h10]
set_option maxRecDepth 100000 in
set_option maxHeartbeats 400000 in
theorem decode_nil (a : Option Addr) (c : Nat) (w : World) :
    Calls Try.prog 103 #[.slice a 0 c] w fun e w' => e = .returned (ans (dec [])) ∧ w' = w := by
  go_enter Try.func103, Try.ntmps103
  go_wp2_with fail
  rw [show (min 0 10 : Int) = 0 from rfl, show (max 0 0 : Int) = 0 from rfl, Int.toNat_zero]
  go_loop [14] (fun i => i = .int .i64 0) (fun _ => 0)
  case atStart => exact rfl
  case round =>
    obtain rfl := hrel
    go_wp2
    go_ret3
    exact ⟨rfl, rfl⟩
set_option maxRecDepth 100000 in
set_option maxHeartbeats 400000 in
theorem decode_row (b off c : Nat) (l : List Nat) (w : World) (hb : Byt l) (hr : Row w b off l) (hlc : l.length ≤ c) (hm : c ≤ maxLen) :
    Calls Try.prog 103 #[.slice (some ⟨b, off, none⟩) l.length c] w fun e w' => e = .returned (ans (dec l)) ∧ w' = w := by
  unfold maxLen at hm
  obtain ⟨M, hM, hM2⟩ : ∃ M : Nat, M = min l.length 10 ∧ M ≤ l.length := ⟨_, rfl, by omega⟩
  have hM3 : M ≤ 10 := by omega
  have e1 : min ((l.length : Nat) : Int) 10 = (M : Int) := by omega
  have e2 : max (M : Int) 0 = (M : Int) := by omega
  have HR := hd hr
  have HB := hd hb
  have HM := hd hM
  clear hr hb hM
  go_enter Try.func103, Try.ntmps103
  go_wp2_with fail
  clear e1 e2
  go_loop [5, 14] (fun s i => ∃ k : Nat, k ≤ M ∧ i = .int .i64 (k : Int) ∧ s = .int .u64 ((num (l.take k) % 18446744073709551616 : Nat) : Int) ∧ ∀ j, j < k → 128 ≤ l.getD j 0) (fun _ i => M - (intOf i).toNat)
  case atStart => exact ⟨0, by omega, rfl, rfl, by intro j hj; omega⟩
  case round =>
    obtain ⟨k, hk, rfl, rfl, he⟩ := hrel
    have HE := hd he
    clear he
    by_cases hlt : k < M
    · have hc := HR.out k (by omega)
      have hx := getD_lt HB.out k
      have HS := hd (num_step (show k < l.length by omega) (by omega))
      have e7 := low7 _ hx
      obtain ⟨x, hxe⟩ : ∃ x, x = l.getD k 0 := ⟨_, rfl⟩
      have HX := hd hxe
      rw [← hxe] at hc hx HS e7
      clear hxe
      generalize hn : num (l.take k) % 18446744073709551616 = n at *
      have hn2 : n < 18446744073709551616 := by omega
      have HN := hd hn
      have HV := hd (or_wrap hn2 HS.out)
      clear hn HS
      go_wp2_with fail
      · have hc128 : x < 128 := by have : (x : Int) < 128 := by assumption
                                   omega
        refine Calls.mono (ended_any _ _ _ (k + 1) x w HV.out (by go_num) (by omega) hx) ?_
        have HD := hd (dec_at HB.out HE.out (show k < l.length by omega) (by omega) (by rw [← HX.out]; exact hc128))
        rw [← HX.out] at HD
        obtain ⟨d1, d2, d3, hdd⟩ : ∃ d1 d2 d3, dec l = (d1, d2, d3) := ⟨_, _, _, rfl⟩
        have HDD := hd hdd
        rw [HD.out, HDD.out]
        clear HD hdd
        rintro e w' ⟨rfl, rfl⟩
        unfold ans
        go_wp2_with fail
        go_ret3
        exact ⟨by rw [HDD.out]; rfl, rfl⟩
      · have hc128 : 128 ≤ x := by have : 128 ≤ (x : Int) := by assumption
                                   omega
        go_round
        case rel =>
          refine ⟨k + 1, by omega, by go_num, by rw [HV.out], fun j hj => ?_⟩
          rcases Nat.lt_or_ge j k with h | h
          · exact HE.out j h
          · rw [show j = k by omega, ← HX.out]; exact hc128
        case measure => simp [intOf]; omega
    · obtain rfl : k = M := by omega
      have HD := hd (dec_none HM.out HE.out)
      by_cases h10 : l.length < 10
      · rw [if_pos h10] at HD
        go_wp2_with fail
        go_ret3
        exact ⟨by rw [HD.out]; rfl, rfl⟩
      · rw [if_neg h10] at HD
        go_wp2_with fail
        go_ret3
        exact ⟨by rw [HD.out]; rfl, rfl⟩
theorem decode_is (v : Value) (l : List Nat) (w : World) (h : IsB w v l) :
    Calls Try.prog 103 #[v] w fun e w' => e = .returned (ans (dec l)) ∧ w' = w := by
  obtain ⟨hl, _, ⟨rfl, a, c, rfl⟩ | ⟨b, off, c, rfl, h1, h2, _, hr⟩⟩ := h
  · exact decode_nil a c w
  · exact decode_row b off c l w hl hr h1 h2
end Vt
end Go.Proofs.Ytnjhbidialngmaa
namespace Go.Proofs.Ytnjhbidialngmaa
open Go.RowKit
namespace Vt
theorem or128 (m : Nat) : bits .or .u8 ((m : Int) % 256) 128 = ((m % 128 + 128 : Nat) : Int) := by
  have all : ∀ c : Fin 256, bits .or .u8 (c.val : Int) 128 = ((c.val % 128 + 128 : Nat) : Int) := by decide +kernel
  have := all ⟨m % 256, by omega⟩
  simp only at this
  rw [show (m : Int) % 256 = ((m % 256 : Nat) : Int) by omega, this]
  congr 2
  omega
set_option maxRecDepth 100000 in
set_option maxHeartbeats 400000 in
theorem encode_row (b off c : Nat) (l : List Nat) (w : World) (hl : N64 l) (hb : b < w.heap.size) (hr : RowK .u64 w b off l) (hm : l.length ≤ 17592186044416) :
    Calls Try.prog 24 #[.slice (some ⟨b, off, none⟩) l.length c] w fun e w' => e = .returned (.slice (some ⟨w.heap.size, 0, none⟩) (enc l).length (enc l).length) ∧ JB w' w.heap.size (.slice (some ⟨w.heap.size, 0, none⟩) (enc l).length (enc l).length) (enc l) ∧ Below w.heap.size w w' := by
  have HC := hd (size_row b off c l w hl hr (by omega))
  have hlen := enc_len hl
  have HR := hd hr
  have HL := hd hl
  obtain ⟨i0, hi, hz0, hz1, hz2⟩ := info_parts info_u8
  clear hr hl
  generalize hcap : (enc l).length = cap at *
  have HCAP := hd hcap
  clear hcap
  go_enter Try.func24, Try.ntmps24
  go_wp2_with fail
  refine Calls.mono HC.out ?_
  rintro e w' ⟨rfl, rfl⟩
  clear HC
  go_wp2_with (at_make; refine wpList_make_own _ rfl _ _ 36 rfl w'.heap.size 5 i0 (.int .u8 0) 1 Try.underlying36 hi hz0 hz1 .i64 .i64 (cap : Int) cap rfl rfl rfl (by rw [hz2]; omega) (by unfold maxLen; omega) (Nat.le_refl _) ?_; intro w1 hown hgrow)
  have HB1 : Hid (Below w'.heap.size w' w1) := (Below.refl _ _).grown hgrow (Nat.le_refl _) (fun k hk => by cases hk)
  have HO1 : Hid (JB w1 w'.heap.size (.slice (some ⟨w'.heap.size, 0, none⟩) 0 cap) []) := ⟨byt_nil, hown⟩
  clear hown hgrow
  go_loopw [3, 11] (fun v i wr => ∃ k : Nat, k ≤ l.length ∧ i = .int .i64 (k : Int) ∧ v = .slice (some ⟨w'.heap.size, 0, none⟩) (enc (l.take k)).length cap ∧ JB wr w'.heap.size (.slice (some ⟨w'.heap.size, 0, none⟩) (enc (l.take k)).length cap) (enc (l.take k)) ∧ Below w'.heap.size w' wr) (fun _ i _ => l.length - (intOf i).toNat)
  case atStart => exact ⟨0, by omega, rfl, rfl, HO1.out, HB1.out⟩
  case round =>
    clear HO1 HB1
    obtain ⟨k, hk, rfl, rfl, hJ, hB⟩ := hrel
    have HJ := hd hJ
    have HB := hd hB
    clear hJ hB
    by_cases hlt : k < l.length
    · have hc : wr.cell? ⟨b, off + k, none⟩ = some (.int .u64 ((l.getD k 0 : Nat) : Int)) := by
        rw [HB.out.cell hb]; exact HR.out k hlt
      have hx := HL.out.at k
      have HE := hd (enc_succ hlt)
      have HEC : Hid ((enc (l.take (k + 1))).length ≤ cap) := by
        show (enc (l.take (k + 1))).length ≤ cap
        rw [← HCAP.out]
        have : enc l = enc (l.take (k + 1)) ++ enc (l.drop (k + 1)) := by rw [← enc_append, List.take_append_drop]
        rw [this, List.length_append]; omega
      generalize l.getD k 0 = x at *
      generalize henc : enc (l.take k) = acc at *
      go_wp2_with fail
      go_loopw [3, 5] (fun v y wi => ∃ (m : Nat) (pre : List Nat), m < 18446744073709551616 ∧ y = .int .u64 (m : Int) ∧ vrt x = pre ++ vrt m ∧ v = .slice (some ⟨w'.heap.size, 0, none⟩) (acc.length + pre.length) cap ∧ JB wi w'.heap.size (.slice (some ⟨w'.heap.size, 0, none⟩) (acc.length + pre.length) cap) (acc ++ pre) ∧ Below w'.heap.size w' wi) (fun _ y _ => (intOf y).toNat)
      case atStart => exact ⟨x, [], hx, rfl, rfl, rfl, by simpa using HJ.out, HB.out⟩
      case round =>
        clear HJ HB hc
        obtain ⟨m, pre, hm2, rfl, hv, rfl, hJ, hB⟩ := hrel
        have HJ := hd hJ
        have HB := hd hB
        have HV := hd hv
        clear hJ hB hv
        have HO : Hid (wr.ownsRow w'.heap.size 5 1 (.slice (some ⟨w'.heap.size, 0, none⟩) (acc.length + pre.length) cap) (acc.length + pre.length) (bs (acc ++ pre))) := by
          have := HJ.out.2
          rw [List.length_append] at this; exact this
        have hfit : acc.length + pre.length + 1 ≤ cap := by
          have h1 := HEC.out
          have h2 := vrt_len m
          rw [HE.out, HV.out, List.length_append, List.length_append] at h1
          omega
        by_cases h128 : 128 ≤ m
        · go_wp2_with (at_builtin; refine wpList_append_fits _ rfl _ _ 36 rfl w'.heap.size 5 i0 1 Try.underlying36 hi hz1 w'.heap.size (acc.length + pre.length) cap (bs (acc ++ pre)) rfl (HO.out.alloc _) ⟨wr.heap.size, 0, none⟩ 1 1 [_] rfl rfl (cell_one_new _ _ _) (by simp [Value.oneCell']) hfit ?_; intro w2 hown2 hgrow2)
          have HO2 := hd (jb_snoc (or128 m) (by omega) HJ.out.1 (by rw [List.length_append]) hown2)
          have HB2 := hd ((HB.out.alloc HB.out.size _).grown hgrow2 (by have := HB.out.size; simp; omega) (fun k hk => by cases hk; exact Nat.le_refl _))
          clear hown2 hgrow2 HO
          go_roundw
          case rel =>
            refine ⟨m / 128, pre ++ [m % 128 + 128], by omega, by go_num, ?_, ?_, ?_, HB2.out⟩
            · rw [HV.out, vrt_big h128, List.append_assoc]; rfl
            · rw [List.length_append]; rfl
            · rw [← List.append_assoc, List.length_append]; exact HO2.out
          case measure => simp [intOf]; omega
        · go_wp2_with (at_builtin; refine wpList_append_fits _ rfl _ _ 36 rfl w'.heap.size 5 i0 1 Try.underlying36 hi hz1 w'.heap.size (acc.length + pre.length) cap (bs (acc ++ pre)) rfl (HO.out.alloc _) ⟨wr.heap.size, 0, none⟩ 1 1 [_] rfl rfl (cell_one_new _ _ _) (by simp [Value.oneCell']) hfit ?_; intro w2 hown2 hgrow2)
          have HO2 := hd (jb_snoc (y := m) (by omega) (by omega) HJ.out.1 (by rw [List.length_append]) hown2)
          have HB2 := hd ((HB.out.alloc HB.out.size _).grown hgrow2 (by have := HB.out.size; simp; omega) (fun k hk => by cases hk; exact Nat.le_refl _))
          have HF : Hid (acc ++ pre ++ [m] = enc (l.take (k + 1))) := by
            show acc ++ pre ++ [m] = enc (l.take (k + 1))
            rw [HE.out, HV.out, vrt_small (by omega), List.append_assoc]
          have HFL : Hid (acc.length + pre.length + 1 = (enc (l.take (k + 1))).length) := by
            show acc.length + pre.length + 1 = (enc (l.take (k + 1))).length
            rw [← HF.out]; simp; omega
          rw [HF.out, HFL.out] at HO2
          clear hown2 hgrow2 HO
          rw [HFL.out]
          go_roundw
          case rel => exact ⟨k + 1, by omega, by go_num, rfl, HO2.out, HB2.out⟩
          case measure => simp [intOf]; omega
    · obtain rfl : k = l.length := by omega
      rw [List.take_length, HCAP.out] at HJ
      go_wp2
      go_ret
      exact ⟨by rw [show (enc (l.take l.length)).length = cap by rw [List.take_length]; exact HCAP.out]; rfl, HJ.out, HB.out⟩
set_option maxRecDepth 100000 in
set_option maxHeartbeats 400000 in
theorem encode_nil (a : Option Addr) (c : Nat) (w : World) :
    Calls Try.prog 24 #[.slice a 0 c] w fun e w' => e = .returned (.slice (some ⟨w.heap.size, 0, none⟩) 0 0) ∧ JB w' w.heap.size (.slice (some ⟨w.heap.size, 0, none⟩) 0 0) [] ∧ Below w.heap.size w w' := by
  obtain ⟨i0, hi, hz0, hz1, hz2⟩ := info_parts info_u8
  go_enter Try.func24, Try.ntmps24
  go_wp2_with fail
  refine Calls.mono (size_nil a c w) ?_
  rintro e w' ⟨rfl, rfl⟩
  go_wp2_with (at_make; refine wpList_make_own _ rfl _ _ 36 rfl w'.heap.size 5 i0 (.int .u8 0) 1 Try.underlying36 hi hz0 hz1 .i64 .i64 0 0 rfl rfl rfl (by rw [hz2]; omega) (by unfold maxLen; omega) (Nat.le_refl _) ?_; intro w1 hown hgrow)
  have HB1 : Hid (Below w'.heap.size w' w1) := (Below.refl _ _).grown hgrow (Nat.le_refl _) (fun k hk => by cases hk)
  have HO1 : Hid (JB w1 w'.heap.size (.slice (some ⟨w'.heap.size, 0, none⟩) 0 0) []) := ⟨byt_nil, hown⟩
  clear hown hgrow
  go_loopw [3, 11] (fun v i wr => i = .int .i64 0 ∧ v = .slice (some ⟨w'.heap.size, 0, none⟩) 0 0 ∧ wr = w1) (fun _ _ _ => 0)
  case atStart => exact ⟨rfl, rfl, rfl⟩
  case round =>
    obtain ⟨rfl, rfl, rfl⟩ := hrel
    go_wp2
    go_ret
    exact ⟨rfl, HO1.out, HB1.out⟩
theorem encode_is (v : Value) (l : List Nat) (w : World) (h : IsN w v l) (hm : l.length ≤ 17592186044416) :
    Calls Try.prog 24 #[v] w fun e w' => e = .returned (.slice (some ⟨w.heap.size, 0, none⟩) (enc l).length (enc l).length) ∧ JB w' w.heap.size (.slice (some ⟨w.heap.size, 0, none⟩) (enc l).length (enc l).length) (enc l) ∧ Below w.heap.size w w' := by
  obtain ⟨hl, _, ⟨rfl, a, c, rfl⟩ | ⟨b, off, c, rfl, _, _, hb, hr⟩⟩ := h
  · exact encode_nil a c w
  · exact encode_row b off c l w hl hb hr hm
end Vt
end Go.Proofs.Ytnjhbidialngmaa
namespace Go.Proofs.Ytnjhbidialngmaa
open Go.RowKit
namespace Vt
def eans (d : Nat × Nat × Nat) : Value := .tuple #[.int .u8 (d.1 : Int), .int .i64 (d.2.1 : Int), .int .i64 (d.2.2 : Int)]
theorem fs_1 {l : List Nat} (h : l.getD 0 0 = 167) : fs l = (0, 0, 31) := by unfold fs; rw [if_pos h]
theorem fs_2 {l : List Nat} (h : l.getD 0 0 ≠ 167) (h2 : l.getD 0 0 ≠ 166) : fs l = (l.getD 0 0, 1, 0) := by unfold fs; rw [if_neg h, if_pos h2]
theorem fs_3 {l : List Nat} (h : l.getD 0 0 = 166) (h2 : l.length = 1) : fs l = (0, 0, 32) := by unfold fs; rw [if_neg (by omega), if_neg (by simpa using h), if_pos h2]
theorem fs_4 {l : List Nat} (h : l.getD 0 0 = 166) (h2 : l.length ≠ 1) : fs l = if l.getD 1 0 = 0 then (166, 2, 0) else if l.getD 1 0 = 1 then (167, 2, 0) else (0, 0, 32) := by unfold fs; rw [if_neg (by omega), if_neg (by simpa using h), if_neg h2]
set_option maxRecDepth 100000 in
set_option maxHeartbeats 400000 in
theorem first_is (b off c : Nat) (l : List Nat) (w : World) (hb : Byt l) (hr : Row w b off l) (hne : l ≠ []) :
    Calls Try.prog 89 #[.slice (some ⟨b, off, none⟩) l.length c] w fun e w' => e = .returned (eans (fs l)) ∧ w' = w := by
  have hpos : 0 < l.length := List.length_pos_iff.2 hne
  have h0 := hr 0 hpos
  rw [Nat.add_zero] at h0
  have hx := getD_lt hb 0
  have hy := getD_lt hb 1
  have h1 : 1 < l.length → w.cell? ⟨b, off + 1, none⟩ = some (.int .u8 ((l.getD 1 0 : Nat) : Int)) := hr 1
  have F1 := hd (@fs_1 l)
  have F2 := hd (@fs_2 l)
  have F3 := hd (@fs_3 l)
  have F4 := hd (@fs_4 l)
  clear hr hb hne
  generalize l.getD 0 0 = x at *
  generalize l.getD 1 0 = y at *
  by_cases c1 : x = 167
  · subst c1
    rw [F1.out rfl]
    go_enter Try.func89, Try.ntmps89
    go_wp2_with fail
    go_ret3
    exact ⟨rfl, rfl⟩
  · by_cases c2 : x = 166
    · subst c2
      by_cases c3 : l.length = 1
      · rw [F3.out rfl c3]
        clear F1 F2 F3 F4 h1
        rw [c3]
        go_enter Try.func89, Try.ntmps89
        go_wp2_with fail
        go_ret3
        exact ⟨rfl, rfl⟩
      · rw [F4.out rfl c3]
        have h2 := h1 (by omega)
        have hl2 : ((l.length : Int) == 1) = false := by simp; omega
        clear F1 F2 F3 F4 h1
        by_cases c4 : y = 0
        · subst c4
          go_enter Try.func89, Try.ntmps89
          go_wp2_with fail
          go_ret3
          exact ⟨rfl, rfl⟩
        · by_cases c5 : y = 1
          · subst c5
            go_enter Try.func89, Try.ntmps89
            go_wp2_with fail
            go_ret3
            exact ⟨rfl, rfl⟩
          · rw [if_neg c4, if_neg c5]
            go_enter Try.func89, Try.ntmps89
            go_wp2_with fail
            go_ret3
            exact ⟨rfl, rfl⟩
    · rw [F2.out c1 c2]
      clear F1 F2 F3 F4 h1
      go_enter Try.func89, Try.ntmps89
      go_wp2_with fail
      go_ret3
      exact ⟨rfl, rfl⟩
end Vt
end Go.Proofs.Ytnjhbidialngmaa
namespace Go.Proofs.Ytnjhbidialngmaa
open Go.RowKit
namespace Vt
set_option maxRecDepth 100000 in
set_option maxHeartbeats 400000 in
theorem esize_row (b off c : Nat) (l : List Nat) (w : World) (hb : Byt l) (hr : Row w b off l) (hm : l.length ≤ 281474976710656) :
    Calls Try.prog 55 #[.slice (some ⟨b, off, none⟩) l.length c] w fun e w' => e = .returned (.int .i64 (((wr l).length : Nat) : Int)) ∧ w' = w := by
  have HR := hd hr
  have HB := hd hb
  clear hr hb
  go_enter Try.func55, Try.ntmps55
  go_wp2_with fail
  go_loop [3, 10] (fun s i => ∃ k n : Nat, k ≤ l.length ∧ i = .int .i64 (k : Int) ∧ s = .int .i64 (n : Int) ∧ n + k = l.length + (wr (l.take k)).length) (fun _ i => l.length - (intOf i).toNat)
  case atStart => exact ⟨0, l.length, by omega, rfl, rfl, by simp [wr]⟩
  case round =>
    obtain ⟨k, n, hk, rfl, rfl, hn⟩ := hrel
    by_cases hlt : k < l.length
    · have hc := HR.out k hlt
      have hx := getD_lt HB.out k
      have hs := congrArg List.length (wr_succ hlt)
      rw [List.length_append] at hs
      have hw := (wr_len (l.take k)).2
      have hw2 := (wr_len (l.take k)).1
      rw [List.length_take, show min k l.length = k by omega] at hw hw2
      generalize l.getD k 0 = x at *
      have HS : Hid (x = 167 → n + 1 + (k + 1) = l.length + (wr (l.take (k + 1))).length) := by
        show x = 167 → _
        intro h; subst h; rw [hs, e1_lead]; simp; omega
      have HS2 : Hid (x = 166 → n + 1 + (k + 1) = l.length + (wr (l.take (k + 1))).length) := by
        show x = 166 → _
        intro h; subst h; rw [hs, e1_esc]; simp; omega
      have HS3 : Hid (x ≠ 167 → x ≠ 166 → n + (k + 1) = l.length + (wr (l.take (k + 1))).length) := by
        show x ≠ 167 → x ≠ 166 → _
        intro h h2; rw [hs, e1_any h h2]; simp; omega
      have hn2 : n ≤ 3 * l.length := by omega
      clear hs hw hw2 hn
      by_cases c1 : x = 167
      · have HZ := hd (HS.out c1)
        subst c1
        clear HS HS2 HS3
        go_wp2_with fail
        go_round
        case rel => exact ⟨k + 1, n + 1, by omega, by go_num, by go_num, HZ.out⟩
        case measure => simp [intOf]; omega
      · by_cases c2 : x = 166
        · have HZ := hd (HS2.out c2)
          subst c2
          clear HS HS2 HS3
          go_wp2_with fail
          go_round
          case rel => exact ⟨k + 1, n + 1, by omega, by go_num, by go_num, HZ.out⟩
          case measure => simp [intOf]; omega
        · have HZ := hd (HS3.out c1 c2)
          have e1 : ((x : Int) == 167) = false := by simp; omega
          have e2 : ((x : Int) == 166) = false := by simp; omega
          clear HS HS2 HS3
          go_wp2_with fail
          go_round
          case rel => exact ⟨k + 1, n, by omega, by go_num, by go_num, HZ.out⟩
          case measure => simp [intOf]; omega
    · obtain rfl : k = l.length := by omega
      have HN : Hid (n = (wr l).length) := by
        show n = (wr l).length
        rw [List.take_length] at hn; omega
      clear hn
      go_wp2
      go_ret
      exact ⟨by rw [HN.out]; rfl, rfl⟩
set_option maxRecDepth 100000 in
set_option maxHeartbeats 400000 in
theorem esize_nil (a : Option Addr) (c : Nat) (w : World) :
    Calls Try.prog 55 #[.slice a 0 c] w fun e w' => e = .returned (.int .i64 0) ∧ w' = w := by
  go_enter Try.func55, Try.ntmps55
  go_wp2_with fail
  go_loop [3, 10] (fun s i => i = .int .i64 0 ∧ s = .int .i64 0) (fun _ _ => 0)
  case atStart => exact ⟨rfl, rfl⟩
  case round =>
    obtain ⟨rfl, rfl⟩ := hrel
    go_wp2
    go_ret
    exact ⟨rfl, rfl⟩
theorem cell_two_new (w : World) (x y : Value) (t : TypeId) : ∀ j u, [x, y][j]? = some u → (w.alloc (.cells #[x, y] t)).cell? ((⟨w.heap.size, 0, none⟩ : Addr).add j) = some u := by
  intro j u hj
  rw [add_at, Nat.zero_add, World.cell?_alloc_new]
  match j, hj with
  | 0, hj => simpa using hj
  | 1, hj => simpa using hj
  | j + 2, hj => simp at hj
theorem jb_snoc2 {w : World} {base : Nat} {a : Option Addr} {n cap x y : Nat} {l : List Nat} (hx : x < 256) (hy : y < 256) (hb : Byt l) (hn : n = l.length) (h : w.ownsRow base 5 1 (.slice a (n + 2) cap) (n + 2) (bs l ++ [.int .u8 (x : Int), .int .u8 (y : Int)])) : JB w base (.slice a (n + 2) cap) (l ++ [x, y]) := by
  refine ⟨byt_app hb (by intro z hz; simp at hz; omega), ?_⟩
  subst hn
  rw [List.length_append, ← bs_app]
  exact h
set_option maxRecDepth 100000 in
set_option maxHeartbeats 400000 in
theorem wrap_row (b off c : Nat) (l : List Nat) (w : World) (hl : Byt l) (hb : b < w.heap.size) (hr : Row w b off l) (hm : l.length ≤ 140737488355328) :
    Calls Try.prog 26 #[.slice (some ⟨b, off, none⟩) l.length c] w fun e w' => e = .returned (.slice (some ⟨w.heap.size, 0, none⟩) (wr l).length (wr l).length) ∧ JB w' w.heap.size (.slice (some ⟨w.heap.size, 0, none⟩) (wr l).length (wr l).length) (wr l) ∧ Below w.heap.size w w' := by
  have HC := hd (esize_row b off c l w hl hr (by omega))
  have hlen := (wr_len l).2
  have HR := hd hr
  have HL := hd hl
  obtain ⟨i0, hi, hz0, hz1, hz2⟩ := info_parts info_u8
  clear hr hl
  generalize hcap : (wr l).length = cap at *
  have HCAP := hd hcap
  clear hcap
  go_enter Try.func26, Try.ntmps26
  go_wp2_with fail
  refine Calls.mono HC.out ?_
  rintro e w' ⟨rfl, rfl⟩
  clear HC
  go_wp2_with (at_make; refine wpList_make_own _ rfl _ _ 36 rfl w'.heap.size 5 i0 (.int .u8 0) 1 Try.underlying36 hi hz0 hz1 .i64 .i64 (cap : Int) cap rfl rfl rfl (by rw [hz2]; omega) (by unfold maxLen; omega) (Nat.le_refl _) ?_; intro w1 hown hgrow)
  have HB1 : Hid (Below w'.heap.size w' w1) := (Below.refl _ _).grown hgrow (Nat.le_refl _) (fun k hk => by cases hk)
  have HO1 : Hid (JB w1 w'.heap.size (.slice (some ⟨w'.heap.size, 0, none⟩) 0 cap) []) := ⟨byt_nil, hown⟩
  clear hown hgrow
  go_loopw [3, 11] (fun v i wr => ∃ k : Nat, k ≤ l.length ∧ i = .int .i64 (k : Int) ∧ v = .slice (some ⟨w'.heap.size, 0, none⟩) (Vt.wr (l.take k)).length cap ∧ JB wr w'.heap.size (.slice (some ⟨w'.heap.size, 0, none⟩) (Vt.wr (l.take k)).length cap) (Vt.wr (l.take k)) ∧ Below w'.heap.size w' wr) (fun _ i _ => l.length - (intOf i).toNat)
  case atStart => exact ⟨0, by omega, rfl, rfl, HO1.out, HB1.out⟩
  case round =>
    clear HO1 HB1
    obtain ⟨k, hk, rfl, rfl, hJ, hB⟩ := hrel
    have HJ := hd hJ
    have HB := hd hB
    clear hJ hB
    by_cases hlt : k < l.length
    · have hc : wr.cell? ⟨b, off + k, none⟩ = some (.int .u8 ((l.getD k 0 : Nat) : Int)) := by
        rw [HB.out.cell hb]; exact HR.out k hlt
      have hx := getD_lt HL.out k
      have HE := hd (wr_succ hlt)
      have hec : (Vt.wr (l.take (k + 1))).length ≤ cap := by
        rw [← HCAP.out]
        have : Vt.wr l = Vt.wr (l.take (k + 1)) ++ Vt.wr (l.drop (k + 1)) := by rw [← wr_append, List.take_append_drop]
        rw [this, List.length_append]; omega
      have hfit : (Vt.wr (l.take k)).length + (e1 (l.getD k 0)).length ≤ cap := by
        have := congrArg List.length HE.out
        rw [List.length_append] at this; omega
      clear hec
      have HO := hd HJ.out.2
      generalize l.getD k 0 = x at *
      generalize henc : Vt.wr (l.take k) = acc at *
      clear henc
      by_cases c1 : x = 167
      · subst c1
        rw [e1_lead] at HE hfit
        have hfit2 : acc.length + 2 ≤ cap := hfit
        clear hfit
        go_wp2_with (at_builtin; refine wpList_append_fits _ rfl _ _ 36 rfl w'.heap.size 5 i0 1 Try.underlying36 hi hz1 w'.heap.size acc.length cap (bs acc) rfl (HO.out.alloc _) ⟨wr.heap.size, 0, none⟩ 2 2 [_, _] rfl rfl (cell_two_new _ _ _ _) (by simp [Value.oneCell']) hfit2 ?_; intro w2 hown2 hgrow2)
        have HO2 := hd (jb_snoc2 (x := 166) (y := 1) (by omega) (by omega) HJ.out.1 rfl hown2)
        have HB2 := hd ((HB.out.alloc HB.out.size _).grown hgrow2 (by have := HB.out.size; simp; omega) (fun k hk => by cases hk; exact Nat.le_refl _))
        rw [← HE.out] at HO2
        have HFL : Hid (acc.length + 2 = (Vt.wr (l.take (k + 1))).length) := by
          show acc.length + 2 = _
          rw [HE.out]; simp
        rw [HFL.out] at HO2
        clear hown2 hgrow2 HO
        rw [HFL.out]
        go_roundw
        case rel => exact ⟨k + 1, by omega, by go_num, rfl, HO2.out, HB2.out⟩
        case measure => simp [intOf]; omega
      · by_cases c2 : x = 166
        · subst c2
          rw [e1_esc] at HE hfit
          have hfit2 : acc.length + 2 ≤ cap := hfit
          clear hfit
          go_wp2_with (at_builtin; refine wpList_append_fits _ rfl _ _ 36 rfl w'.heap.size 5 i0 1 Try.underlying36 hi hz1 w'.heap.size acc.length cap (bs acc) rfl (HO.out.alloc _) ⟨wr.heap.size, 0, none⟩ 2 2 [_, _] rfl rfl (cell_two_new _ _ _ _) (by simp [Value.oneCell']) hfit2 ?_; intro w2 hown2 hgrow2)
          have HO2 := hd (jb_snoc2 (x := 166) (y := 0) (by omega) (by omega) HJ.out.1 rfl hown2)
          have HB2 := hd ((HB.out.alloc HB.out.size _).grown hgrow2 (by have := HB.out.size; simp; omega) (fun k hk => by cases hk; exact Nat.le_refl _))
          rw [← HE.out] at HO2
          have HFL : Hid (acc.length + 2 = (Vt.wr (l.take (k + 1))).length) := by
            show acc.length + 2 = _
            rw [HE.out]; simp
          rw [HFL.out] at HO2
          clear hown2 hgrow2 HO
          rw [HFL.out]
          go_roundw
          case rel => exact ⟨k + 1, by omega, by go_num, rfl, HO2.out, HB2.out⟩
          case measure => simp [intOf]; omega
        · rw [e1_any c1 c2] at HE hfit
          have hfit2 : acc.length + 1 ≤ cap := hfit
          have q1 : ((x : Int) == 167) = false := by simp; omega
          have q2 : ((x : Int) == 166) = false := by simp; omega
          clear hfit
          go_wp2_with (at_builtin; refine wpList_append_fits _ rfl _ _ 36 rfl w'.heap.size 5 i0 1 Try.underlying36 hi hz1 w'.heap.size acc.length cap (bs acc) rfl (HO.out.alloc _) ⟨wr.heap.size, 0, none⟩ 1 1 [_] rfl rfl (cell_one_new _ _ _) (by simp [Value.oneCell']) hfit2 ?_; intro w2 hown2 hgrow2)
          have HO2 := hd (jb_snoc (y := x) rfl hx HJ.out.1 rfl hown2)
          have HB2 := hd ((HB.out.alloc HB.out.size _).grown hgrow2 (by have := HB.out.size; simp; omega) (fun k hk => by cases hk; exact Nat.le_refl _))
          rw [← HE.out] at HO2
          have HFL : Hid (acc.length + 1 = (Vt.wr (l.take (k + 1))).length) := by
            show acc.length + 1 = _
            rw [HE.out]; simp
          rw [HFL.out] at HO2
          clear hown2 hgrow2 HO
          rw [HFL.out]
          go_roundw
          case rel => exact ⟨k + 1, by omega, by go_num, rfl, HO2.out, HB2.out⟩
          case measure => simp [intOf]; omega
    · obtain rfl : k = l.length := by omega
      rw [List.take_length, HCAP.out] at HJ
      go_wp2
      go_ret
      exact ⟨by rw [show (Vt.wr (l.take l.length)).length = cap by rw [List.take_length]; exact HCAP.out]; rfl, HJ.out, HB.out⟩
set_option maxRecDepth 100000 in
set_option maxHeartbeats 400000 in
theorem wrap_nil (a : Option Addr) (c : Nat) (w : World) :
    Calls Try.prog 26 #[.slice a 0 c] w fun e w' => e = .returned (.slice (some ⟨w.heap.size, 0, none⟩) 0 0) ∧ JB w' w.heap.size (.slice (some ⟨w.heap.size, 0, none⟩) 0 0) [] ∧ Below w.heap.size w w' := by
  obtain ⟨i0, hi, hz0, hz1, hz2⟩ := info_parts info_u8
  go_enter Try.func26, Try.ntmps26
  go_wp2_with fail
  refine Calls.mono (esize_nil a c w) ?_
  rintro e w' ⟨rfl, rfl⟩
  go_wp2_with (at_make; refine wpList_make_own _ rfl _ _ 36 rfl w'.heap.size 5 i0 (.int .u8 0) 1 Try.underlying36 hi hz0 hz1 .i64 .i64 0 0 rfl rfl rfl (by rw [hz2]; omega) (by unfold maxLen; omega) (Nat.le_refl _) ?_; intro w1 hown hgrow)
  have HB1 : Hid (Below w'.heap.size w' w1) := (Below.refl _ _).grown hgrow (Nat.le_refl _) (fun k hk => by cases hk)
  have HO1 : Hid (JB w1 w'.heap.size (.slice (some ⟨w'.heap.size, 0, none⟩) 0 0) []) := ⟨byt_nil, hown⟩
  clear hown hgrow
  go_loopw [3, 11] (fun v i wr => i = .int .i64 0 ∧ v = .slice (some ⟨w'.heap.size, 0, none⟩) 0 0 ∧ wr = w1) (fun _ _ _ => 0)
  case atStart => exact ⟨rfl, rfl, rfl⟩
  case round =>
    obtain ⟨rfl, rfl, rfl⟩ := hrel
    go_wp2
    go_ret
    exact ⟨rfl, HO1.out, HB1.out⟩
theorem wrap_is (v : Value) (l : List Nat) (w : World) (h : IsB w v l) (hm : l.length ≤ 140737488355328) :
    Calls Try.prog 26 #[v] w fun e w' => e = .returned (.slice (some ⟨w.heap.size, 0, none⟩) (wr l).length (wr l).length) ∧ JB w' w.heap.size (.slice (some ⟨w.heap.size, 0, none⟩) (wr l).length (wr l).length) (wr l) ∧ Below w.heap.size w w' := by
  obtain ⟨hl, _, ⟨rfl, a, c, rfl⟩ | ⟨b, off, c, rfl, _, _, hb, hr⟩⟩ := h
  · exact wrap_nil a c w
  · exact wrap_row b off c l w hl hb hr hm
end Vt
end Go.Proofs.Ytnjhbidialngmaa
namespace Go.Proofs.Ytnjhbidialngmaa
open Go.RowKit
namespace Vt
/-- what Open gives -/
def opn (l : List Nat) : List Nat := if (badB 0 l).1 = 0 then plain l else []
def OpenPost (w : World) (l : List Nat) (e : Ending) (w' : World) : Prop := ∃ u, e = .returned (.tuple #[u, .int .i64 ((badB 0 l).1 : Int), .int .i64 ((badB 0 l).2 : Int)]) ∧ JB w' w.heap.size u (opn l) ∧ Below w.heap.size w w'
set_option maxRecDepth 100000 in
set_option maxHeartbeats 400000 in
theorem open_row (b off c : Nat) (l : List Nat) (w : World) (hb : Byt l) (hbw : b < w.heap.size) (hr : Row w b off l) (hlc : l.length ≤ c) (hm : l.length ≤ 281474976710656) :
    Calls Try.prog 69 #[.slice (some ⟨b, off, none⟩) l.length c] w (OpenPost w l) := by
  obtain ⟨i0, hi, hz0, hz1, hz2⟩ := info_parts info_u8
  have HR := hd hr
  have HB := hd hb
  clear hr hb
  go_enter Try.func69, Try.ntmps69
  go_wp2_with (at_make; refine wpList_make_own _ rfl _ _ 36 rfl w.heap.size 5 i0 (.int .u8 0) 1 Try.underlying36 hi hz0 hz1 .i64 .i64 (l.length : Int) l.length rfl rfl rfl (by rw [hz2]; omega) (by unfold maxLen; omega) (Nat.le_refl _) ?_; intro w1 hown hgrow)
  have HB1 : Hid (Below w.heap.size w w1) := (Below.refl _ _).grown hgrow (Nat.le_refl _) (fun k hk => by cases hk)
  have HO1 : Hid (JB w1 w.heap.size (.slice (some ⟨w.heap.size, 0, none⟩) 0 l.length) []) := ⟨byt_nil, hown⟩
  clear hown hgrow
  go_loopw [5, 6] (fun v i wr => ∃ (at_ : Nat) (pt : List (Nat × Nat)), at_ ≤ l.length ∧ i = .int .i64 (at_ : Int) ∧ toldB 0 l = pt ++ toldB at_ (l.drop at_) ∧ badB 0 l = badB at_ (l.drop at_) ∧ v = .slice (some ⟨w.heap.size, 0, none⟩) pt.length l.length ∧ JB wr w.heap.size (.slice (some ⟨w.heap.size, 0, none⟩) pt.length l.length) (pt.map Prod.snd) ∧ Below w.heap.size w wr) (fun _ i _ => l.length - (intOf i).toNat)
  case atStart => exact ⟨0, [], by omega, rfl, rfl, rfl, rfl, HO1.out, HB1.out⟩
  case round =>
    clear HO1 HB1
    obtain ⟨at_, pt, hat, rfl, hto, hba, rfl, hJ, hBB⟩ := hrel
    have HTO := hd hto
    have HBA := hd hba
    have HJ := hd hJ
    have HBB := hd hBB
    clear hto hba hJ hBB
    by_cases hlt : at_ < l.length
    · have hne : ¬ c = at_ := by omega
      have hlat : (l.drop at_).length = l.length - at_ := List.length_drop
      have hne0 : l.drop at_ ≠ [] := by intro e; have := congrArg List.length e; rw [hlat] at this; simp at this; omega
      have HC := hd (first_is b (off + at_) (c - at_) (l.drop at_) wr (byt_drop HB.out at_) (fun k hk => by
        rw [hlat] at hk
        rw [HBB.out.cell hbw, Nat.add_assoc, HR.out (at_ + k) (by omega), List.getD_eq_getElem?_getD, List.getD_eq_getElem?_getD, List.getElem?_drop]) hne0)
      rw [hlat] at HC
      have hby := fs_byt (byt_drop HB.out at_)
      obtain ⟨d1, d2, d3, hdd⟩ : ∃ d1 d2 d3, fs (l.drop at_) = (d1, d2, d3) := ⟨_, _, _, rfl⟩
      rw [hdd] at HC hby
      simp only at hby
      unfold eans at HC
      by_cases he : d3 = 0
      · have hk := fs_len hne0 (by rw [hdd]; exact he)
        rw [hdd, hlat] at hk
        simp only at hk
        have hok := toldB_ok (at_ := at_) hne0 (by rw [hdd]; exact he)
        have hbk := badB_ok (at_ := at_) hne0 (by rw [hdd]; exact he)
        rw [hdd] at hok hbk
        simp only [List.drop_drop] at hok hbk
        have hlen2 : pt.length + 1 ≤ l.length := by
          have h1 := toldB_len 0 l
          rw [HTO.out, hok] at h1
          simp at h1; omega
        have HOK := hd hok
        have HBK := hd hbk
        subst he
        clear hok hbk hdd hne0
        have HO : Hid (wr.ownsRow w.heap.size 5 1 (.slice (some ⟨w.heap.size, 0, none⟩) pt.length l.length) pt.length (bs (pt.map Prod.snd))) := by
          have := HJ.out.2
          rw [List.length_map] at this; exact this
        go_wp2_with fail
        refine Calls.mono HC.out ?_
        rintro e w' ⟨rfl, hw'⟩
        clear HC
        subst hw'
        go_wp2_with (at_builtin; refine wpList_append_fits _ rfl _ _ 36 rfl w.heap.size 5 i0 1 Try.underlying36 hi hz1 w.heap.size pt.length l.length (bs (pt.map Prod.snd)) rfl (HO.out.alloc _) ⟨w'.heap.size, 0, none⟩ 1 1 [_] rfl rfl (cell_one_new _ _ _) (by simp [Value.oneCell']) hlen2 ?_; intro w2 hown2 hgrow2)
        have HO2 := hd (jb_snoc (y := d1) rfl hby HJ.out.1 (by rw [List.length_map]) hown2)
        have HB2 := hd ((HBB.out.alloc HBB.out.size _).grown hgrow2 (by have := HBB.out.size; simp; omega) (fun k hk => by cases hk; exact Nat.le_refl _))
        clear hown2 hgrow2 HO
        go_roundw
        case rel =>
          refine ⟨at_ + d2, pt ++ [(at_, d1)], by omega, by go_num, by rw [HTO.out, HOK.out, List.append_assoc]; rfl, by rw [HBA.out, HBK.out], by rw [List.length_append]; rfl, ?_, HB2.out⟩
          rw [List.map_append, List.length_append]
          exact HO2.out
        case measure => simp [intOf]; omega
      · have herr := badB_err (at_ := at_) hne0 (by rw [hdd]; exact he)
        rw [hdd] at herr
        have HER : Hid (badB 0 l = (d3, at_)) := HBA.out.trans herr
        have HOP : Hid (opn l = []) := by
          show opn l = []
          unfold opn; rw [HER.out, if_neg he]
        have he2 : ((d3 : Int) != 0) = true := by simp; omega
        clear herr hdd hne0
        go_wp2_with fail
        refine Calls.mono HC.out ?_
        rintro e w' ⟨rfl, hw'⟩
        clear HC
        subst hw'
        go_wp2_with fail
        go_ret3
        refine ⟨_, by rw [HER.out]; rfl, ?_, HBB.out⟩
        rw [HOP.out]; exact ⟨byt_nil, own_nil _ _⟩
    · obtain rfl : at_ = l.length := by omega
      rw [List.drop_length] at HTO HBA
      have HER : Hid (badB 0 l = (0, 0)) := HBA.out.trans (badB_nil _)
      have HPL : Hid (pt.map Prod.snd = opn l) := by
        show pt.map Prod.snd = opn l
        unfold opn plain; rw [HER.out, if_pos rfl, HTO.out, toldB_nil, List.append_nil]
      rw [HPL.out] at HJ
      go_wp2_with fail
      go_ret3
      exact ⟨_, by rw [HER.out]; rfl, HJ.out, HBB.out⟩
set_option maxRecDepth 100000 in
set_option maxHeartbeats 400000 in
theorem open_nil (a : Option Addr) (c : Nat) (w : World) : Calls Try.prog 69 #[.slice a 0 c] w (OpenPost w []) := by
  obtain ⟨i0, hi, hz0, hz1, hz2⟩ := info_parts info_u8
  go_enter Try.func69, Try.ntmps69
  go_wp2_with (at_make; refine wpList_make_own _ rfl _ _ 36 rfl w.heap.size 5 i0 (.int .u8 0) 1 Try.underlying36 hi hz0 hz1 .i64 .i64 0 0 rfl rfl rfl (by rw [hz2]; omega) (by unfold maxLen; omega) (Nat.le_refl _) ?_; intro w1 hown hgrow)
  have HB1 : Hid (Below w.heap.size w w1) := (Below.refl _ _).grown hgrow (Nat.le_refl _) (fun k hk => by cases hk)
  have HO1 : Hid (JB w1 w.heap.size (.slice (some ⟨w.heap.size, 0, none⟩) 0 0) []) := ⟨byt_nil, hown⟩
  clear hown hgrow
  go_loopw [5, 6] (fun v i wr => i = .int .i64 0 ∧ v = .slice (some ⟨w.heap.size, 0, none⟩) 0 0 ∧ wr = w1) (fun _ _ _ => 0)
  case atStart => exact ⟨rfl, rfl, rfl⟩
  case round =>
    obtain ⟨rfl, rfl, rfl⟩ := hrel
    go_wp2
    go_ret3
    exact ⟨_, rfl, HO1.out, HB1.out⟩
theorem open_is (v : Value) (l : List Nat) (w : World) (h : IsB w v l) (hm : l.length ≤ 281474976710656) : Calls Try.prog 69 #[v] w (OpenPost w l) := by
  obtain ⟨hl, _, ⟨rfl, a, c, rfl⟩ | ⟨b, off, c, rfl, h1, _, hb, hr⟩⟩ := h
  · exact open_nil a c w
  · exact open_row b off c l w hl hb hr h1 hm
end Vt
end Go.Proofs.Ytnjhbidialngmaa
