/-
  bits.Len64 at this program: the library's contract, laid at this program's numbers; and the small arithmetic of 64 bits that the walks of package vint want.
  THE WALKS OF the law's 'same' (are two lists of bytes the same?) and of vint's 'ended', 'Size'.
  THE WALK OF vint.Decode: what the plain function 'dec' says.
  THE WALK OF vint.Encode: the varints of all numbers, one behind the other, in a row of the call's own.
  THE WALKS OF vint.Digits and vint.Number: what 'dg' and 'nm' say.
-/
import Derived.Test.YtpjfoinkifkdoaaMu
import Derived.Shelf.Strconv.Itoa0
import Derived.Deep.QuietTactic
import Derived.BigQuiet
import Derived.Deep.RegionWith
import Derived.OwnWalk
import Derived.Laws.ShiftsVarLaws
namespace Go.Proofs.Ytpjfoinkifkdoaa
namespace Vt
def lenRen : Go.Shelf.Ren := ⟨fun | 129 => 51 | n => n, fun | 53 => 74 | 3 => 3 | 4 => 4 | 46 => 101 | 5 => 5 | 9 => 9 | n => n, fun | n => n⟩
theorem lenLays : Go.Proofs.Lays.n129 Try.prog lenRen := {
  mixed := by kernel_rfl
  f129 := Try.func51.trans (congrArg some (by kernel_rfl))
  t3 := Try.underlying3
  a3 := Try.isAgg3
  z3 := Try.sizeOf3
  v3 := Try.zeroValue3
  t4 := Try.underlying4
  a4 := Try.isAgg4
  z4 := Try.sizeOf4
  v4 := Try.zeroValue4
  t5 := Try.underlying5
  a5 := Try.isAgg5
  z5 := Try.sizeOf5
  v5 := Try.zeroValue5
  t9 := Try.underlying9
  a9 := Try.isAgg9
  z9 := Try.sizeOf9
  v9 := Try.zeroValue9
  t46 := Try.underlying101
  a46 := Try.isAgg101
  z46 := Try.sizeOf101
  v46 := Try.zeroValue101
  t53 := Try.underlying74
  a53 := Try.isAgg74
  z53 := Try.sizeOf74
  v53 := Try.zeroValue74 }
theorem len64_is (x : Nat) (w : World) (h : x < 18446744073709551616) :
    Calls Try.prog 51 #[.int .u64 (x : Int)] w fun e w' => e = .returned (.int .i64 ((Lib.bitLen x : Nat) : Int)) ∧ w' = w := Any.bits_Len64 lenLays (x : Int) w (by omega) (by omega)
end Vt
end Go.Proofs.Ytpjfoinkifkdoaa
namespace Go.Proofs.Ytpjfoinkifkdoaa
open Go.RowKit
namespace Vt
/-- the varints of all numbers, one behind the other -/
def enc (l : List Nat) : List Nat := (l.map vrt).flatten
def N64 (l : List Nat) : Prop := ∀ x ∈ l, x < 18446744073709551616
theorem enc_nil : enc [] = [] := rfl
theorem enc_cons (x : Nat) (l : List Nat) : enc (x :: l) = vrt x ++ enc l := by simp [enc]
theorem enc_append (a b : List Nat) : enc (a ++ b) = enc a ++ enc b := by simp [enc]
theorem enc_one (x : Nat) : enc [x] = vrt x := by simp [enc]
theorem enc_succ {l : List Nat} {k : Nat} (h : k < l.length) : enc (l.take (k + 1)) = enc (l.take k) ++ vrt (l.getD k 0) := by
  rw [take_succ_getD h, enc_append, enc_one]
theorem enc_byt (l : List Nat) : Byt (enc l) := by
  induction l with
  | nil => exact byt_nil
  | cons x l ih => rw [enc_cons]; exact byt_app (vrt_byt x) ih
theorem N64.at {l : List Nat} (h : N64 l) (k : Nat) : l.getD k 0 < 18446744073709551616 := by
  rw [List.getD_eq_getElem?_getD]
  cases e : l[k]? with
  | none => simp
  | some x => exact h x (List.mem_of_getElem? e)
theorem enc_len {l : List Nat} (h : N64 l) : (enc l).length ≤ 10 * l.length := by
  induction l with
  | nil => simp [enc]
  | cons x l ih =>
    rw [enc_cons, List.length_append, List.length_cons]
    have := vrt_ten (h x List.mem_cons_self)
    have := ih fun y hy => h y (List.mem_cons_of_mem _ hy)
    omega
theorem enc_len_le (l : List Nat) : l.length ≤ (enc l).length := by
  induction l with
  | nil => simp
  | cons x l ih =>
    rw [enc_cons, List.length_append, List.length_cons]
    have := vrt_len x
    omega
theorem N64.take {l : List Nat} (h : N64 l) (k : Nat) : N64 (l.take k) := fun x hx => h x (List.mem_of_mem_take hx)
theorem len64_any (z : Int) (x : Nat) (w : World) (hz : z = (x : Int)) (h : x < 18446744073709551616) :
    Calls Try.prog 51 #[.int .u64 z] w fun e w' => e = .returned (.int .i64 ((Lib.bitLen x : Nat) : Int)) ∧ w' = w := by
  subst hz; exact len64_is x w h
set_option maxRecDepth 100000 in
set_option maxHeartbeats 400000 in
theorem size_row (b off c : Nat) (l : List Nat) (w : World) (hl : N64 l) (hr : RowK .u64 w b off l) (hm : l.length ≤ 140737488355328) :
    Calls Try.prog 63 #[.slice (some ⟨b, off, none⟩) l.length c] w fun e w' => e = .returned (.int .i64 (((enc l).length : Nat) : Int)) ∧ w' = w := by
  have HR := hd hr
  have HL := hd hl
  clear hr hl
  go_enter Try.func63, Try.ntmps63
  go_wp2
  go_loop [3, 8] (fun s i => ∃ k : Nat, k ≤ l.length ∧ i = .int .i64 (k : Int) ∧ s = .int .i64 (((enc (l.take k)).length : Nat) : Int)) (fun _ i => l.length - (intOf i).toNat)
  case atStart => exact ⟨0, by omega, rfl, rfl⟩
  case round =>
    obtain ⟨k, hk, rfl, rfl⟩ := hrel
    have hb := enc_len (HL.out.take k)
    rw [List.length_take] at hb
    by_cases hlt : k < l.length
    · have hc := HR.out k hlt
      have hx := HL.out.at k
      have HE := hd (enc_succ hlt)
      have HS := hd (size_vrt hx)
      have h10 := vrt_ten hx
      have hor : l.getD k 0 ||| 1 < 18446744073709551616 := Nat.or_lt_two_pow (n := 64) hx (by decide)
      have e := u64_or_nat (l.getD k 0) 1 hx (by decide)
      have hbl := bl_le hor
      generalize l.getD k 0 = x at *
      generalize hs : (enc (l.take k)).length = s at *
      have HSS := hd hs
      clear hs
      go_wp2_with fail
      refine Calls.mono (len64_any _ (x ||| 1) w (by first | exact e | (rw [← e]; rfl)) hor) ?_
      rintro e w' ⟨rfl, rfl⟩
      go_wp2_with fail
      go_roundw
      case rel =>
        refine ⟨k + 1, by omega, by go_num, ?_⟩
        rw [HE.out, List.length_append, ← HS.out, HSS.out]
        congr 1
        omega
      case measure => simp [intOf]; omega
    · obtain rfl : k = l.length := by omega
      go_wp2
      go_ret
      exact ⟨rfl, rfl⟩
set_option maxRecDepth 100000 in
set_option maxHeartbeats 400000 in
theorem size_nil (a : Option Addr) (c : Nat) (w : World) :
    Calls Try.prog 63 #[.slice a 0 c] w fun e w' => e = .returned (.int .i64 0) ∧ w' = w := by
  go_enter Try.func63, Try.ntmps63
  go_wp2
  go_loop [3, 8] (fun s i => i = .int .i64 0 ∧ s = .int .i64 0) (fun _ _ => 0)
  case atStart => exact ⟨rfl, rfl⟩
  case round =>
    obtain ⟨rfl, rfl⟩ := hrel
    go_wp2
    go_ret
    exact ⟨rfl, rfl⟩
theorem size_is (v : Value) (l : List Nat) (w : World) (h : IsN w v l) (hm : l.length ≤ 140737488355328) :
    Calls Try.prog 63 #[v] w fun e w' => e = .returned (.int .i64 (((enc l).length : Nat) : Int)) ∧ w' = w := by
  obtain ⟨hl, _, ⟨rfl, a, c, rfl⟩ | ⟨b, off, c, rfl, _, _, _, hr⟩⟩ := h
  · exact size_nil a c w
  · exact size_row b off c l w hl hr hm
end Vt
end Go.Proofs.Ytpjfoinkifkdoaa
namespace Go.Proofs.Ytpjfoinkifkdoaa
open Go.RowKit
namespace Vt
/-- an answer of Decode -/
def ans (d : Nat × Nat × Nat) : Value := .tuple #[.int .u64 (d.1 : Int), .int .i64 (d.2.1 : Int), .int .i64 (d.2.2 : Int)]
theorem low7 (c : Nat) (h : c < 256) : bits .andNot .u8 (c : Int) 128 = ((c % 128 : Nat) : Int) := by
  have all : ∀ c : Fin 256, bits .andNot .u8 (c.val : Int) 128 = ((c.val % 128 : Nat) : Int) := by decide +kernel
  exact all ⟨c, h⟩
theorem or_step {n c k : Nat} (hn : n < 2 ^ (7 * k)) (hk : 7 * k ≤ 64) : n ||| c * 2 ^ (7 * k) % 2 ^ 64 = (n + c * 2 ^ (7 * k)) % 2 ^ 64 := by
  have e : c * 2 ^ (7 * k) % 2 ^ 64 = 2 ^ (7 * k) * (c % 2 ^ (64 - 7 * k)) := by
    rw [show (2 : Nat) ^ 64 = 2 ^ (7 * k) * 2 ^ (64 - 7 * k) by rw [← Nat.pow_add]; congr 1; omega, Nat.mul_comm c, Nat.mul_mod_mul_left]
  rw [e, Nat.or_comm, ← Nat.two_pow_add_eq_or_of_lt hn, ← e, Nat.add_comm]
  have e2 : (n + c * 2 ^ (7 * k)) % 2 ^ 64 = (n + c * 2 ^ (7 * k) % 2 ^ 64) % 2 ^ 64 := by rw [Nat.add_mod_mod]
  have hlt : n + c * 2 ^ (7 * k) % 2 ^ 64 < 2 ^ 64 := by
    rw [e]
    have hm : c % 2 ^ (64 - 7 * k) < 2 ^ (64 - 7 * k) := Nat.mod_lt _ (Nat.two_pow_pos _)
    have hp : (2 : Nat) ^ 64 = 2 ^ (7 * k) * 2 ^ (64 - 7 * k) := by rw [← Nat.pow_add]; congr 1; omega
    have : 2 ^ (7 * k) * (c % 2 ^ (64 - 7 * k) + 1) ≤ 2 ^ (7 * k) * 2 ^ (64 - 7 * k) := Nat.mul_le_mul_left _ hm
    rw [Nat.mul_add, Nat.mul_one] at this
    omega
  rw [e2, Nat.mod_eq_of_lt hlt]
theorem num_step {l : List Nat} {k : Nat} (hk : k < l.length) (h9 : k ≤ 9) :
    (num (l.take k) % 18446744073709551616) ||| (l.getD k 0 % 128) * 2 ^ (7 * k) % 18446744073709551616 = num (l.take (k + 1)) % 18446744073709551616 := by
  have h1 := num_lt (l.take k)
  rw [List.length_take, show min k l.length = k by omega, pow7] at h1
  have h2 : 2 ^ (7 * k) ≤ 2 ^ 63 := Nat.pow_le_pow_right (by omega) (by omega)
  have h3 : num (l.take k) < 18446744073709551616 := by
    have : (2 : Nat) ^ 63 = 9223372036854775808 := by decide
    omega
  rw [Nat.mod_eq_of_lt h3]
  have h4 := or_step (n := num (l.take k)) (c := l.getD k 0 % 128) (k := k) h1 (by omega)
  rw [show (2 : Nat) ^ 64 = 18446744073709551616 by decide] at h4
  rw [h4, take_succ_getD hk, num_append]
  congr 2
  rw [List.length_take, show min k l.length = k by omega, pow7]
  simp only [num, Nat.mul_zero, Nat.add_zero]
  rw [Nat.mul_comm]
theorem or_wrap {n x k m : Nat} (hn : n < 18446744073709551616) (h : n ||| x % 128 * 2 ^ (7 * k) % 18446744073709551616 = m) :
    bits .or .u64 (n : Int) (IntKind.u64.wrap ((x : Int) % 128 * 2 ^ (7 * k))) = (m : Int) := by
  have e : IntKind.u64.wrap ((x : Int) % 128 * 2 ^ (7 * k)) = ((x % 128 * 2 ^ (7 * k) % 18446744073709551616 : Nat) : Int) := by
    rw [IntKind.wrap_u64]
    simp only [Int.natCast_emod, Int.natCast_mul, Int.natCast_pow]
    rfl
  rw [e, u64_or_nat _ _ hn (Nat.mod_lt _ (by decide)), h]
/-- what Decode answers where the first byte below 128 stands at k -/
theorem dec_at {l : List Nat} {k : Nat} (hb : Byt l) (h : ∀ j, j < k → 128 ≤ l.getD j 0) (hk : k < l.length) (h9 : k ≤ 9) (hc : l.getD k 0 < 128) :
    (if k + 1 = 10 ∧ 1 < l.getD k 0 then (0, 0, 22) else if 1 < k + 1 ∧ l.getD k 0 = 0 then (0, 0, 23) else (num (l.take (k + 1)) % 18446744073709551616, k + 1, 0)) = dec l := by
  have hi := idx_eq h hk hc
  have hok := fun n q => dec_ok (l := l) (n := n) (k := q) hb
  unfold dec at hok ⊢
  rw [hi] at hok ⊢
  rw [if_neg (by omega), if_neg (by omega)] at hok
  rw [if_neg (show ¬ 10 ≤ k by omega), if_neg (show ¬ k = l.length by omega)]
  by_cases h1 : k = 9 ∧ 1 < l.getD 9 0
  · rw [if_pos h1, if_pos (by rw [h1.1]; exact ⟨rfl, h1.2⟩)]
  · rw [if_neg h1] at hok ⊢
    rw [if_neg (by rintro ⟨h2, h3⟩; exact h1 ⟨by omega, by rw [show k = 9 by omega] at h3; exact h3⟩)]
    by_cases h2 : 0 < k ∧ l.getD k 0 = 0
    · rw [if_pos h2, if_pos ⟨by omega, h2.2⟩]
    · rw [if_neg h2] at hok ⊢
      rw [if_neg (by omega)]
      have := hok _ _ rfl
      rw [Nat.mod_eq_of_lt this.2.2.2.2.1]
theorem dec_none {l : List Nat} {M : Nat} (hM : M = min l.length 10) (h : ∀ j, j < M → 128 ≤ l.getD j 0) : dec l = if l.length < 10 then (0, 0, 21) else (0, 0, 22) := by
  have hle := idx_le l
  have hi : M ≤ idx l := by
    rcases Nat.lt_or_ge (idx l) M with h1 | h1
    · have h2 := h _ h1
      have h3 := idx_at (l := l) (by omega)
      omega
    · exact h1
  unfold dec
  by_cases h10 : l.length < 10
  · rw [if_neg (by omega), if_pos (by omega), if_pos h10]
  · rw [if_pos (by omega), if_neg h10]
end Vt
end Go.Proofs.Ytpjfoinkifkdoaa
namespace Go.Proofs.Ytpjfoinkifkdoaa
open Go.RowKit
namespace Vt
theorem or128 (m : Nat) : bits .or .u8 ((m : Int) % 256) 128 = ((m % 128 + 128 : Nat) : Int) := by
  have all : ∀ c : Fin 256, bits .or .u8 (c.val : Int) 128 = ((c.val % 128 + 128 : Nat) : Int) := by decide +kernel
  have := all ⟨m % 256, by omega⟩
  simp only at this
  rw [show (m : Int) % 256 = ((m % 256 : Nat) : Int) by omega, this]
  congr 2
  omega
set_option maxRecDepth 100000 in
set_option maxHeartbeats 400000 in
theorem encode_row (b off c : Nat) (l : List Nat) (w : World) (hl : N64 l) (hb : b < w.heap.size) (hr : RowK .u64 w b off l) (hm : l.length ≤ 17592186044416) :
    Calls Try.prog 49 #[.slice (some ⟨b, off, none⟩) l.length c] w fun e w' => e = .returned (.slice (some ⟨w.heap.size, 0, none⟩) (enc l).length (enc l).length) ∧ JB w' w.heap.size (.slice (some ⟨w.heap.size, 0, none⟩) (enc l).length (enc l).length) (enc l) ∧ Below w.heap.size w w' := by
  have HC := hd (size_row b off c l w hl hr (by omega))
  have hlen := enc_len hl
  have HR := hd hr
  have HL := hd hl
  obtain ⟨i0, hi, hz0, hz1, hz2⟩ := info_parts info_u8
  clear hr hl
  generalize hcap : (enc l).length = cap at *
  have HCAP := hd hcap
  clear hcap
  go_enter Try.func49, Try.ntmps49
  go_wp2_with fail
  refine Calls.mono HC.out ?_
  rintro e w' ⟨rfl, rfl⟩
  clear HC
  go_wp2_with (at_make; refine wpList_make_own _ rfl _ _ 27 rfl w'.heap.size 5 i0 (.int .u8 0) 1 Try.underlying27 hi hz0 hz1 .i64 .i64 (cap : Int) cap rfl rfl rfl (by rw [hz2]; omega) (by unfold maxLen; omega) (Nat.le_refl _) ?_; intro w1 hown hgrow)
  have HB1 : Hid (Below w'.heap.size w' w1) := (Below.refl _ _).grown hgrow (Nat.le_refl _) (fun k hk => by cases hk)
  have HO1 : Hid (JB w1 w'.heap.size (.slice (some ⟨w'.heap.size, 0, none⟩) 0 cap) []) := ⟨byt_nil, hown⟩
  clear hown hgrow
  go_loopw [3, 11] (fun v i wr => ∃ k : Nat, k ≤ l.length ∧ i = .int .i64 (k : Int) ∧ v = .slice (some ⟨w'.heap.size, 0, none⟩) (enc (l.take k)).length cap ∧ JB wr w'.heap.size (.slice (some ⟨w'.heap.size, 0, none⟩) (enc (l.take k)).length cap) (enc (l.take k)) ∧ Below w'.heap.size w' wr) (fun _ i _ => l.length - (intOf i).toNat)
  case atStart => exact ⟨0, by omega, rfl, rfl, HO1.out, HB1.out⟩
  case round =>
    clear HO1 HB1
    obtain ⟨k, hk, rfl, rfl, hJ, hB⟩ := hrel
    have HJ := hd hJ
    have HB := hd hB
    clear hJ hB
    by_cases hlt : k < l.length
    · have hc : wr.cell? ⟨b, off + k, none⟩ = some (.int .u64 ((l.getD k 0 : Nat) : Int)) := by
        rw [HB.out.cell hb]; exact HR.out k hlt
      have hx := HL.out.at k
      have HE := hd (enc_succ hlt)
      have HEC : Hid ((enc (l.take (k + 1))).length ≤ cap) := by
        show (enc (l.take (k + 1))).length ≤ cap
        rw [← HCAP.out]
        have : enc l = enc (l.take (k + 1)) ++ enc (l.drop (k + 1)) := by rw [← enc_append, List.take_append_drop]
        rw [this, List.length_append]; omega
      generalize l.getD k 0 = x at *
      generalize henc : enc (l.take k) = acc at *
      go_wp2_with fail
      go_loopw [3, 5] (fun v y wi => ∃ (m : Nat) (pre : List Nat), m < 18446744073709551616 ∧ y = .int .u64 (m : Int) ∧ vrt x = pre ++ vrt m ∧ v = .slice (some ⟨w'.heap.size, 0, none⟩) (acc.length + pre.length) cap ∧ JB wi w'.heap.size (.slice (some ⟨w'.heap.size, 0, none⟩) (acc.length + pre.length) cap) (acc ++ pre) ∧ Below w'.heap.size w' wi) (fun _ y _ => (intOf y).toNat)
      case atStart => exact ⟨x, [], hx, rfl, rfl, rfl, by simpa using HJ.out, HB.out⟩
      case round =>
        clear HJ HB hc
        obtain ⟨m, pre, hm2, rfl, hv, rfl, hJ, hB⟩ := hrel
        have HJ := hd hJ
        have HB := hd hB
        have HV := hd hv
        clear hJ hB hv
        have HO : Hid (wr.ownsRow w'.heap.size 5 1 (.slice (some ⟨w'.heap.size, 0, none⟩) (acc.length + pre.length) cap) (acc.length + pre.length) (bs (acc ++ pre))) := by
          have := HJ.out.2
          rw [List.length_append] at this; exact this
        have hfit : acc.length + pre.length + 1 ≤ cap := by
          have h1 := HEC.out
          have h2 := vrt_len m
          rw [HE.out, HV.out, List.length_append, List.length_append] at h1
          omega
        by_cases h128 : 128 ≤ m
        · go_wp2_with (at_builtin; refine wpList_append_fits _ rfl _ _ 27 rfl w'.heap.size 5 i0 1 Try.underlying27 hi hz1 w'.heap.size (acc.length + pre.length) cap (bs (acc ++ pre)) rfl (HO.out.alloc _) ⟨wr.heap.size, 0, none⟩ 1 1 [_] rfl rfl (cell_one_new _ _ _) (by simp [Value.oneCell']) hfit ?_; intro w2 hown2 hgrow2)
          have HO2 := hd (jb_snoc (or128 m) (by omega) HJ.out.1 (by rw [List.length_append]) hown2)
          have HB2 := hd ((HB.out.alloc HB.out.size _).grown hgrow2 (by have := HB.out.size; simp; omega) (fun k hk => by cases hk; exact Nat.le_refl _))
          clear hown2 hgrow2 HO
          go_roundw
          case rel =>
            refine ⟨m / 128, pre ++ [m % 128 + 128], by omega, by go_num, ?_, ?_, ?_, HB2.out⟩
            · rw [HV.out, vrt_big h128, List.append_assoc]; rfl
            · rw [List.length_append]; rfl
            · rw [← List.append_assoc, List.length_append]; exact HO2.out
          case measure => simp [intOf]; omega
        · go_wp2_with (at_builtin; refine wpList_append_fits _ rfl _ _ 27 rfl w'.heap.size 5 i0 1 Try.underlying27 hi hz1 w'.heap.size (acc.length + pre.length) cap (bs (acc ++ pre)) rfl (HO.out.alloc _) ⟨wr.heap.size, 0, none⟩ 1 1 [_] rfl rfl (cell_one_new _ _ _) (by simp [Value.oneCell']) hfit ?_; intro w2 hown2 hgrow2)
          have HO2 := hd (jb_snoc (y := m) (by omega) (by omega) HJ.out.1 (by rw [List.length_append]) hown2)
          have HB2 := hd ((HB.out.alloc HB.out.size _).grown hgrow2 (by have := HB.out.size; simp; omega) (fun k hk => by cases hk; exact Nat.le_refl _))
          have HF : Hid (acc ++ pre ++ [m] = enc (l.take (k + 1))) := by
            show acc ++ pre ++ [m] = enc (l.take (k + 1))
            rw [HE.out, HV.out, vrt_small (by omega), List.append_assoc]
          have HFL : Hid (acc.length + pre.length + 1 = (enc (l.take (k + 1))).length) := by
            show acc.length + pre.length + 1 = (enc (l.take (k + 1))).length
            rw [← HF.out]; simp; omega
          rw [HF.out, HFL.out] at HO2
          clear hown2 hgrow2 HO
          rw [HFL.out]
          go_roundw
          case rel => exact ⟨k + 1, by omega, by go_num, rfl, HO2.out, HB2.out⟩
          case measure => simp [intOf]; omega
    · obtain rfl : k = l.length := by omega
      rw [List.take_length, HCAP.out] at HJ
      go_wp2
      go_ret
      exact ⟨by rw [show (enc (l.take l.length)).length = cap by rw [List.take_length]; exact HCAP.out]; rfl, HJ.out, HB.out⟩
set_option maxRecDepth 100000 in
set_option maxHeartbeats 400000 in
theorem encode_nil (a : Option Addr) (c : Nat) (w : World) :
    Calls Try.prog 49 #[.slice a 0 c] w fun e w' => e = .returned (.slice (some ⟨w.heap.size, 0, none⟩) 0 0) ∧ JB w' w.heap.size (.slice (some ⟨w.heap.size, 0, none⟩) 0 0) [] ∧ Below w.heap.size w w' := by
  obtain ⟨i0, hi, hz0, hz1, hz2⟩ := info_parts info_u8
  go_enter Try.func49, Try.ntmps49
  go_wp2_with fail
  refine Calls.mono (size_nil a c w) ?_
  rintro e w' ⟨rfl, rfl⟩
  go_wp2_with (at_make; refine wpList_make_own _ rfl _ _ 27 rfl w'.heap.size 5 i0 (.int .u8 0) 1 Try.underlying27 hi hz0 hz1 .i64 .i64 0 0 rfl rfl rfl (by rw [hz2]; omega) (by unfold maxLen; omega) (Nat.le_refl _) ?_; intro w1 hown hgrow)
  have HB1 : Hid (Below w'.heap.size w' w1) := (Below.refl _ _).grown hgrow (Nat.le_refl _) (fun k hk => by cases hk)
  have HO1 : Hid (JB w1 w'.heap.size (.slice (some ⟨w'.heap.size, 0, none⟩) 0 0) []) := ⟨byt_nil, hown⟩
  clear hown hgrow
  go_loopw [3, 11] (fun v i wr => i = .int .i64 0 ∧ v = .slice (some ⟨w'.heap.size, 0, none⟩) 0 0 ∧ wr = w1) (fun _ _ _ => 0)
  case atStart => exact ⟨rfl, rfl, rfl⟩
  case round =>
    obtain ⟨rfl, rfl, rfl⟩ := hrel
    go_wp2
    go_ret
    exact ⟨rfl, HO1.out, HB1.out⟩
theorem encode_is (v : Value) (l : List Nat) (w : World) (h : IsN w v l) (hm : l.length ≤ 17592186044416) :
    Calls Try.prog 49 #[v] w fun e w' => e = .returned (.slice (some ⟨w.heap.size, 0, none⟩) (enc l).length (enc l).length) ∧ JB w' w.heap.size (.slice (some ⟨w.heap.size, 0, none⟩) (enc l).length (enc l).length) (enc l) ∧ Below w.heap.size w w' := by
  obtain ⟨hl, _, ⟨rfl, a, c, rfl⟩ | ⟨b, off, c, rfl, _, _, hb, hr⟩⟩ := h
  · exact encode_nil a c w
  · exact encode_row b off c l w hl hb hr hm
end Vt
end Go.Proofs.Ytpjfoinkifkdoaa
namespace Go.Proofs.Ytpjfoinkifkdoaa
open Go.RowKit
namespace Vt
theorem low7' (m : Nat) : bits .andNot .u8 ((m : Int) % 256) 128 = ((m % 128 : Nat) : Int) := by
  rw [show (m : Int) % 256 = ((m % 256 : Nat) : Int) by omega, low7 _ (by omega), Nat.mod_mod_of_dvd _ (by decide)]
theorem dg_step (c j n : Nat) (h : j < c) : (List.replicate (c - j) 0 ++ dg j n).set (c - 1 - j) (n / 128 ^ j % 128) = List.replicate (c - (j + 1)) 0 ++ dg (j + 1) n := by
  obtain ⟨r, hr⟩ : ∃ r, c = r + j + 1 := ⟨c - j - 1, by omega⟩
  subst hr
  rw [show r + j + 1 - j = r + 1 by omega, show r + j + 1 - 1 - j = r by omega, show r + j + 1 - (j + 1) = r by omega]
  rw [List.replicate_succ', List.append_assoc, List.set_append_right _ _ (by simp)]
  simp [dg]
/-- Digits where the count may not be. -/
theorem digits_arg (n : Nat) (c : Int) (w : World) (h : c < 1 ∨ 9 < c) :
    Calls Try.prog 43 #[.int .u64 (n : Int), .int .i64 c] w fun e w' => e = .returned (.tuple #[.slice none 0 0, .int .i64 20]) ∧ w' = w := by
  by_cases h1 : c < 1
  · go_enter Try.func43, Try.ntmps43
    go_wp2
    go_ret2
    exact ⟨rfl, rfl⟩
  · have h2 : 9 < c := by omega
    go_enter Try.func43, Try.ntmps43
    go_wp2
    go_ret2
    exact ⟨rfl, rfl⟩
set_option maxRecDepth 100000 in
set_option maxHeartbeats 400000 in
theorem digits_many (n c : Nat) (w : World) (h1 : 1 ≤ c) (h9 : c ≤ 9) (hn : n < 18446744073709551616) (h : 128 ^ c ≤ n) :
    Calls Try.prog 43 #[.int .u64 (n : Int), .int .i64 (c : Int)] w fun e w' => e = .returned (.tuple #[.slice none 0 0, .int .i64 24]) ∧ w' = w := by
  have hbl := (bl_digits (c := c) hn).2 h
  have hb2 := bl_le hn
  go_enter Try.func43, Try.ntmps43
  go_wp2_with fail
  refine Calls.mono (len64_is n w hn) ?_
  rintro e w' ⟨rfl, rfl⟩
  generalize Lib.bitLen n = z at *
  clear h
  go_wp2
  go_ret2
  exact ⟨rfl, rfl⟩
set_option maxRecDepth 100000 in
set_option maxHeartbeats 400000 in
theorem digits_ok (n c : Nat) (w : World) (h1 : 1 ≤ c) (h9 : c ≤ 9) (hn : n < 18446744073709551616) (h : n < 128 ^ c) :
    Calls Try.prog 43 #[.int .u64 (n : Int), .int .i64 (c : Int)] w fun e w' => e = .returned (.tuple #[.slice (some ⟨w.heap.size, 0, none⟩) c c, .int .i64 0]) ∧ JB w' w.heap.size (.slice (some ⟨w.heap.size, 0, none⟩) c c) (dg c n) ∧ Below w.heap.size w w' := by
  have hbl : Lib.bitLen n ≤ 7 * c := by
    rcases Nat.lt_or_ge (7 * c) (Lib.bitLen n) with h2 | h2
    · have := (bl_digits (c := c) hn).1 h2; omega
    · exact h2
  have hb2 := bl_le hn
  obtain ⟨i0, hi, hz0, hz1, hz2⟩ := info_parts info_u8
  have HN := hd h
  clear h
  go_enter Try.func43, Try.ntmps43
  go_wp2_with fail
  refine Calls.mono (len64_is n w hn) ?_
  rintro e w' ⟨rfl, rfl⟩
  generalize Lib.bitLen n = z at *
  go_wp2_with (at_make; refine wpList_make_full _ rfl _ _ 27 rfl w'.heap.size 5 i0 (.int .u8 0) 1 Try.underlying27 hi hz0 hz1 .i64 .i64 (c : Int) (c : Int) c rfl rfl rfl rfl (by rw [hz2]; omega) (by unfold maxLen; omega) (Nat.le_refl _) ?_; intro w1 hown hgrow)
  have HB1 : Hid (Below w'.heap.size w' w1) := (Below.refl _ _).grown hgrow (Nat.le_refl _) (fun k hk => by cases hk)
  have HO1 : Hid (JB w1 w'.heap.size (.slice (some ⟨w'.heap.size, 0, none⟩) c c) (List.replicate c 0)) := by
    refine ⟨by intro x hx; have := List.eq_of_mem_replicate hx; omega, ?_⟩
    rw [made8] at hown; rw [List.length_replicate]; exact hown
  clear hown hgrow
  go_loopw [0, 7] (fun y i wr => ∃ j : Nat, j ≤ c ∧ i = .int .i64 ((c : Int) - 1 - (j : Int)) ∧ y = .int .u64 ((n / 128 ^ j : Nat) : Int) ∧ JB wr w'.heap.size (.slice (some ⟨w'.heap.size, 0, none⟩) c c) (List.replicate (c - j) 0 ++ dg j n) ∧ Below w'.heap.size w' wr) (fun _ i _ => (intOf i + 1).toNat)
  case atStart => exact ⟨0, by omega, by simp, by simp, by simpa [dg] using HO1.out, HB1.out⟩
  case round =>
    obtain ⟨j, hj, rfl, rfl, hO, hB⟩ := hrel
    have HO := hd hO
    have HB := hd hB
    clear hO hB HO1 HB1
    by_cases hlt : j < c
    · obtain ⟨p, hp⟩ : ∃ p : Nat, p = c - 1 - j := ⟨_, rfl⟩
      have hpi : (c : Int) - 1 - (j : Int) = (p : Int) := by omega
      have hpc : p < c := by omega
      have hll : c = (List.replicate (c - j) 0 ++ dg j n).length := by rw [List.length_append, List.length_replicate, dg_len]; omega
      have hcell := HO.out.buf.cell (j := p) (by omega)
      have hfro := HO.out.buf.2.2.2.2.2 p (by omega)
      have HO2 := hd (HO.out.set (j := p) (y := n / 128 ^ j % 128) hll (by omega))
      have HS := hd (dg_step c j n hlt)
      rw [← hp] at HS
      rw [HS.out] at HO2
      have hqe : n / 128 ^ (j + 1) = n / 128 ^ j / 128 := by rw [Nat.pow_succ, Nat.div_div_eq_div_mul]
      have HQE := hd hqe
      have HLL := hd hll
      generalize hq : n / 128 ^ j = q at *
      have hq2 : q < 18446744073709551616 := by have := Nat.div_le_self n (128 ^ j); omega
      rw [hpi]
      have HP := hd hp
      have HLT := hd hlt
      have HPI := hd hpi
      clear hlt hp hpi hq hj hqe hll
      go_wp2_with fail
      rw [low7' q]
      go_roundw
      case rel =>
        refine ⟨j + 1, HLT.out, ?_, by rw [HQE.out]; rfl, HO2.out, HB.out.setCell (Nat.le_refl _) _⟩
        have := HPI.out
        congr 1
        omega
      case measure => simp [intOf]
    · obtain rfl : j = c := by omega
      have hpi : (j : Int) - 1 - (j : Int) = -1 := by omega
      rw [hpi]
      rw [Nat.sub_self] at HO
      go_wp2
      go_ret2
      exact ⟨rfl, HO.out, HB.out⟩
theorem or_digit {n x : Nat} (hn : n < 72057594037927936) (hx : x < 128) : bits .or .u64 ((n : Int) * 128) (x : Int) = ((n * 128 + x : Nat) : Int) := by
  rw [show (n : Int) * 128 = ((n * 128 : Nat) : Int) by omega, u64_or_nat _ _ (by omega) (by omega)]
  congr 1
  rw [show n * 128 = 2 ^ 7 * n by omega, ← Nat.two_pow_add_eq_or_of_lt (by omega)]
/-- what Number answers of as many bytes as are wanted -/
def numAns (l : List Nat) (c : Nat) : Value := .tuple (if ∀ x ∈ l.take c, x < 128 then #[.int .u64 ((nm (l.take c) : Nat) : Int), .int .i64 0] else #[.int .u64 0, .int .i64 24])
theorem numAns_ok {l : List Nat} {c : Nat} (h : ∀ x ∈ l.take c, x < 128) : numAns l c = .tuple #[.int .u64 ((nm (l.take c) : Nat) : Int), .int .i64 0] := by unfold numAns; rw [if_pos h]
theorem numAns_bad {l : List Nat} {c : Nat} (h : ¬ ∀ x ∈ l.take c, x < 128) : numAns l c = .tuple #[.int .u64 0, .int .i64 24] := by unfold numAns; rw [if_neg h]
/-- what Number answers, at every count -/
def numAll (l : List Nat) (c : Int) : Value := if c < 1 ∨ 9 < c then .tuple #[.int .u64 0, .int .i64 20] else if (l.length : Int) < c then .tuple #[.int .u64 0, .int .i64 21] else numAns l c.toNat
end Vt
end Go.Proofs.Ytpjfoinkifkdoaa
