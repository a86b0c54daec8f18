/-
  bits.Len64 at this program: the library's contract, laid at this program's numbers; and the small arithmetic of 64 bits that the walks of package vint want.
  THE WALKS OF the law's 'same' (are two lists of bytes the same?) and of vint's 'ended', 'Size'.
  THE WALK OF vint.Decode: what the plain function 'dec' says.
  THE READER OF A BODY (frame.reader): kind, number, text, rest: what 'rKind', 'rNum', 'rText', 'rRest' say; all blocks but the reader's own stay.
-/
import Derived.Test.YtabfgoojhangnaaXeaa
import Derived.Shelf.Strconv.Itoa0
import Derived.Test.YtabfgoojhangnaaXeab
import Derived.Deep.QuietTactic
import Derived.BigQuiet
import Derived.Deep.RegionWith
import Derived.OwnWalk
import Derived.Laws.ShiftsVarLaws
import Derived.Test.YtabfgoojhangnaaXeac
import Derived.Test.YtabfgoojhangnaaXeak
import Derived.Test.YtabfgoojhangnaaXeaj
namespace Go.Proofs.Ytabfgoojhangnaa
namespace Vt
def lenRen : Go.Shelf.Ren := ⟨fun | 129 => 57 | n => n, fun | 53 => 43 | 3 => 3 | 4 => 4 | 46 => 88 | 5 => 5 | 9 => 9 | n => n, fun | n => n⟩
theorem lenLays : Go.Proofs.Lays.n129 Try.prog lenRen := {
  mixed := by kernel_rfl
  f129 := Try.func57.trans (congrArg some (by kernel_rfl))
  t3 := Try.underlying3
  a3 := Try.isAgg3
  z3 := Try.sizeOf3
  v3 := Try.zeroValue3
  t4 := Try.underlying4
  a4 := Try.isAgg4
  z4 := Try.sizeOf4
  v4 := Try.zeroValue4
  t5 := Try.underlying5
  a5 := Try.isAgg5
  z5 := Try.sizeOf5
  v5 := Try.zeroValue5
  t9 := Try.underlying9
  a9 := Try.isAgg9
  z9 := Try.sizeOf9
  v9 := Try.zeroValue9
  t46 := Try.underlying88
  a46 := Try.isAgg88
  z46 := Try.sizeOf88
  v46 := Try.zeroValue88
  t53 := Try.underlying43
  a53 := Try.isAgg43
  z53 := Try.sizeOf43
  v53 := Try.zeroValue43 }
theorem len64_is (x : Nat) (w : World) (h : x < 18446744073709551616) :
    Calls Try.prog 57 #[.int .u64 (x : Int)] w fun e w' => e = .returned (.int .i64 ((Lib.bitLen x : Nat) : Int)) ∧ w' = w := Any.bits_Len64 lenLays (x : Int) w (by omega) (by omega)
end Vt
end Go.Proofs.Ytabfgoojhangnaa
namespace Go.Proofs.Ytabfgoojhangnaa
open Go.RowKit
namespace Vt
set_option maxHeartbeats 400000 in
theorem ended_is (n k c : Nat) (w : World) (hk : k ≤ 10) (hc : c < 256) :
    Calls Try.prog 86 #[.int .u64 (n : Int), .int .i64 (k : Int), .int .u8 (c : Int)] w fun e w' => e = .returned (.tuple (if k = 10 ∧ 1 < c then #[.int .u64 0, .int .i64 0, .int .i64 22] else if 1 < k ∧ c = 0 then #[.int .u64 0, .int .i64 0, .int .i64 23] else #[.int .u64 (n : Int), .int .i64 (k : Int), .int .i64 0])) ∧ w' = w := by
  by_cases h1 : k = 10
  · subst h1
    by_cases h2 : 1 < c
    · rw [if_pos ⟨rfl, h2⟩]
      go_enter Try.func86, Try.ntmps86
      go_wp2
      go_ret3
      exact ⟨rfl, rfl⟩
    · rw [if_neg (by omega)]
      by_cases h3 : c = 0
      · subst h3
        rw [if_pos (by omega)]
        go_enter Try.func86, Try.ntmps86
        go_wp2
        go_ret3
        exact ⟨rfl, rfl⟩
      · obtain rfl : c = 1 := by omega
        rw [if_neg (by omega)]
        go_enter Try.func86, Try.ntmps86
        go_wp2
        go_ret3
        exact ⟨rfl, rfl⟩
  · rw [if_neg (by omega)]
    by_cases h2 : 1 < k
    · by_cases h3 : c = 0
      · subst h3
        rw [if_pos (by omega)]
        go_enter Try.func86, Try.ntmps86
        go_wp2
        go_ret3
        exact ⟨rfl, rfl⟩
      · rw [if_neg (by omega)]
        go_enter Try.func86, Try.ntmps86
        go_wp2
        go_ret3
        exact ⟨rfl, rfl⟩
    · rw [if_neg (by omega)]
      go_enter Try.func86, Try.ntmps86
      go_wp2
      go_ret3
      exact ⟨rfl, rfl⟩
/-- the varints of all numbers, one behind the other -/
def enc (l : List Nat) : List Nat := (l.map vrt).flatten
def N64 (l : List Nat) : Prop := ∀ x ∈ l, x < 18446744073709551616
theorem enc_nil : enc [] = [] := rfl
theorem enc_cons (x : Nat) (l : List Nat) : enc (x :: l) = vrt x ++ enc l := by simp [enc]
theorem enc_append (a b : List Nat) : enc (a ++ b) = enc a ++ enc b := by simp [enc]
theorem enc_one (x : Nat) : enc [x] = vrt x := by simp [enc]
theorem enc_succ {l : List Nat} {k : Nat} (h : k < l.length) : enc (l.take (k + 1)) = enc (l.take k) ++ vrt (l.getD k 0) := by
  rw [take_succ_getD h, enc_append, enc_one]
theorem enc_byt (l : List Nat) : Byt (enc l) := by
  induction l with
  | nil => exact byt_nil
  | cons x l ih => rw [enc_cons]; exact byt_app (vrt_byt x) ih
theorem N64.at {l : List Nat} (h : N64 l) (k : Nat) : l.getD k 0 < 18446744073709551616 := by
  rw [List.getD_eq_getElem?_getD]
  cases e : l[k]? with
  | none => simp
  | some x => exact h x (List.mem_of_getElem? e)
theorem enc_len {l : List Nat} (h : N64 l) : (enc l).length ≤ 10 * l.length := by
  induction l with
  | nil => simp [enc]
  | cons x l ih =>
    rw [enc_cons, List.length_append, List.length_cons]
    have := vrt_ten (h x List.mem_cons_self)
    have := ih fun y hy => h y (List.mem_cons_of_mem _ hy)
    omega
theorem enc_len_le (l : List Nat) : l.length ≤ (enc l).length := by
  induction l with
  | nil => simp
  | cons x l ih =>
    rw [enc_cons, List.length_append, List.length_cons]
    have := vrt_len x
    omega
theorem N64.take {l : List Nat} (h : N64 l) (k : Nat) : N64 (l.take k) := fun x hx => h x (List.mem_of_mem_take hx)
theorem len64_any (z : Int) (x : Nat) (w : World) (hz : z = (x : Int)) (h : x < 18446744073709551616) :
    Calls Try.prog 57 #[.int .u64 z] w fun e w' => e = .returned (.int .i64 ((Lib.bitLen x : Nat) : Int)) ∧ w' = w := by
  subst hz; exact len64_is x w h
set_option maxRecDepth 100000 in
set_option maxHeartbeats 400000 in
theorem size_row (b off c : Nat) (l : List Nat) (w : World) (hl : N64 l) (hr : RowK .u64 w b off l) (hm : l.length ≤ 140737488355328) :
    Calls Try.prog 78 #[.slice (some ⟨b, off, none⟩) l.length c] w fun e w' => e = .returned (.int .i64 (((enc l).length : Nat) : Int)) ∧ w' = w := by
  have HR := hd hr
  have HL := hd hl
  clear hr hl
  go_enter Try.func78, Try.ntmps78
  go_wp2
  go_loop [3, 8] (fun s i => ∃ k : Nat, k ≤ l.length ∧ i = .int .i64 (k : Int) ∧ s = .int .i64 (((enc (l.take k)).length : Nat) : Int)) (fun _ i => l.length - (intOf i).toNat)
  case atStart => exact ⟨0, by omega, rfl, rfl⟩
  case round =>
    obtain ⟨k, hk, rfl, rfl⟩ := hrel
    have hb := enc_len (HL.out.take k)
    rw [List.length_take] at hb
    by_cases hlt : k < l.length
    · have hc := HR.out k hlt
      have hx := HL.out.at k
      have HE := hd (enc_succ hlt)
      have HS := hd (size_vrt hx)
      have h10 := vrt_ten hx
      have hor : l.getD k 0 ||| 1 < 18446744073709551616 := Nat.or_lt_two_pow (n := 64) hx (by decide)
      have e := u64_or_nat (l.getD k 0) 1 hx (by decide)
      have hbl := bl_le hor
      generalize l.getD k 0 = x at *
      generalize hs : (enc (l.take k)).length = s at *
      have HSS := hd hs
      clear hs
      go_wp2_with fail
      refine Calls.mono (len64_any _ (x ||| 1) w (by first | exact e | (rw [← e]; rfl)) hor) ?_
      rintro e w' ⟨rfl, rfl⟩
      go_wp2_with fail
      go_roundw
      case rel =>
        refine ⟨k + 1, by omega, by go_num, ?_⟩
        rw [HE.out, List.length_append, ← HS.out, HSS.out]
        congr 1
        omega
      case measure => simp [intOf]; omega
    · obtain rfl : k = l.length := by omega
      go_wp2
      go_ret
      exact ⟨rfl, rfl⟩
set_option maxRecDepth 100000 in
set_option maxHeartbeats 400000 in
theorem size_nil (a : Option Addr) (c : Nat) (w : World) :
    Calls Try.prog 78 #[.slice a 0 c] w fun e w' => e = .returned (.int .i64 0) ∧ w' = w := by
  go_enter Try.func78, Try.ntmps78
  go_wp2
  go_loop [3, 8] (fun s i => i = .int .i64 0 ∧ s = .int .i64 0) (fun _ _ => 0)
  case atStart => exact ⟨rfl, rfl⟩
  case round =>
    obtain ⟨rfl, rfl⟩ := hrel
    go_wp2
    go_ret
    exact ⟨rfl, rfl⟩
theorem size_is (v : Value) (l : List Nat) (w : World) (h : IsN w v l) (hm : l.length ≤ 140737488355328) :
    Calls Try.prog 78 #[v] w fun e w' => e = .returned (.int .i64 (((enc l).length : Nat) : Int)) ∧ w' = w := by
  obtain ⟨hl, _, ⟨rfl, a, c, rfl⟩ | ⟨b, off, c, rfl, _, _, _, hr⟩⟩ := h
  · exact size_nil a c w
  · exact size_row b off c l w hl hr hm
end Vt
end Go.Proofs.Ytabfgoojhangnaa
namespace Go.Proofs.Ytabfgoojhangnaa
open Go.RowKit
namespace Vt
/-- an answer of Decode -/
def ans (d : Nat × Nat × Nat) : Value := .tuple #[.int .u64 (d.1 : Int), .int .i64 (d.2.1 : Int), .int .i64 (d.2.2 : Int)]
theorem low7 (c : Nat) (h : c < 256) : bits .andNot .u8 (c : Int) 128 = ((c % 128 : Nat) : Int) := by
  have all : ∀ c : Fin 256, bits .andNot .u8 (c.val : Int) 128 = ((c.val % 128 : Nat) : Int) := by decide +kernel
  exact all ⟨c, h⟩
theorem or_step {n c k : Nat} (hn : n < 2 ^ (7 * k)) (hk : 7 * k ≤ 64) : n ||| c * 2 ^ (7 * k) % 2 ^ 64 = (n + c * 2 ^ (7 * k)) % 2 ^ 64 := by
  have e : c * 2 ^ (7 * k) % 2 ^ 64 = 2 ^ (7 * k) * (c % 2 ^ (64 - 7 * k)) := by
    rw [show (2 : Nat) ^ 64 = 2 ^ (7 * k) * 2 ^ (64 - 7 * k) by rw [← Nat.pow_add]; congr 1; omega, Nat.mul_comm c, Nat.mul_mod_mul_left]
  rw [e, Nat.or_comm, ← Nat.two_pow_add_eq_or_of_lt hn, ← e, Nat.add_comm]
  have e2 : (n + c * 2 ^ (7 * k)) % 2 ^ 64 = (n + c * 2 ^ (7 * k) % 2 ^ 64) % 2 ^ 64 := by rw [Nat.add_mod_mod]
  have hlt : n + c * 2 ^ (7 * k) % 2 ^ 64 < 2 ^ 64 := by
    rw [e]
    have hm : c % 2 ^ (64 - 7 * k) < 2 ^ (64 - 7 * k) := Nat.mod_lt _ (Nat.two_pow_pos _)
    have hp : (2 : Nat) ^ 64 = 2 ^ (7 * k) * 2 ^ (64 - 7 * k) := by rw [← Nat.pow_add]; congr 1; omega
    have : 2 ^ (7 * k) * (c % 2 ^ (64 - 7 * k) + 1) ≤ 2 ^ (7 * k) * 2 ^ (64 - 7 * k) := Nat.mul_le_mul_left _ hm
    rw [Nat.mul_add, Nat.mul_one] at this
    omega
  rw [e2, Nat.mod_eq_of_lt hlt]
theorem num_step {l : List Nat} {k : Nat} (hk : k < l.length) (h9 : k ≤ 9) :
    (num (l.take k) % 18446744073709551616) ||| (l.getD k 0 % 128) * 2 ^ (7 * k) % 18446744073709551616 = num (l.take (k + 1)) % 18446744073709551616 := by
  have h1 := num_lt (l.take k)
  rw [List.length_take, show min k l.length = k by omega, pow7] at h1
  have h2 : 2 ^ (7 * k) ≤ 2 ^ 63 := Nat.pow_le_pow_right (by omega) (by omega)
  have h3 : num (l.take k) < 18446744073709551616 := by
    have : (2 : Nat) ^ 63 = 9223372036854775808 := by decide
    omega
  rw [Nat.mod_eq_of_lt h3]
  have h4 := or_step (n := num (l.take k)) (c := l.getD k 0 % 128) (k := k) h1 (by omega)
  rw [show (2 : Nat) ^ 64 = 18446744073709551616 by decide] at h4
  rw [h4, take_succ_getD hk, num_append]
  congr 2
  rw [List.length_take, show min k l.length = k by omega, pow7]
  simp only [num, Nat.mul_zero, Nat.add_zero]
  rw [Nat.mul_comm]
theorem or_wrap {n x k m : Nat} (hn : n < 18446744073709551616) (h : n ||| x % 128 * 2 ^ (7 * k) % 18446744073709551616 = m) :
    bits .or .u64 (n : Int) (IntKind.u64.wrap ((x : Int) % 128 * 2 ^ (7 * k))) = (m : Int) := by
  have e : IntKind.u64.wrap ((x : Int) % 128 * 2 ^ (7 * k)) = ((x % 128 * 2 ^ (7 * k) % 18446744073709551616 : Nat) : Int) := by
    rw [IntKind.wrap_u64]
    simp only [Int.natCast_emod, Int.natCast_mul, Int.natCast_pow]
    rfl
  rw [e, u64_or_nat _ _ hn (Nat.mod_lt _ (by decide)), h]
theorem ended_any (z y : Int) (n k c : Nat) (w : World) (hz : z = (n : Int)) (hy : y = (k : Int)) (hk : k ≤ 10) (hc : c < 256) :
    Calls Try.prog 86 #[.int .u64 z, .int .i64 y, .int .u8 (c : Int)] w fun e w' => e = .returned (ans (if k = 10 ∧ 1 < c then (0, 0, 22) else if 1 < k ∧ c = 0 then (0, 0, 23) else (n, k, 0))) ∧ w' = w := by
  subst hz hy
  refine (ended_is n k c w hk hc).mono ?_
  rintro e w' ⟨rfl, rfl⟩
  refine ⟨?_, rfl⟩
  split
  · rfl
  · split
    · rfl
    · rfl
/-- what Decode answers where the first byte below 128 stands at k -/
theorem dec_at {l : List Nat} {k : Nat} (hb : Byt l) (h : ∀ j, j < k → 128 ≤ l.getD j 0) (hk : k < l.length) (h9 : k ≤ 9) (hc : l.getD k 0 < 128) :
    (if k + 1 = 10 ∧ 1 < l.getD k 0 then (0, 0, 22) else if 1 < k + 1 ∧ l.getD k 0 = 0 then (0, 0, 23) else (num (l.take (k + 1)) % 18446744073709551616, k + 1, 0)) = dec l := by
  have hi := idx_eq h hk hc
  have hok := fun n q => dec_ok (l := l) (n := n) (k := q) hb
  unfold dec at hok ⊢
  rw [hi] at hok ⊢
  rw [if_neg (by omega), if_neg (by omega)] at hok
  rw [if_neg (show ¬ 10 ≤ k by omega), if_neg (show ¬ k = l.length by omega)]
  by_cases h1 : k = 9 ∧ 1 < l.getD 9 0
  · rw [if_pos h1, if_pos (by rw [h1.1]; exact ⟨rfl, h1.2⟩)]
  · rw [if_neg h1] at hok ⊢
    rw [if_neg (by rintro ⟨h2, h3⟩; exact h1 ⟨by omega, by rw [show k = 9 by omega] at h3; exact h3⟩)]
    by_cases h2 : 0 < k ∧ l.getD k 0 = 0
    · rw [if_pos h2, if_pos ⟨by omega, h2.2⟩]
    · rw [if_neg h2] at hok ⊢
      rw [if_neg (by omega)]
      have := hok _ _ rfl
      rw [Nat.mod_eq_of_lt this.2.2.2.2.1]
theorem dec_none {l : List Nat} {M : Nat} (hM : M = min l.length 10) (h : ∀ j, j < M → 128 ≤ l.getD j 0) : dec l = if l.length < 10 then (0, 0, 21) else (0, 0, 22) := by
  have hle := idx_le l
  have hi : M ≤ idx l := by
    rcases Nat.lt_or_ge (idx l) M with h1 | h1
    · have h2 := h _ h1
      have h3 := idx_at (l := l) (by omega)
      omega
    · exact h1
  unfold dec
  by_cases h10 : l.length < 10
  · rw [if_neg (by omega), if_pos (by omega), if_pos h10]
  · rw [if_pos (by omega), if_neg h10]
set_option maxRecDepth 100000 in
set_option maxHeartbeats 400000 in
theorem decode_nil (a : Option Addr) (c : Nat) (w : World) :
    Calls Try.prog 81 #[.slice a 0 c] w fun e w' => e = .returned (ans (dec [])) ∧ w' = w := by
  go_enter Try.func81, Try.ntmps81
  go_wp2_with fail
  rw [show (min 0 10 : Int) = 0 from rfl, show (max 0 0 : Int) = 0 from rfl, Int.toNat_zero]
  go_loop [14] (fun i => i = .int .i64 0) (fun _ => 0)
  case atStart => exact rfl
  case round =>
    obtain rfl := hrel
    go_wp2
    go_ret3
    exact ⟨rfl, rfl⟩
set_option maxRecDepth 100000 in
set_option maxHeartbeats 400000 in
theorem decode_row (b off c : Nat) (l : List Nat) (w : World) (hb : Byt l) (hr : Row w b off l) (hlc : l.length ≤ c) (hm : c ≤ maxLen) :
    Calls Try.prog 81 #[.slice (some ⟨b, off, none⟩) l.length c] w fun e w' => e = .returned (ans (dec l)) ∧ w' = w := by
  unfold maxLen at hm
  obtain ⟨M, hM, hM2⟩ : ∃ M : Nat, M = min l.length 10 ∧ M ≤ l.length := ⟨_, rfl, by omega⟩
  have hM3 : M ≤ 10 := by omega
  have e1 : min ((l.length : Nat) : Int) 10 = (M : Int) := by omega
  have e2 : max (M : Int) 0 = (M : Int) := by omega
  have HR := hd hr
  have HB := hd hb
  have HM := hd hM
  clear hr hb hM
  go_enter Try.func81, Try.ntmps81
  go_wp2_with fail
  clear e1 e2
  go_loop [5, 14] (fun s i => ∃ k : Nat, k ≤ M ∧ i = .int .i64 (k : Int) ∧ s = .int .u64 ((num (l.take k) % 18446744073709551616 : Nat) : Int) ∧ ∀ j, j < k → 128 ≤ l.getD j 0) (fun _ i => M - (intOf i).toNat)
  case atStart => exact ⟨0, by omega, rfl, rfl, by intro j hj; omega⟩
  case round =>
    obtain ⟨k, hk, rfl, rfl, he⟩ := hrel
    have HE := hd he
    clear he
    by_cases hlt : k < M
    · have hc := HR.out k (by omega)
      have hx := getD_lt HB.out k
      have HS := hd (num_step (show k < l.length by omega) (by omega))
      have e7 := low7 _ hx
      obtain ⟨x, hxe⟩ : ∃ x, x = l.getD k 0 := ⟨_, rfl⟩
      have HX := hd hxe
      rw [← hxe] at hc hx HS e7
      clear hxe
      generalize hn : num (l.take k) % 18446744073709551616 = n at *
      have hn2 : n < 18446744073709551616 := by omega
      have HN := hd hn
      have HV := hd (or_wrap hn2 HS.out)
      clear hn HS
      go_wp2_with fail
      · have hc128 : x < 128 := by have : (x : Int) < 128 := by assumption
                                   omega
        refine Calls.mono (ended_any _ _ _ (k + 1) x w HV.out (by go_num) (by omega) hx) ?_
        have HD := hd (dec_at HB.out HE.out (show k < l.length by omega) (by omega) (by rw [← HX.out]; exact hc128))
        rw [← HX.out] at HD
        obtain ⟨d1, d2, d3, hdd⟩ : ∃ d1 d2 d3, dec l = (d1, d2, d3) := ⟨_, _, _, rfl⟩
        have HDD := hd hdd
        rw [HD.out, HDD.out]
        clear HD hdd
        rintro e w' ⟨rfl, rfl⟩
        unfold ans
        go_wp2_with fail
        go_ret3
        exact ⟨by rw [HDD.out]; rfl, rfl⟩
      · have hc128 : 128 ≤ x := by have : 128 ≤ (x : Int) := by assumption
                                   omega
        go_round
        case rel =>
          refine ⟨k + 1, by omega, by go_num, by rw [HV.out], fun j hj => ?_⟩
          rcases Nat.lt_or_ge j k with h | h
          · exact HE.out j h
          · rw [show j = k by omega, ← HX.out]; exact hc128
        case measure => simp [intOf]; omega
    · obtain rfl : k = M := by omega
      have HD := hd (dec_none HM.out HE.out)
      by_cases h10 : l.length < 10
      · rw [if_pos h10] at HD
        go_wp2_with fail
        go_ret3
        exact ⟨by rw [HD.out]; rfl, rfl⟩
      · rw [if_neg h10] at HD
        go_wp2_with fail
        go_ret3
        exact ⟨by rw [HD.out]; rfl, rfl⟩
theorem decode_is (v : Value) (l : List Nat) (w : World) (h : IsB w v l) :
    Calls Try.prog 81 #[v] w fun e w' => e = .returned (ans (dec l)) ∧ w' = w := by
  obtain ⟨hl, _, ⟨rfl, a, c, rfl⟩ | ⟨b, off, c, rfl, h1, h2, _, hr⟩⟩ := h
  · exact decode_nil a c w
  · exact decode_row b off c l w hl hr h1 h2
end Vt
end Go.Proofs.Ytabfgoojhangnaa
namespace Go.Proofs.Ytabfgoojhangnaa
open Go.RowKit
namespace Vt
/-- all blocks that were there, but one, stay -/
structure KeepO (B : Nat) (w w' : World) : Prop where
  os : w'.os = w.os
  tape : w'.tape = w.tape
  output : w'.output = w.output
  size : w.heap.size ≤ w'.heap.size
  block : ∀ k, k < w.heap.size → k ≠ B → w'.heap[k]? = w.heap[k]?
theorem KeepO.refl (B : Nat) (w : World) : KeepO B w w := ⟨rfl, rfl, rfl, Nat.le_refl _, fun _ _ _ => rfl⟩
theorem KeepO.trans {B : Nat} {a b c : World} (h : KeepO B a b) (k : KeepO B b c) : KeepO B a c :=
  ⟨k.os.trans h.os, k.tape.trans h.tape, k.output.trans h.output, Nat.le_trans h.size k.size, fun i hi hb => (k.block i (Nat.lt_of_lt_of_le hi h.size) hb).trans (h.block i hi hb)⟩
theorem KeepO.below {B n : Nat} {a b : World} (h : KeepO B a b) (hn : n ≤ B) (hn2 : n ≤ a.heap.size) : Below n a b := ⟨h.os, h.tape, h.output, h.size, fun i hi => h.block i (by omega) (by omega)⟩
theorem KeepO.of_below {B : Nat} {a b : World} (h : Below a.heap.size a b) : KeepO B a b := ⟨h.os, h.tape, h.output, h.size, fun i hi _ => h.block i hi⟩
theorem KeepO.alloc (B : Nat) (w : World) (o : Obj) : KeepO B w (w.alloc o) := KeepO.of_below ((Below.refl _ _).alloc (Nat.le_refl _) o)
theorem KeepO.set (B j : Nat) (w : World) (v : Value) : KeepO B w (w.setCell ⟨B, j, none⟩ v) := by
  have hb : Below B w (w.setCell ⟨B, j, none⟩ v) := (Below.refl _ _).setCell (p := ⟨B, j, none⟩) (Nat.le_refl _) v
  refine ⟨hb.os, hb.tape, hb.output, hb.size, fun k hk hne => ?_⟩
  show (w.heap.modify B _)[k]? = _
  rw [Array.getElem?_modify, if_neg (fun q => hne q.symm)]
theorem Blk.keepO {W W' : World} {O B : Nat} {T : TypeId} {cs : List Value} (h : Blk W O T cs) (hO : O ≠ B) (hb : KeepO B W W') : Blk W' O T cs := (hb.block O h.lt hO).trans h
theorem IsK.keepO {k : IntKind} {M B : Nat} {w w' : World} {v : Value} {l : List Nat} (h : IsK k M w v l) (hv : ∀ b off n c, v = .slice (some ⟨b, off, none⟩) n c → b ≠ B) (hb : KeepO B w w') : IsK k M w' v l := by
  obtain ⟨h1, h2, ⟨rfl, a, c, rfl⟩ | ⟨b, off, c, rfl, h3, h4, h5, h6⟩⟩ := h
  · exact ⟨h1, h2, .inl ⟨rfl, a, c, rfl⟩⟩
  · refine ⟨h1, h2, .inr ⟨b, off, c, rfl, h3, h4, Nat.lt_of_lt_of_le h5 hb.size, fun j hj => ?_⟩⟩
    rw [World.cell?_of_block (a := ⟨b, off + j, none⟩) (hb.block b h5 (hv _ _ _ _ rfl))]; exact h6 j hj
def Low (v : Value) (B : Nat) : Prop := ∀ a n c, v = .slice (some a) n c → a.block < B ∧ a.spot = none
theorem low_some {b off n c B : Nat} (h : b < B) : Low (.slice (some ⟨b, off, none⟩) n c) B := by
  intro a m d e
  injection e with e1
  injection e1 with e1
  subst e1
  exact ⟨h, rfl⟩
theorem low_none {n c B : Nat} : Low (.slice none n c) B := by
  intro a m d e
  cases e
/-- the reader lies in block B, in a state -/
def RDs (w : World) (B : Nat) (s : RS) : Prop := ∃ v, Blk w B 96 [v, .bool s.2] ∧ IsB w v s.1 ∧ Low v B
theorem RDs.lt {w : World} {B : Nat} {s : RS} (h : RDs w B s) : B < w.heap.size := by
  obtain ⟨v, h1, _⟩ := h
  exact h1.lt
theorem RDs.byt {w : World} {B : Nat} {s : RS} (h : RDs w B s) : Byt s.1 := by
  obtain ⟨v, _, h2, _⟩ := h
  exact h2.1
theorem RDs.below {w w' : World} {B : Nat} {s : RS} (h : RDs w B s) (hb : Below w.heap.size w w') : RDs w' B s := by
  obtain ⟨v, h1, h2, h3⟩ := h
  exact ⟨v, h1.keep hb, h2.below hb, h3⟩
theorem RDs.alloc {w : World} {B : Nat} {s : RS} (h : RDs w B s) (o : Obj) : RDs (w.alloc o) B s := h.below ((Below.refl _ _).alloc (Nat.le_refl _) o)
theorem RDs.setO {w : World} {B : Nat} {s : RS} (h : RDs w B s) {p : Addr} (hp : B < p.block) (u : Value) : RDs (w.setCell p u) B s := by
  obtain ⟨v, h1, h2, h3⟩ := h
  exact ⟨v, h1.other (by omega) u, h2.setO (fun b off n c e => by have := (h3 _ _ _ e).1; simp only at this; omega) u, h3⟩
/-- it is broken -/
theorem RDs.broke {w : World} {B : Nat} {l : List Nat} {b : Bool} (h : RDs w B (l, b)) : RDs (w.setCell ⟨B, 1, none⟩ (.bool true)) B (l, true) := by
  obtain ⟨v, h1, h2, h3⟩ := h
  refine ⟨v, h1.set (j := 1) (.bool true), h2.setO (p := ⟨B, 1, none⟩) (fun b off n c e => by have := (h3 _ _ _ e).1; simp only at this; show b ≠ B; omega) _, h3⟩
/-- it goes on -/
theorem RDs.moved {w : World} {B : Nat} {br : Bool} {v : Value} (h1 : Blk w B 96 [v, .bool br]) {u : Value} {r : List Nat} (h2 : IsB w u r) (h3 : Low u B) : RDs (w.setCell ⟨B, 0, none⟩ u) B (r, br) :=
  ⟨u, h1.set (j := 0) u, h2.setO (p := ⟨B, 0, none⟩) (fun b off n c e => by have := (h3 _ _ _ e).1; simp only at this; show b ≠ B; omega) _, h3⟩
set_option maxRecDepth 100000 in
set_option maxHeartbeats 400000 in
theorem number_is' (B m : Nat) (s : RS) (w : World) (hR : RDs w B s) :
    Calls Try.prog 65 #[.pointer (some ⟨B, 0, none⟩), .int .u64 (m : Int)] w fun e w' => e = .returned (.int .u64 ((rNum m s).1 : Int)) ∧ RDs w' B (rNum m s).2 ∧ KeepO B w w' := by
  have HR := hd hR
  obtain ⟨l, br⟩ := s
  obtain ⟨v, h1, h2, h3⟩ := hR
  obtain ⟨a, c, rfl⟩ := h2.shape
  have hc0 := h1.cell 0 _ rfl
  have hc1 := h1.cell 1 _ rfl
  have hf0 := h1.frozen 0
  have hf1 := h1.frozen 1
  have HC := hd (decode_is _ l w h2)
  have H1 := hd h1
  have H2 := hd h2
  have H3 := hd h3
  have hby := h2.1
  simp only at *
  clear h1 h2 h3
  obtain ⟨n, k, er, hdd⟩ : ∃ n k er, dec l = (n, k, er) := ⟨_, _, _, rfl⟩
  rw [hdd] at HC
  unfold ans at HC
  by_cases he : er = 0
  · subst he
    obtain ⟨d1, d2, d3, d4, d5, d6⟩ := dec_ok hby hdd
    by_cases hnm : n ≤ m
    · have HN : Hid (rNum m (l, br) = (n, (l.drop k, br))) := by
        show rNum m (l, br) = _
        unfold rNum
        simp only [hdd]
        rw [if_pos ⟨trivial, hnm⟩]
      rw [HN.out]
      have hle : decide ((m : Int) < (n : Int)) = false := by rw [decide_eq_false_iff_not]; omega
      have hcap := H2.out.cap
      cases a with
      | none =>
        obtain ⟨_, _, ⟨rfl, _⟩ | ⟨b, off, c', e, _⟩⟩ := H2.out
        · simp at d4; omega
        · cases e
      | some ad =>
        obtain ⟨b, off, had⟩ : ∃ b off, ad = ⟨b, off, none⟩ := by
          obtain ⟨_, _, ⟨rfl, _⟩ | ⟨b, off, c', e, _⟩⟩ := H2.out
          · simp at d4; omega
          · injection e with e1
            injection e1 with e1
            exact ⟨b, off, e1⟩
        subst had
        have HB : Hid (b < B) := (H3.out _ _ _ rfl).1
        clear d1 d6 hdd HN hby
        by_cases hck : c = k
        · have HD := hd (H2.out.drop k d4 off (l.length - k) (c - k) (by omega) rfl rfl)
          subst hck
          go_enter Try.func65, Try.ntmps65
          go_wp2_with fail
          refine Calls.mono HC.out ?_
          rintro e w' ⟨rfl, hw'⟩
          subst hw'
          clear HC
          go_wp2_with fail
          go_ret
          refine ⟨rfl, RDs.moved H1.out ?_ (low_some HB.out), KeepO.set _ _ _ _⟩
          rw [List.drop_of_length_le hcap]
          exact isK_nil _ _ _ _ _
        · have HD := hd (H2.out.drop k d4 (off + k) (l.length - k) (c - k) (fun _ => rfl) rfl rfl)
          go_enter Try.func65, Try.ntmps65
          go_wp2_with fail
          refine Calls.mono HC.out ?_
          rintro e w' ⟨rfl, hw'⟩
          subst hw'
          clear HC
          go_wp2_with fail
          go_ret
          exact ⟨rfl, RDs.moved H1.out HD.out (low_some HB.out), KeepO.set _ _ _ _⟩
    · have HN : Hid (rNum m (l, br) = (0, (l, true))) := by
        show rNum m (l, br) = _
        unfold rNum
        simp only [hdd]
        rw [if_neg (fun q => hnm q.2)]
      rw [HN.out]
      have hle : decide ((m : Int) < (n : Int)) = true := by rw [decide_eq_true_iff]; omega
      clear d1 d6 hdd HN hby
      go_enter Try.func65, Try.ntmps65
      go_wp2_with fail
      refine Calls.mono HC.out ?_
      rintro e w' ⟨rfl, hw'⟩
      subst hw'
      clear HC
      go_wp2_with fail
      go_ret
      exact ⟨rfl, HR.out.broke, KeepO.set _ _ _ _⟩
  · have HN : Hid (rNum m (l, br) = (0, (l, true))) := by
      show rNum m (l, br) = _
      unfold rNum
      simp only [hdd]
      rw [if_neg (fun q => he q.1)]
    rw [HN.out]
    have hle : (((er : Nat) : Int) != 0) = true := by simp; omega
    clear hdd HN hby
    go_enter Try.func65, Try.ntmps65
    go_wp2_with fail
    refine Calls.mono HC.out ?_
    rintro e w' ⟨rfl, hw'⟩
    subst hw'
    clear HC
    go_wp2_with fail
    go_ret
    exact ⟨rfl, HR.out.broke, KeepO.set _ _ _ _⟩
set_option maxRecDepth 100000 in
set_option maxHeartbeats 400000 in
theorem kind_is' (B : Nat) (s : RS) (w : World) (hR : RDs w B s) :
    Calls Try.prog 64 #[.pointer (some ⟨B, 0, none⟩)] w fun e w' => e = .returned (.int .i64 ((rKind s).1 : Int)) ∧ RDs w' B (rKind s).2 ∧ KeepO B w w' := by
  have HR := hd hR
  obtain ⟨l, br⟩ := s
  obtain ⟨v, h1, h2, h3⟩ := hR
  obtain ⟨a, c, rfl⟩ := h2.shape
  have hc0 := h1.cell 0 _ rfl
  have hc1 := h1.cell 1 _ rfl
  have hf0 := h1.frozen 0
  have hf1 := h1.frozen 1
  have H1 := hd h1
  have H2 := hd h2
  have H3 := hd h3
  simp only at *
  clear h1 h2 h3
  by_cases h0 : l = []
  · subst h0
    have HN : Hid (rKind (([] : List Nat), br) = (0, (([] : List Nat), true))) := by
      show rKind (([] : List Nat), br) = _
      unfold rKind
      rw [if_pos rfl]
    rw [HN.out]
    simp only [List.length_nil] at hc0
    go_enter Try.func64, Try.ntmps64
    go_wp2_with fail
    go_ret
    exact ⟨rfl, HR.out.broke, KeepO.set _ _ _ _⟩
  · have HN : Hid (rKind (l, br) = (l.getD 0 0, (l.drop 1, br))) := by
      show rKind (l, br) = _
      unfold rKind
      rw [if_neg h0]
    rw [HN.out]
    have hpos : 1 ≤ l.length := by
      rcases Nat.eq_zero_or_pos l.length with h | h
      · exact absurd (List.length_eq_zero_iff.1 h) h0
      · exact h
    have hcap := H2.out.cap
    cases a with
    | none =>
      obtain ⟨_, _, ⟨rfl, _⟩ | ⟨b, off, c', e, _⟩⟩ := H2.out
      · simp at hpos
      · cases e
    | some ad =>
      obtain ⟨b, off, had⟩ : ∃ b off, ad = ⟨b, off, none⟩ := by
        obtain ⟨_, _, ⟨rfl, _⟩ | ⟨b, off, c', e, _⟩⟩ := H2.out
        · simp at hpos
        · injection e with e1
          injection e1 with e1
          exact ⟨b, off, e1⟩
      subst had
      have HB : Hid (b < B) := (H3.out _ _ _ rfl).1
      have hx := H2.out.row 0 (by omega)
      have hxb := getD_lt H2.out.1 0
      rw [Nat.add_zero] at hx
      generalize l.getD 0 0 = x at *
      clear HN h0
      by_cases hck : c = 1
      · subst hck
        have HLE := hd hcap
        go_enter Try.func64, Try.ntmps64
        go_wp2_with fail
        go_ret
        refine ⟨rfl, RDs.moved H1.out ?_ (low_some HB.out), KeepO.set _ _ _ _⟩
        rw [List.drop_of_length_le hcap]
        exact isK_nil _ _ _ _ _
      · have HD := hd (H2.out.drop 1 hpos (off + 1) (l.length - 1) (c - 1) (fun _ => rfl) rfl rfl)
        go_enter Try.func64, Try.ntmps64
        go_wp2_with fail
        go_ret
        exact ⟨rfl, RDs.moved H1.out HD.out (low_some HB.out), KeepO.set _ _ _ _⟩
set_option maxRecDepth 100000 in
set_option maxHeartbeats 400000 in
theorem text_is' (B n : Nat) (s : RS) (w : World) (hR : RDs w B s) (hn : n < 18446744073709551616) :
    Calls Try.prog 66 #[.pointer (some ⟨B, 0, none⟩), .int .u64 (n : Int)] w fun e w' => e = .returned (.string (rText n s).1) ∧ RDs w' B (rText n s).2 ∧ KeepO B w w' := by
  have HR := hd hR
  obtain ⟨l, br⟩ := s
  obtain ⟨v, h1, h2, h3⟩ := hR
  obtain ⟨a, c, rfl⟩ := h2.shape
  have hc0 := h1.cell 0 _ rfl
  have hc1 := h1.cell 1 _ rfl
  have hf0 := h1.frozen 0
  have hf1 := h1.frozen 1
  have hml : l.length ≤ maxLen := h2.2.1
  unfold maxLen at hml
  have H1 := hd h1
  have H2 := hd h2
  have H3 := hd h3
  simp only at *
  clear h1 h2 h3
  have hcap := H2.out.cap
  by_cases hlt : l.length < n
  · have HN : Hid (rText n (l, br) = (ByteArray.empty, (l, true))) := by
      show rText n (l, br) = _
      unfold rText
      rw [if_pos hlt]
    rw [HN.out]
    go_enter Try.func66, Try.ntmps66
    go_wp2_with fail
    go_ret
    exact ⟨rfl, HR.out.broke, KeepO.set _ _ _ _⟩
  · have HN : Hid (rText n (l, br) = (str (l.take n), (l.drop n, br))) := by
      show rText n (l, br) = _
      unfold rText
      rw [if_neg hlt]
    rw [HN.out]
    have hcv := conv_is w _ _ (H2.out.take n (by omega))
    generalize str (l.take n) = S at *
    clear HN
    cases a with
    | none =>
      obtain ⟨_, _, ⟨rfl, _⟩ | ⟨b, off, c', e, _⟩⟩ := H2.out
      · obtain rfl : n = 0 := by simp at hlt; omega
        simp only [List.length_nil] at *
        go_enter Try.func66, Try.ntmps66
        go_wp2_with fail
        go_ret
        exact ⟨rfl, RDs.moved H1.out (isK_nil _ _ _ _ _) low_none, KeepO.set _ _ _ _⟩
      · cases e
    | some ad =>
      · obtain ⟨b, off, had⟩ : ∃ b off, ad = ⟨b, off, none⟩ := by
          obtain ⟨b, off, sp⟩ := ad
          have := (H3.out _ _ _ rfl).2
          simp only at this
          subst this
          exact ⟨b, off, rfl⟩
        subst had
        have HB : Hid (b < B) := (H3.out _ _ _ rfl).1
        by_cases hck : c = n
        · subst hck
          go_enter Try.func66, Try.ntmps66
          go_wp2_with fail
          go_ret
          refine ⟨rfl, RDs.moved H1.out ?_ (low_some HB.out), KeepO.set _ _ _ _⟩
          rw [List.drop_of_length_le hcap]
          exact isK_nil _ _ _ _ _
        · have HD := hd (H2.out.drop n (by omega) (off + n) (l.length - n) (c - n) (fun _ => rfl) rfl rfl)
          go_enter Try.func66, Try.ntmps66
          go_wp2_with fail
          go_ret
          exact ⟨rfl, RDs.moved H1.out HD.out (low_some HB.out), KeepO.set _ _ _ _⟩
set_option maxRecDepth 100000 in
set_option maxHeartbeats 400000 in
theorem rest_is' (B : Nat) (s : RS) (w : World) (hR : RDs w B s) :
    Calls Try.prog 67 #[.pointer (some ⟨B, 0, none⟩)] w fun e w' => e = .returned (.string (rRest s).1) ∧ RDs w' B (rRest s).2 ∧ KeepO B w w' := by
  unfold rRest
  have hml : s.1.length ≤ maxLen := by obtain ⟨v, _, h2, _⟩ := hR; exact h2.2.1
  unfold maxLen at hml
  have HT := hd (text_is' B s.1.length s w hR (by omega))
  obtain ⟨l, br⟩ := s
  obtain ⟨v, h1, h2, h3⟩ := hR
  obtain ⟨a, c, rfl⟩ := h2.shape
  have hc0 := h1.cell 0 _ rfl
  simp only at *
  clear h1 h2 h3
  go_enter Try.func67, Try.ntmps67
  go_wp2_with fail
  refine Calls.mono HT.out ?_
  rintro e w' ⟨rfl, hr, hk⟩
  have HR' := hd hr
  have HK' := hd hk
  clear hr hk
  go_wp2_with fail
  go_ret
  exact ⟨rfl, HR'.out, HK'.out⟩
end Vt
end Go.Proofs.Ytabfgoojhangnaa
