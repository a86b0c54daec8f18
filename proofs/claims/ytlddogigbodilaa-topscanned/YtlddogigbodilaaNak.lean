/-
  bits.Len64 at this program: the library's contract, laid at this program's numbers; and the small arithmetic of 64 bits that the walks of package vint want.
  THE WALKS OF the law's 'same' (are two lists of bytes the same?) and of vint's 'ended', 'Size'.
-/
import Derived.Test.YtlddogigbodilaaNaa
import Derived.Shelf.Strconv.Itoa0
import Derived.Test.YtlddogigbodilaaNab
import Derived.Deep.QuietTactic
import Derived.BigQuiet
import Derived.Deep.RegionWith
import Derived.OwnWalk
namespace Go.Proofs.Ytlddogigbodilaa
namespace Vt
def lenRen : Go.Shelf.Ren := ⟨fun | 129 => 102 | n => n, fun | 53 => 30 | 3 => 3 | 4 => 4 | 46 => 144 | 5 => 5 | 9 => 9 | n => n, fun | n => n⟩
theorem lenLays : Go.Proofs.Lays.n129 Try.prog lenRen := {
  mixed := by kernel_rfl
  f129 := Try.func102.trans (congrArg some (by kernel_rfl))
  t3 := Try.underlying3
  a3 := Try.isAgg3
  z3 := Try.sizeOf3
  v3 := Try.zeroValue3
  t4 := Try.underlying4
  a4 := Try.isAgg4
  z4 := Try.sizeOf4
  v4 := Try.zeroValue4
  t5 := Try.underlying5
  a5 := Try.isAgg5
  z5 := Try.sizeOf5
  v5 := Try.zeroValue5
  t9 := Try.underlying9
  a9 := Try.isAgg9
  z9 := Try.sizeOf9
  v9 := Try.zeroValue9
  t46 := Try.underlying144
  a46 := Try.isAgg144
  z46 := Try.sizeOf144
  v46 := Try.zeroValue144
  t53 := Try.underlying30
  a53 := Try.isAgg30
  z53 := Try.sizeOf30
  v53 := Try.zeroValue30 }
theorem len64_is (x : Nat) (w : World) (h : x < 18446744073709551616) :
    Calls Try.prog 102 #[.int .u64 (x : Int)] w fun e w' => e = .returned (.int .i64 ((Lib.bitLen x : Nat) : Int)) ∧ w' = w := Any.bits_Len64 lenLays (x : Int) w (by omega) (by omega)
end Vt
end Go.Proofs.Ytlddogigbodilaa
namespace Go.Proofs.Ytlddogigbodilaa
open Go.RowKit
namespace Vt
set_option maxHeartbeats 400000 in
theorem ended_is (n k c : Nat) (w : World) (hk : k ≤ 10) (hc : c < 256) :
    Calls Try.prog 127 #[.int .u64 (n : Int), .int .i64 (k : Int), .int .u8 (c : Int)] w fun e w' => e = .returned (.tuple (if k = 10 ∧ 1 < c then #[.int .u64 0, .int .i64 0, .int .i64 22] else if 1 < k ∧ c = 0 then #[.int .u64 0, .int .i64 0, .int .i64 23] else #[.int .u64 (n : Int), .int .i64 (k : Int), .int .i64 0])) ∧ w' = w := by
  by_cases h1 : k = 10
  · subst h1
    by_cases h2 : 1 < c
    · rw [if_pos ⟨rfl, h2⟩]
      go_enter Try.func127, Try.ntmps127
      go_wp2
      go_ret3
      exact ⟨rfl, rfl⟩
    · rw [if_neg (by omega)]
      by_cases h3 : c = 0
      · subst h3
        rw [if_pos (by omega)]
        go_enter Try.func127, Try.ntmps127
        go_wp2
        go_ret3
        exact ⟨rfl, rfl⟩
      · obtain rfl : c = 1 := by omega
        rw [if_neg (by omega)]
        go_enter Try.func127, Try.ntmps127
        go_wp2
        go_ret3
        exact ⟨rfl, rfl⟩
  · rw [if_neg (by omega)]
    by_cases h2 : 1 < k
    · by_cases h3 : c = 0
      · subst h3
        rw [if_pos (by omega)]
        go_enter Try.func127, Try.ntmps127
        go_wp2
        go_ret3
        exact ⟨rfl, rfl⟩
      · rw [if_neg (by omega)]
        go_enter Try.func127, Try.ntmps127
        go_wp2
        go_ret3
        exact ⟨rfl, rfl⟩
    · rw [if_neg (by omega)]
      go_enter Try.func127, Try.ntmps127
      go_wp2
      go_ret3
      exact ⟨rfl, rfl⟩
/-- the varints of all numbers, one behind the other -/
def enc (l : List Nat) : List Nat := (l.map vrt).flatten
def N64 (l : List Nat) : Prop := ∀ x ∈ l, x < 18446744073709551616
theorem enc_nil : enc [] = [] := rfl
theorem enc_cons (x : Nat) (l : List Nat) : enc (x :: l) = vrt x ++ enc l := by simp [enc]
theorem enc_append (a b : List Nat) : enc (a ++ b) = enc a ++ enc b := by simp [enc]
theorem enc_one (x : Nat) : enc [x] = vrt x := by simp [enc]
theorem enc_succ {l : List Nat} {k : Nat} (h : k < l.length) : enc (l.take (k + 1)) = enc (l.take k) ++ vrt (l.getD k 0) := by
  rw [take_succ_getD h, enc_append, enc_one]
theorem enc_byt (l : List Nat) : Byt (enc l) := by
  induction l with
  | nil => exact byt_nil
  | cons x l ih => rw [enc_cons]; exact byt_app (vrt_byt x) ih
theorem N64.at {l : List Nat} (h : N64 l) (k : Nat) : l.getD k 0 < 18446744073709551616 := by
  rw [List.getD_eq_getElem?_getD]
  cases e : l[k]? with
  | none => simp
  | some x => exact h x (List.mem_of_getElem? e)
theorem enc_len {l : List Nat} (h : N64 l) : (enc l).length ≤ 10 * l.length := by
  induction l with
  | nil => simp [enc]
  | cons x l ih =>
    rw [enc_cons, List.length_append, List.length_cons]
    have := vrt_ten (h x List.mem_cons_self)
    have := ih fun y hy => h y (List.mem_cons_of_mem _ hy)
    omega
theorem enc_len_le (l : List Nat) : l.length ≤ (enc l).length := by
  induction l with
  | nil => simp
  | cons x l ih =>
    rw [enc_cons, List.length_append, List.length_cons]
    have := vrt_len x
    omega
theorem N64.take {l : List Nat} (h : N64 l) (k : Nat) : N64 (l.take k) := fun x hx => h x (List.mem_of_mem_take hx)
theorem len64_any (z : Int) (x : Nat) (w : World) (hz : z = (x : Int)) (h : x < 18446744073709551616) :
    Calls Try.prog 102 #[.int .u64 z] w fun e w' => e = .returned (.int .i64 ((Lib.bitLen x : Nat) : Int)) ∧ w' = w := by
  subst hz; exact len64_is x w h
set_option maxRecDepth 100000 in
set_option maxHeartbeats 400000 in
theorem size_row (b off c : Nat) (l : List Nat) (w : World) (hl : N64 l) (hr : RowK .u64 w b off l) (hm : l.length ≤ 140737488355328) :
    Calls Try.prog 122 #[.slice (some ⟨b, off, none⟩) l.length c] w fun e w' => e = .returned (.int .i64 (((enc l).length : Nat) : Int)) ∧ w' = w := by
  have HR := hd hr
  have HL := hd hl
  clear hr hl
  go_enter Try.func122, Try.ntmps122
  go_wp2
  go_loop [3, 8] (fun s i => ∃ k : Nat, k ≤ l.length ∧ i = .int .i64 (k : Int) ∧ s = .int .i64 (((enc (l.take k)).length : Nat) : Int)) (fun _ i => l.length - (intOf i).toNat)
  case atStart => exact ⟨0, by omega, rfl, rfl⟩
  case round =>
    obtain ⟨k, hk, rfl, rfl⟩ := hrel
    have hb := enc_len (HL.out.take k)
    rw [List.length_take] at hb
    by_cases hlt : k < l.length
    · have hc := HR.out k hlt
      have hx := HL.out.at k
      have HE := hd (enc_succ hlt)
      have HS := hd (size_vrt hx)
      have h10 := vrt_ten hx
      have hor : l.getD k 0 ||| 1 < 18446744073709551616 := Nat.or_lt_two_pow (n := 64) hx (by decide)
      have e := u64_or_nat (l.getD k 0) 1 hx (by decide)
      have hbl := bl_le hor
      generalize l.getD k 0 = x at *
      generalize hs : (enc (l.take k)).length = s at *
      have HSS := hd hs
      clear hs
      go_wp2_with fail
      refine Calls.mono (len64_any _ (x ||| 1) w (by first | exact e | (rw [← e]; rfl)) hor) ?_
      rintro e w' ⟨rfl, rfl⟩
      go_wp2_with fail
      go_roundw
      case rel =>
        refine ⟨k + 1, by omega, by go_num, ?_⟩
        rw [HE.out, List.length_append, ← HS.out, HSS.out]
        congr 1
        omega
      case measure => simp [intOf]; omega
    · obtain rfl : k = l.length := by omega
      go_wp2
      go_ret
      exact ⟨rfl, rfl⟩
set_option maxRecDepth 100000 in
set_option maxHeartbeats 400000 in
theorem size_nil (a : Option Addr) (c : Nat) (w : World) :
    Calls Try.prog 122 #[.slice a 0 c] w fun e w' => e = .returned (.int .i64 0) ∧ w' = w := by
  go_enter Try.func122, Try.ntmps122
  go_wp2
  go_loop [3, 8] (fun s i => i = .int .i64 0 ∧ s = .int .i64 0) (fun _ _ => 0)
  case atStart => exact ⟨rfl, rfl⟩
  case round =>
    obtain ⟨rfl, rfl⟩ := hrel
    go_wp2
    go_ret
    exact ⟨rfl, rfl⟩
theorem size_is (v : Value) (l : List Nat) (w : World) (h : IsN w v l) (hm : l.length ≤ 140737488355328) :
    Calls Try.prog 122 #[v] w fun e w' => e = .returned (.int .i64 (((enc l).length : Nat) : Int)) ∧ w' = w := by
  obtain ⟨hl, _, ⟨rfl, a, c, rfl⟩ | ⟨b, off, c, rfl, _, _, _, hr⟩⟩ := h
  · exact size_nil a c w
  · exact size_row b off c l w hl hr hm
end Vt
end Go.Proofs.Ytlddogigbodilaa
