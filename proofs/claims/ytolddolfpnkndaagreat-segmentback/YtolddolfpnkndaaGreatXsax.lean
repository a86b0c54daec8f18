/-
  THE WALKS OF THE SMALL FUNCTIONS of package crc: each call answers what the plain function of the text Math says, and leaves the world as it was.
  THE WALKS OF Bitwise, made, ByTable, of a slice of bytes in whatever memory: they answer what the plain function 'Crc.go' says, and leave the world as it was.
-/
import Derived.Test.YtolddolfpnkndaaGreatRows
import Derived.Test.YtolddolfpnkndaaGreatXsaw
import Derived.WalkKit
import Derived.WalkSpells
import Derived.WalkLawsBesides
import Derived.Laws.BitsAllLaws
namespace Go.Proofs.YtolddolfpnkndaaGreat
open Go.RowKit

theorem ret_int {k : IntKind} {a b : Int} (h : a = b) : Ending.returned (.int k a) = .returned (.int k b) := by rw [h]
theorem bxor {a b : Nat} (ha : a < 4294967296) (hb : b < 4294967296) : bits .xor .u32 (a : Int) (b : Int) = ((a ^^^ b : Nat) : Int) := u32_xor_nat a b ha hb
theorem band1 {n : Nat} (h : n < 4294967296) : bits .and .u32 (n : Int) 1 = ((n % 2 : Nat) : Int) := by
  have := u32_and_nat n 1 h (by omega)
  rw [show ((1 : Nat) : Int) = 1 from rfl] at this
  rw [this, Nat.and_one_is_mod]
theorem mv_odd {n : Nat} (h : n < 4294967296) (h1 : (bits .and .u32 (n : Int) 1 == 1) = true) : bits .xor .u32 ((n : Int) / 2) 2197175160 = ((Crc.mv n : Nat) : Int) := by
  rw [band1 h] at h1
  have e : n % 2 = 1 := by simp at h1; omega
  unfold Crc.mv
  rw [if_pos e, ← bxor (by omega) (by omega)]; rfl
theorem mv_even {n : Nat} (h : n < 4294967296) (h1 : (bits .and .u32 (n : Int) 1 == 1) = false) : ((n : Int) / 2) = ((Crc.mv n : Nat) : Int) := by
  rw [band1 h] at h1
  have e : ¬ n % 2 = 1 := by simp at h1; omega
  unfold Crc.mv
  rw [if_neg e]; rfl
set_option maxHeartbeats 400000 in
theorem moveBit_any (n : Nat) (w : World) (h : n < 4294967296) :
    Calls Tryz.prog 116 #[.int .u32 (n : Int)] w fun e w' => e = .returned (.int .u32 ((Crc.mv n : Nat) : Int)) ∧ w' = w := by
  go_enter Tryz.func116, Tryz.ntmps116
  go_wp2
  all_goals go_ret
  · exact ⟨ret_int (mv_odd h (by assumption)), rfl⟩
  · exact ⟨ret_int (mv_even h (by assumption)), rfl⟩
set_option maxHeartbeats 400000 in
theorem moveByte_any (n : Nat) (w : World) (h : n < 4294967296) :
    Calls Tryz.prog 94 #[.int .u32 (n : Int)] w fun e w' => e = .returned (.int .u32 ((Crc.mvN 8 n : Nat) : Int)) ∧ w' = w := by
  go_enter Tryz.func94, Tryz.ntmps94
  go_wp2
  go_loop [0, 3] (fun t i => ∃ k : Nat, k ≤ 8 ∧ i = .int .i64 k ∧ t = .int .u32 ((Crc.mvN k n : Nat) : Int)) (fun _ i => 8 - (intOf i).toNat)
  case atStart => exact ⟨0, Nat.zero_le _, rfl, rfl⟩
  case round =>
    obtain ⟨k, hk, rfl, rfl⟩ := hrel
    by_cases hlt : k < 8
    · go_wp2_with (go_at_call 116; refine (moveBit_any _ _ (Crc.mvN_lt k h)).mono ?_; rintro e w' ⟨rfl, rfl⟩)
      go_round
      case rel => exact ⟨k + 1, by omega, by go_num, by rw [Crc.mvN_succ']⟩
      case measure => simp [intOf]; omega
    · obtain rfl : k = 8 := by omega
      go_wp2
      go_ret
      exact ⟨rfl, rfl⟩
end Go.Proofs.YtolddolfpnkndaaGreat
namespace Go.Proofs.YtolddolfpnkndaaGreat
open Go.RowKit

/-- A row of bytes in memory. -/
def Row (w : World) (b off : Nat) (l : List Nat) : Prop := ∀ k, k < l.length → w.cell? ⟨b, off + k, none⟩ = some (.int .u8 ((l.getD k 0 : Nat) : Int))
/-- A slice value that reads as the bytes l. -/
def IsB (w : World) (v : Value) (l : List Nat) : Prop :=
  Crc.Byt l ∧ l.length ≤ maxLen ∧ ((l = [] ∧ ∃ a c, v = .slice a 0 c) ∨ ∃ b off c, v = .slice (some ⟨b, off, none⟩) l.length c ∧ l.length ≤ c ∧ c ≤ maxLen ∧ b < w.heap.size ∧ Row w b off l)

theorem u8_u32 (n : Nat) (h : n < 256) : IntKind.u32.wrap (n : Int) = (n : Int) := by rw [IntKind.wrap_u32']; omega
theorem getD_lt {l : List Nat} (h : Crc.Byt l) (k : Nat) : l.getD k 0 < 256 := by
  rw [List.getD_eq_getElem?_getD]
  cases e : l[k]? with
  | none => simp
  | some x => exact h x (List.mem_of_getElem? e)
theorem take_succ_getD {l : List Nat} {k : Nat} (h : k < l.length) : l.take (k + 1) = l.take k ++ [l.getD k 0] := by
  rw [List.take_succ_eq_append_getElem h, List.getD_eq_getElem?_getD, List.getElem?_eq_getElem h]; rfl
theorem byt_take {l : List Nat} (h : Crc.Byt l) (k : Nat) : Crc.Byt (l.take k) := fun x hx => h x (List.mem_of_mem_take hx)
theorem byt_drop {l : List Nat} (h : Crc.Byt l) (k : Nat) : Crc.Byt (l.drop k) := fun x hx => h x (List.mem_of_mem_drop hx)
theorem fe_snoc (s : Nat) (l : List Nat) (b : Nat) : Crc.fe s (l ++ [b]) = Crc.mvN 8 (Crc.fe s l ^^^ b) := by rw [Crc.fe_append, Crc.fe_cons, Crc.fe_nil]

theorem bnot {n : Nat} (h : n < 4294967296) : bits .xor .u32 IntKind.u32.max (n : Int) = ((Crc.nt n : Nat) : Int) := by
  have e : IntKind.u32.max = ((4294967295 : Nat) : Int) := by simp [IntKind.max, IntKind.bits, IntKind.signed]
  rw [e, bxor (by omega) h, Crc.nt_xor h, Nat.xor_comm]

set_option maxHeartbeats 400000 in
theorem bitwise_nil (s : Nat) (a : Option Addr) (c : Nat) (w : World) (hs : s < 4294967296) :
    Calls Tryz.prog 70 #[.int .u32 (s : Int), .slice a 0 c] w fun e w' => e = .returned (.int .u32 ((Crc.go s [] : Nat) : Int)) ∧ w' = w := by
  go_enter Tryz.func70, Tryz.ntmps70
  go_wp2
  go_loop [5, 12] (fun t i => i = .int .i64 0 ∧ t = .int .u32 ((Crc.nt s : Nat) : Int)) (fun _ _ => 0)
  case atStart => exact ⟨rfl, by rw [bnot hs]⟩
  case round =>
    obtain ⟨rfl, rfl⟩ := hrel
    go_wp2
    go_ret
    exact ⟨ret_int (by rw [bnot (Crc.nt_lt s), Crc.go, Crc.fe_nil]), rfl⟩
set_option maxHeartbeats 400000 in
theorem bitwise_row (s : Nat) (b off c : Nat) (l : List Nat) (w : World) (hs : s < 4294967296) (hb : Crc.Byt l) (hm : l.length ≤ maxLen) (hr : Row w b off l) :
    Calls Tryz.prog 70 #[.int .u32 (s : Int), .slice (some ⟨b, off, none⟩) l.length c] w fun e w' => e = .returned (.int .u32 ((Crc.go s l : Nat) : Int)) ∧ w' = w := by
  unfold maxLen at hm
  go_enter Tryz.func70, Tryz.ntmps70
  go_wp2
  go_loop [5, 12] (fun t i => ∃ k : Nat, k ≤ l.length ∧ i = .int .i64 k ∧ t = .int .u32 ((Crc.fe (Crc.nt s) (l.take k) : Nat) : Int)) (fun _ i => l.length - (intOf i).toNat)
  case atStart => exact ⟨0, Nat.zero_le _, rfl, by rw [bnot hs, List.take_zero, Crc.fe_nil]⟩
  case round =>
    obtain ⟨k, hk, rfl, rfl⟩ := hrel
    have hst := Crc.fe_lt (Crc.nt_lt s) (byt_take hb k)
    by_cases hlt : k < l.length
    · have hc := hr k hlt
      have hx := getD_lt hb k
      have HT : Hid (l.take (k + 1) = l.take k ++ [l.getD k 0]) := take_succ_getD hlt
      generalize l.getD k 0 = x at hc hx HT
      go_wp2_with fail
      rw [bxor hst (by omega)]
      refine (moveByte_any _ _ (Crc.xor_lt hst (by omega))).mono ?_
      rintro e w' ⟨rfl, rfl⟩
      go_wp2
      go_round
      case rel => exact ⟨k + 1, by omega, by go_num, by rw [HT.out, fe_snoc]⟩
      case measure => simp [intOf]; omega
    · have e : k = l.length := by omega
      subst e
      go_wp2
      go_ret
      rw [List.take_length] at hst
      exact ⟨ret_int (by rw [bnot hst, Crc.go]), rfl⟩
theorem bitwise_is (s : Nat) (v : Value) (l : List Nat) (w : World) (hs : s < 4294967296) (h : IsB w v l) :
    Calls Tryz.prog 70 #[.int .u32 (s : Int), v] w fun e w' => e = .returned (.int .u32 ((Crc.go s l : Nat) : Int)) ∧ w' = w := by
  obtain ⟨hb, hm, ⟨rfl, a, c, rfl⟩ | ⟨b, off, c, rfl, _, _, _, hr⟩⟩ := h
  · exact bitwise_nil s a c w hs
  · exact bitwise_row s b off c l w hs hb hm hr

/-- The tables in memory. -/
def Tab (w : World) (B : Nat) : Prop := ∀ k b, k < 8 → b < 256 → w.cell? ⟨B, k * 256 + b, none⟩ = some (.int .u32 ((Crc.tb k b : Nat) : Int))
set_option maxHeartbeats 400000 in
theorem made_yes (B : Nat) (w : World) (h : w.cell? ⟨B, 1, none⟩ = some (.int .u32 ((Crc.tb 0 1 : Nat) : Int))) :
    Calls Tryz.prog 95 #[.pointer (some ⟨B, 0, none⟩)] w fun e w' => e = .returned (.bool true) ∧ w' = w := by
  have hn : (((Crc.tb 0 1 : Nat) : Int) != 0) = true := by
    have := Crc.tb01
    simp; omega
  generalize Crc.tb 0 1 = t at *
  go_enter Tryz.func95, Tryz.ntmps95
  go_wp2
  go_ret
  exact ⟨rfl, rfl⟩
end Go.Proofs.YtolddolfpnkndaaGreat
