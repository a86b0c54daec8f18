/-
  THE WALKS OF ByTable, fromBytes, moveEight, ByEight over tables that New has made: they answer what 'Crc.go' says; nothing that was there is turned.
-/
import Derived.Test.YtfnbfgkoicdiaaaW2
import Derived.Deep.QuietTactic
import Derived.BigQuiet
namespace Go.Proofs.Ytfnbfgkoicdiaaa
open Go.RowKit

theorem Tab.one {w : World} {B : Nat} (h : Tab w B) : w.cell? ⟨B, 1, none⟩ = some (.int .u32 ((Crc.tb 0 1 : Nat) : Int)) := by
  have := h 0 1 (by omega) (by omega)
  simpa using this
theorem bx8 {a b : Nat} (ha : a < 256) (hb : b < 256) : bits .xor .u8 (a : Int) (b : Int) = ((a ^^^ b : Nat) : Int) := u8_xor_nat a b ha hb
set_option maxHeartbeats 400000 in
theorem byTable_nil (B s : Nat) (a : Option Addr) (c : Nat) (w : World) (hs : s < 4294967296) (hT : Tab w B) :
    Calls Try.prog 60 #[.pointer (some ⟨B, 0, none⟩), .int .u32 (s : Int), .slice a 0 c] w fun e w' => e = .returned (.int .u32 ((Crc.go s [] : Nat) : Int)) ∧ w' = w := by
  have h1 := hT.one
  have HT : Hid (Tab w B) := hT
  clear hT
  go_enter Try.func60, Try.ntmps60
  go_wp2_with (go_at_call 58; refine (made_yes _ _ h1).mono ?_; rintro e w' ⟨rfl, rfl⟩)
  go_loop [7, 20] (fun t i => i = .int .i64 0 ∧ t = .int .u32 ((Crc.nt s : Nat) : Int)) (fun _ _ => 0)
  case atStart => exact ⟨rfl, by rw [bnot hs]⟩
  case round =>
    obtain ⟨rfl, rfl⟩ := hrel
    go_wp2
    go_ret
    exact ⟨ret_int (by rw [bnot (Crc.nt_lt s), Crc.go, Crc.fe_nil]), rfl⟩
set_option maxRecDepth 100000 in
set_option maxHeartbeats 400000 in
theorem byTable_row (B s : Nat) (b off c : Nat) (l : List Nat) (w : World) (hs : s < 4294967296) (hT : Tab w B) (hb : Crc.Byt l) (hm : l.length ≤ maxLen) (hr : Row w b off l) :
    Calls Try.prog 60 #[.pointer (some ⟨B, 0, none⟩), .int .u32 (s : Int), .slice (some ⟨b, off, none⟩) l.length c] w fun e w' => e = .returned (.int .u32 ((Crc.go s l : Nat) : Int)) ∧ w' = w := by
  unfold maxLen at hm
  have h1 := hT.one
  have HT : Hid (Tab w B) := hT
  clear hT
  go_enter Try.func60, Try.ntmps60
  go_wp2_with (go_at_call 58; refine (made_yes _ _ h1).mono ?_; rintro e w' ⟨rfl, rfl⟩)
  go_loop [7, 20] (fun t i => ∃ k : Nat, k ≤ l.length ∧ i = .int .i64 k ∧ t = .int .u32 ((Crc.fe (Crc.nt s) (l.take k) : Nat) : Int)) (fun _ i => l.length - (intOf i).toNat)
  case atStart => exact ⟨0, Nat.zero_le _, rfl, by rw [bnot hs, List.take_zero, Crc.fe_nil]⟩
  case round =>
    obtain ⟨k, hk, rfl, rfl⟩ := hrel
    have hst := Crc.fe_lt (Crc.nt_lt s) (byt_take hb k)
    by_cases hlt : k < l.length
    · have hc := hr k hlt
      have hx := getD_lt hb k
      have HT2 : Hid (l.take (k + 1) = l.take k ++ [l.getD k 0]) := take_succ_getD hlt
      generalize l.getD k 0 = x at hc hx HT2
      generalize hS : Crc.fe (Crc.nt s) (l.take k) = S at hst
      have HS : Hid (Crc.fe (Crc.nt s) (l.take k) = S) := hS
      clear hS
      have hj : S % 256 ^^^ x < 256 := Crc.xor_lt8 (by omega) hx
      have ej := bx8 (a := S % 256) (b := x) (by omega) hx
      have hcj := HT.out 0 _ (by omega) hj
      have htl := Crc.tb_lt 0 hj
      have HE : Hid (Crc.mvN 8 (S ^^^ x) = Crc.tb 0 (S % 256 ^^^ x) ^^^ S / 256) := Crc.step_tb S x
      have ec : ((S % 256 : Nat) : Int) = (S : Int) % 256 := by omega
      rw [ec] at ej
      rw [Nat.zero_mul, Nat.zero_add] at hcj
      clear ec
      generalize S % 256 ^^^ x = j at *
      generalize Crc.tb 0 j = t at *
      go_wp2
      go_round
      case rel => exact ⟨k + 1, by omega, by go_num, by rw [HT2.out, fe_snoc, HS.out, HE.out, ← bxor htl (by omega)]; rfl⟩
      case measure => simp [intOf]; omega
    · have e : k = l.length := by omega
      subst e
      rw [List.take_length] at hst
      go_wp2
      go_ret
      exact ⟨ret_int (by rw [bnot hst, Crc.go]), rfl⟩
theorem byTable_is (B s : Nat) (v : Value) (l : List Nat) (w : World) (hs : s < 4294967296) (hT : Tab w B) (h : IsB w v l) :
    Calls Try.prog 60 #[.pointer (some ⟨B, 0, none⟩), .int .u32 (s : Int), v] w fun e w' => e = .returned (.int .u32 ((Crc.go s l : Nat) : Int)) ∧ w' = w := by
  obtain ⟨hb, hm, ⟨rfl, a, c, rfl⟩ | ⟨b, off, c, rfl, _, _, _, hr⟩⟩ := h
  · exact byTable_nil B s a c w hs hT
  · exact byTable_row B s b off c l w hs hT hb hm hr
end Go.Proofs.Ytfnbfgkoicdiaaa
