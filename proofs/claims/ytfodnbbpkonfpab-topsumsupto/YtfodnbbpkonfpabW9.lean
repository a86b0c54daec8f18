/-
  THE WALK OF Forge: it lays one new block, the four bytes.
-/
import Derived.Test.YtfodnbbpkonfpabW8
namespace Go.Proofs.Ytfodnbbpkonfpab
open Go.RowKit
/-- The cells of a list of bytes. -/
def cs (l : List Nat) : Array Value := (l.map fun x => Value.int .u8 ((x : Nat) : Int)).toArray
set_option maxRecDepth 100000 in
set_option maxHeartbeats 400000 in
theorem forge_any (s t : Nat) (w : World) (hs : s < 4294967296) (ht : t < 4294967296) :
    Calls Try.prog 14 #[.int .u32 (s : Int), .int .u32 (t : Int)] w fun e w' => e = .returned (.slice (some ⟨w.heap.size, 0, none⟩) 4 4) ∧ w' = w.alloc (.cells (cs (Crc.by4 (Crc.fg s t))) 5) := by
  go_enter Try.func14, Try.ntmps14
  go_wp2
  go_loop [5, 9] (fun x i => ∃ k : Nat, k ≤ 32 ∧ i = .int .i64 k ∧ x = .int .u32 ((Crc.bkN k (Crc.nt t) : Nat) : Int)) (fun _ i => 32 - (intOf i).toNat)
  case atStart => exact ⟨0, Nat.zero_le _, rfl, by rw [bnot ht]; rfl⟩
  case round =>
    obtain ⟨k, hk, rfl, rfl⟩ := hrel
    by_cases hlt : k < 32
    · go_wp2_with (go_at_call 25; refine (moveBack_any _ _ (Crc.bkN_lt k (Crc.nt_lt t))).mono ?_; rintro e w' ⟨rfl, rfl⟩)
      go_round
      case rel => exact ⟨k + 1, by omega, by go_num, by rw [Crc.bkN_succ']⟩
      case measure => simp [intOf]; omega
    · obtain rfl : k = 32 := by omega
      have l1 := Crc.bkN_lt 32 (Crc.nt_lt t)
      have l2 := Crc.fg_lt s t
      have e1 := bnot hs
      have e2 : bits .xor .u32 ((Crc.bkN 32 (Crc.nt t) : Nat) : Int) ((Crc.nt s : Nat) : Int) = ((Crc.fg s t : Nat) : Int) := bxor l1 (Crc.nt_lt s)
      obtain ⟨f, hf⟩ : ∃ f, Crc.fg s t = f := ⟨_, rfl⟩
      have HC : Hid (cs (Crc.by4 (Crc.fg s t)) = #[.int .u8 ((f : Int) % 256), .int .u8 ((f : Int) / 256 % 256), .int .u8 ((f : Int) / 65536 % 256), .int .u8 ((f : Int) / 16777216)]) := by
        show cs (Crc.by4 (Crc.fg s t)) = _
        rw [hf] at l2 ⊢
        have e3 : ((f / 16777216 % 256 : Nat) : Int) = (f : Int) / 16777216 := by omega
        simp only [cs, Crc.by4, List.map, e3]; rfl
      rw [hf] at l2 e2
      clear hf
      generalize Crc.bkN 32 (Crc.nt t) = g at *
      generalize Crc.nt s = h at *
      go_wp2
      go_ret
      exact ⟨rfl, by rw [HC.out]⟩
end Go.Proofs.Ytfodnbbpkonfpab
