/-
  THE WALKS OF the law's turned, by its block; of the book's wrap.
-/
import Derived.Test.YtipopjhmjdnnlaaBk5
namespace Go.Proofs.Ytipopjhmjdnnlaa
open Go.RowKit
namespace Ow
open Vt
/-- but for one block all is as it was -/
structure Onl (g : Nat) (w w' : World) : Prop where
  os : w'.os = w.os
  tape : w'.tape = w.tape
  output : w'.output = w.output
  size : w'.heap.size = w.heap.size
  block : ∀ b, b ≠ g → w'.heap[b]? = w.heap[b]?
theorem Onl.refl (g : Nat) (w : World) : Onl g w w := ⟨rfl, rfl, rfl, rfl, fun _ _ => rfl⟩
theorem Onl.set {g : Nat} {w w' : World} (h : Onl g w w') (j : Nat) (u : Value) : Onl g w (w'.setCell ⟨g, j, none⟩ u) :=
  ⟨h.os, h.tape, h.output, (size_set _ _ _ _).trans h.size, fun b hb => (heap_set _ _ _ _ _ hb).trans (h.block b hb)⟩
theorem Onl.below {g base : Nat} {w w' : World} (h : Onl g w w') (hb : base ≤ g) : Below base w w' := ⟨h.os, h.tape, h.output, Nat.le_of_eq h.size.symm, fun b hb' => h.block b (by omega)⟩
/-- a list that was made, of its full length -/
structure Mad (w : World) (g : Nat) (F : List Nat) : Prop where
  byt : Byt F
  len : F.length ≤ maxLen
  blk : Blk w g E8 (bs F)
theorem Mad.jb {w : World} {g : Nat} {F : List Nat} (h : Mad w g F) : JB w 0 (.slice (some ⟨g, 0, none⟩) F.length F.length) F := jb_block h.byt rfl h.len (Nat.zero_le _) h.blk
theorem Mad.buf {w : World} {g : Nat} {F : List Nat} (h : Mad w g F) : Buf w g F.length F := h.jb.buf
theorem Mad.set {w : World} {g j y : Nat} {F : List Nat} (h : Mad w g F) (hy : y < 256) : Mad (w.setCell ⟨g, j, none⟩ (.int .u8 (y : Int))) g (F.set j y) := by
  refine ⟨?_, by rw [List.length_set]; exact h.len, ?_⟩
  · intro x hx
    rcases List.mem_or_eq_of_mem_set hx with hx | rfl
    · exact h.byt x hx
    · exact hy
  · have := h.blk.set (j := j) (.int .u8 (y : Int))
    have e : bs (F.set j y) = (bs F).set j (.int .u8 (y : Int)) := by unfold bs; rw [List.map_set]
    rw [e]; exact this
theorem Mad.same {w w' : World} {g : Nat} {F : List Nat} (h : Mad w g F) (hb : w'.heap[g]? = w.heap[g]?) : Mad w' g F := ⟨h.byt, h.len, hb.trans h.blk⟩
set_option maxRecDepth 100000 in
set_option maxHeartbeats 1000000 in
theorem turnedB_is (g m : Nat) (F : List Nat) (w : World) (hG : Mad w g F) (hm : m ≤ F.length) :
    Calls Try.prog 15 #[.slice (some ⟨g, 0, none⟩) m F.length] w fun e w' => (∃ v, e = .returned v) ∧ ∃ F', F'.length = F.length ∧ Mad w' g F' ∧ Onl g w w' := by
  have HG := hd hG
  have hcm : F.length ≤ 9223372036854775807 := by have := hG.len; unfold maxLen at this; omega
  clear hG
  go_enter Try.func15, Try.ntmps15
  go_wp2_with fail
  go_loopw [2] (fun i wr => ∃ k : Nat, k ≤ m ∧ i = .int .i64 (k : Int) ∧ ∃ F', F'.length = F.length ∧ Mad wr g F' ∧ Onl g w wr) (fun i _ => m - (intOf i).toNat)
  case atStart => exact ⟨0, by omega, rfl, F, rfl, HG.out, Onl.refl _ _⟩
  case round =>
    obtain ⟨k, hk, rfl, F', hF, hB', hB⟩ := hrel
    have HF := hd hB'
    have HB := hd hB
    have HFL := hd hF
    clear hB' hB HG
    by_cases hlt : k < m
    · have hkF : k < F'.length := by omega
      have hcell := HF.out.buf.cell (j := k) hkF
      have hfro := HF.out.buf.2.2.2.2.2 k hkF
      have hp := getD_lt HF.out.byt k
      obtain ⟨y, hy⟩ : ∃ y, y = 1 + k % 2 := ⟨_, rfl⟩
      have hy2 : y < 256 := by omega
      have HS := hd (HF.out.set (j := k) (y := F'.getD k 0 ^^^ y) (Nat.xor_lt_two_pow (n := 8) hp hy2))
      have HX := hd (u8_xor_nat (F'.getD k 0) y hp hy2)
      generalize F'.getD k 0 = p at *
      have HY := hd hy
      clear hy hF
      go_wp2_with fail
      rw [show (1 : Int) + (k : Int) % 2 = (y : Int) by rw [HY.out]; omega, HX.out]
      go_roundw
      case rel => exact ⟨k + 1, by omega, by go_num, _, by rw [List.length_set]; exact HFL.out, HS.out, HB.out.set _ _⟩
      case measure => simp [intOf]; omega
    · obtain rfl : k = m := by omega
      clear hF
      go_wp2_with fail
      go_end0
      exact ⟨⟨_, rfl⟩, F', HFL.out, HF.out, HB.out⟩
end Ow
end Go.Proofs.Ytipopjhmjdnnlaa
