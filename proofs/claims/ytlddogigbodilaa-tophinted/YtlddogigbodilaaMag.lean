/-
  THE WALKS OF frame.pointerRefusal, endingRefusal, refusal: what 'rf' says.
  bits.Len64 at this program: the library's contract, laid at this program's numbers; and the small arithmetic of 64 bits that the walks of package vint want.
  THE WALKS OF the law's 'same' (are two lists of bytes the same?) and of vint's 'ended', 'Size'.
-/
import Derived.Test.YtlddogigbodilaaMaf
import Derived.Test.YtlddogigbodilaaMaa
import Derived.Shelf.Strconv.Itoa0
import Derived.Deep.QuietTactic
import Derived.BigQuiet
import Derived.Deep.RegionWith
import Derived.OwnWalk
namespace Go.Proofs.Ytlddogigbodilaa
open Go.RowKit
namespace Vt
def onB (n : Int) : Bool := decide (0 ≤ n) && decide (n ≤ 4194304)
theorem onB_iff (n : Int) : onB n = true ↔ onD n := by unfold onB onD; simp
theorem onDisk_is (n : Int) (w : World) : Calls Try.prog 126 #[.int .i64 n] w fun e w' => e = .returned (.bool (onB n)) ∧ w' = w := by
  by_cases h : onD n
  · rw [(onB_iff n).2 h]; exact onDisk_yes n w h
  · rw [show onB n = false by rw [← Bool.not_eq_true, onB_iff]; exact h]; exact onDisk_no n w h
set_option maxRecDepth 100000 in
set_option maxHeartbeats 2000000 in
theorem ptr_46 (rl : Nat) (rk : Int) (rkey rval : ByteArray) (pl : Nat) (pk pa pn : Int) (pkey : ByteArray) (ec eb ef : Int) (es : Nat) (w : World) (q1 : (pk != 1) = true) (q2 : (pk != 2) = true) :
    Calls Try.prog 120 #[.agg #[.int .i64 3, .int .u64 (rl : Int), .int .i64 rk, .string rkey, .string rval, .int .u64 (pl : Int), .int .i64 pk, .int .i64 pa, .int .i64 pn, .string pkey, .int .i64 ec, .int .i64 eb, .int .i64 ef, .int .u32 (es : Int)]] w fun e w' => e = .returned (.int .i64 46) ∧ Below w.heap.size w w' := by
  go_enter Try.func120, Try.ntmps120
  go_wp2_with (first | (go_at_call 126; refine Calls.mono (onDisk_is _ _) ?_; rintro e w' ⟨rfl, rfl⟩))
  go_ret
  exact ⟨rfl, below_two _ _ _⟩
set_option maxRecDepth 100000 in
set_option maxHeartbeats 2000000 in
theorem ptr_47 (rl : Nat) (rk : Int) (rkey rval : ByteArray) (pl : Nat) (pk pa pn : Int) (pkey : ByteArray) (ec eb ef : Int) (es : Nat) (w : World) (hpk : pk = 1 ∨ pk = 2) (h0 : pl = 0) :
    Calls Try.prog 120 #[.agg #[.int .i64 3, .int .u64 (rl : Int), .int .i64 rk, .string rkey, .string rval, .int .u64 (pl : Int), .int .i64 pk, .int .i64 pa, .int .i64 pn, .string pkey, .int .i64 ec, .int .i64 eb, .int .i64 ef, .int .u32 (es : Int)]] w fun e w' => e = .returned (.int .i64 47) ∧ Below w.heap.size w w' := by
  subst h0
  rcases hpk with rfl | rfl
  all_goals (
    go_enter Try.func120, Try.ntmps120
    go_wp2_with (first | (go_at_call 126; refine Calls.mono (onDisk_is _ _) ?_; rintro e w' ⟨rfl, rfl⟩))
    go_ret
    exact ⟨rfl, below_two _ _ _⟩)
set_option maxRecDepth 100000 in
set_option maxHeartbeats 2000000 in
theorem ptr_48 (rl : Nat) (rk : Int) (rkey rval : ByteArray) (pl : Nat) (pk pa pn : Int) (pkey : ByteArray) (ec eb ef : Int) (es : Nat) (w : World) (hpk : pk = 1 ∨ pk = 2) (q3 : (((pl : Nat) : Int) == 0) = false) (HK : Hid (∀ w : World, Calls Try.prog 124 #[.string pkey] w fun e w' => e = .returned (.bool false) ∧ w' = w)) :
    Calls Try.prog 120 #[.agg #[.int .i64 3, .int .u64 (rl : Int), .int .i64 rk, .string rkey, .string rval, .int .u64 (pl : Int), .int .i64 pk, .int .i64 pa, .int .i64 pn, .string pkey, .int .i64 ec, .int .i64 eb, .int .i64 ef, .int .u32 (es : Int)]] w fun e w' => e = .returned (.int .i64 48) ∧ Below w.heap.size w w' := by
  rcases hpk with rfl | rfl
  all_goals (
    go_enter Try.func120, Try.ntmps120
    go_wp2_with (first | (go_at_call 124; refine Calls.mono (HK.out _) ?_; rintro e w' ⟨rfl, rfl⟩) | (go_at_call 126; refine Calls.mono (onDisk_is _ _) ?_; rintro e w' ⟨rfl, rfl⟩))
    go_ret
    exact ⟨rfl, below_two _ _ _⟩)
set_option maxRecDepth 100000 in
set_option maxHeartbeats 2000000 in
theorem ptr_40a (rl : Nat) (rk : Int) (rkey rval : ByteArray) (pl : Nat) (pk pa pn : Int) (pkey : ByteArray) (ec eb ef : Int) (es : Nat) (w : World) (hpk : pk = 1 ∨ pk = 2) (q3 : (((pl : Nat) : Int) == 0) = false) (HK : Hid (∀ w : World, Calls Try.prog 124 #[.string pkey] w fun e w' => e = .returned (.bool true) ∧ w' = w)) (d1 : onB pa = false) :
    Calls Try.prog 120 #[.agg #[.int .i64 3, .int .u64 (rl : Int), .int .i64 rk, .string rkey, .string rval, .int .u64 (pl : Int), .int .i64 pk, .int .i64 pa, .int .i64 pn, .string pkey, .int .i64 ec, .int .i64 eb, .int .i64 ef, .int .u32 (es : Int)]] w fun e w' => e = .returned (.int .i64 40) ∧ Below w.heap.size w w' := by
  rcases hpk with rfl | rfl
  all_goals (
    go_enter Try.func120, Try.ntmps120
    go_wp2_with (first | (go_at_call 124; refine Calls.mono (HK.out _) ?_; rintro e w' ⟨rfl, rfl⟩) | (go_at_call 126; refine Calls.mono (onDisk_is _ _) ?_; rintro e w' ⟨rfl, rfl⟩))
    go_ret
    exact ⟨rfl, below_two _ _ _⟩)
set_option maxRecDepth 100000 in
set_option maxHeartbeats 2000000 in
theorem ptr_40b (rl : Nat) (rk : Int) (rkey rval : ByteArray) (pl : Nat) (pk pa pn : Int) (pkey : ByteArray) (ec eb ef : Int) (es : Nat) (w : World) (hpk : pk = 1 ∨ pk = 2) (q3 : (((pl : Nat) : Int) == 0) = false) (HK : Hid (∀ w : World, Calls Try.prog 124 #[.string pkey] w fun e w' => e = .returned (.bool true) ∧ w' = w)) (d1 : onB pa = true) (d2 : onB pn = false) :
    Calls Try.prog 120 #[.agg #[.int .i64 3, .int .u64 (rl : Int), .int .i64 rk, .string rkey, .string rval, .int .u64 (pl : Int), .int .i64 pk, .int .i64 pa, .int .i64 pn, .string pkey, .int .i64 ec, .int .i64 eb, .int .i64 ef, .int .u32 (es : Int)]] w fun e w' => e = .returned (.int .i64 40) ∧ Below w.heap.size w w' := by
  rcases hpk with rfl | rfl
  all_goals (
    go_enter Try.func120, Try.ntmps120
    go_wp2_with (first | (go_at_call 124; refine Calls.mono (HK.out _) ?_; rintro e w' ⟨rfl, rfl⟩) | (go_at_call 126; refine Calls.mono (onDisk_is _ _) ?_; rintro e w' ⟨rfl, rfl⟩))
    go_ret
    exact ⟨rfl, below_two _ _ _⟩)
set_option maxRecDepth 100000 in
set_option maxHeartbeats 2000000 in
theorem ptr_40c (rl : Nat) (rk : Int) (rkey rval : ByteArray) (pl : Nat) (pk pa pn : Int) (pkey : ByteArray) (ec eb ef : Int) (es : Nat) (w : World) (hpk : pk = 1 ∨ pk = 2) (q3 : (((pl : Nat) : Int) == 0) = false) (HK : Hid (∀ w : World, Calls Try.prog 124 #[.string pkey] w fun e w' => e = .returned (.bool true) ∧ w' = w)) (d1 : onB pa = true) (d2 : onB pn = true) (d3 : pn = 0) :
    Calls Try.prog 120 #[.agg #[.int .i64 3, .int .u64 (rl : Int), .int .i64 rk, .string rkey, .string rval, .int .u64 (pl : Int), .int .i64 pk, .int .i64 pa, .int .i64 pn, .string pkey, .int .i64 ec, .int .i64 eb, .int .i64 ef, .int .u32 (es : Int)]] w fun e w' => e = .returned (.int .i64 40) ∧ Below w.heap.size w w' := by
  subst d3
  rcases hpk with rfl | rfl
  all_goals (
    go_enter Try.func120, Try.ntmps120
    go_wp2_with (first | (go_at_call 124; refine Calls.mono (HK.out _) ?_; rintro e w' ⟨rfl, rfl⟩) | (go_at_call 126; refine Calls.mono (onDisk_is _ _) ?_; rintro e w' ⟨rfl, rfl⟩))
    go_ret
    exact ⟨rfl, below_two _ _ _⟩)
set_option maxRecDepth 100000 in
set_option maxHeartbeats 2000000 in
theorem ptr_ey (rl : Nat) (rk : Int) (rkey rval : ByteArray) (pl : Nat) (pk pa pn : Int) (pkey : ByteArray) (ec eb ef : Int) (es : Nat) (w : World) (hpk : pk = 1 ∨ pk = 2) (q3 : (((pl : Nat) : Int) == 0) = false) (HK : Hid (∀ w : World, Calls Try.prog 124 #[.string pkey] w fun e w' => e = .returned (.bool true) ∧ w' = w)) (d1 : onB pa = true) (d2 : onB pn = true) (d3 : (pn == 0) = false) (hne : ∀ w, (binOp .neq 41 (.agg #[.int .i64 3, .int .u64 (rl : Int), .int .i64 rk, .string rkey, .string rval, .int .u64 (pl : Int), .int .i64 pk, .int .i64 pa, .int .i64 pn, .string pkey, .int .i64 ec, .int .i64 eb, .int .i64 ef, .int .u32 (es : Int)]) (.agg #[.int .i64 3, .int .u64 0, .int .i64 0, .string ⟨#[]⟩, .string ⟨#[]⟩, .int .u64 (pl : Int), .int .i64 pk, .int .i64 pa, .int .i64 pn, .string pkey, .int .i64 0, .int .i64 0, .int .i64 0, .int .u32 0])).run Try.prog w = .ok (.bool true) w) :
    Calls Try.prog 120 #[.agg #[.int .i64 3, .int .u64 (rl : Int), .int .i64 rk, .string rkey, .string rval, .int .u64 (pl : Int), .int .i64 pk, .int .i64 pa, .int .i64 pn, .string pkey, .int .i64 ec, .int .i64 eb, .int .i64 ef, .int .u32 (es : Int)]] w fun e w' => e = .returned (.int .i64 40) ∧ Below w.heap.size w w' := by
  rcases hpk with rfl | rfl
  all_goals (
    go_enter Try.func120, Try.ntmps120
    go_wp2_with (first | (go_at_call 124; refine Calls.mono (HK.out _) ?_; rintro e w' ⟨rfl, rfl⟩) | (go_at_call 126; refine Calls.mono (onDisk_is _ _) ?_; rintro e w' ⟨rfl, rfl⟩))
    go_ret
    exact ⟨rfl, below_two _ _ _⟩)
set_option maxRecDepth 100000 in
set_option maxHeartbeats 2000000 in
theorem ptr_en (rl : Nat) (rk : Int) (rkey rval : ByteArray) (pl : Nat) (pk pa pn : Int) (pkey : ByteArray) (ec eb ef : Int) (es : Nat) (w : World) (hpk : pk = 1 ∨ pk = 2) (q3 : (((pl : Nat) : Int) == 0) = false) (HK : Hid (∀ w : World, Calls Try.prog 124 #[.string pkey] w fun e w' => e = .returned (.bool true) ∧ w' = w)) (d1 : onB pa = true) (d2 : onB pn = true) (d3 : (pn == 0) = false) (hne : ∀ w, (binOp .neq 41 (.agg #[.int .i64 3, .int .u64 (rl : Int), .int .i64 rk, .string rkey, .string rval, .int .u64 (pl : Int), .int .i64 pk, .int .i64 pa, .int .i64 pn, .string pkey, .int .i64 ec, .int .i64 eb, .int .i64 ef, .int .u32 (es : Int)]) (.agg #[.int .i64 3, .int .u64 0, .int .i64 0, .string ⟨#[]⟩, .string ⟨#[]⟩, .int .u64 (pl : Int), .int .i64 pk, .int .i64 pa, .int .i64 pn, .string pkey, .int .i64 0, .int .i64 0, .int .i64 0, .int .u32 0])).run Try.prog w = .ok (.bool false) w) :
    Calls Try.prog 120 #[.agg #[.int .i64 3, .int .u64 (rl : Int), .int .i64 rk, .string rkey, .string rval, .int .u64 (pl : Int), .int .i64 pk, .int .i64 pa, .int .i64 pn, .string pkey, .int .i64 ec, .int .i64 eb, .int .i64 ef, .int .u32 (es : Int)]] w fun e w' => e = .returned (.int .i64 0) ∧ Below w.heap.size w w' := by
  rcases hpk with rfl | rfl
  all_goals (
    go_enter Try.func120, Try.ntmps120
    go_wp2_with (first | (go_at_call 124; refine Calls.mono (HK.out _) ?_; rintro e w' ⟨rfl, rfl⟩) | (go_at_call 126; refine Calls.mono (onDisk_is _ _) ?_; rintro e w' ⟨rfl, rfl⟩))
    go_ret
    exact ⟨rfl, below_two _ _ _⟩)
set_option maxRecDepth 100000 in
set_option maxHeartbeats 2000000 in
theorem edg_40a (rl : Nat) (rk : Int) (rkey rval : ByteArray) (pl : Nat) (pk pa pn : Int) (pkey : ByteArray) (ec eb ef : Int) (es : Nat) (w : World) (d1 : onB ec = false) :
    Calls Try.prog 121 #[.agg #[.int .i64 4, .int .u64 (rl : Int), .int .i64 rk, .string rkey, .string rval, .int .u64 (pl : Int), .int .i64 pk, .int .i64 pa, .int .i64 pn, .string pkey, .int .i64 ec, .int .i64 eb, .int .i64 ef, .int .u32 (es : Int)]] w fun e w' => e = .returned (.int .i64 40) ∧ Below w.heap.size w w' := by
  go_enter Try.func121, Try.ntmps121
  go_wp2_with (first | (go_at_call 126; refine Calls.mono (onDisk_is _ _) ?_; rintro e w' ⟨rfl, rfl⟩))
  go_ret
  exact ⟨rfl, below_two _ _ _⟩
set_option maxRecDepth 100000 in
set_option maxHeartbeats 2000000 in
theorem edg_40b (rl : Nat) (rk : Int) (rkey rval : ByteArray) (pl : Nat) (pk pa pn : Int) (pkey : ByteArray) (ec eb ef : Int) (es : Nat) (w : World) (d1 : onB ec = true) (d2 : onB eb = false) :
    Calls Try.prog 121 #[.agg #[.int .i64 4, .int .u64 (rl : Int), .int .i64 rk, .string rkey, .string rval, .int .u64 (pl : Int), .int .i64 pk, .int .i64 pa, .int .i64 pn, .string pkey, .int .i64 ec, .int .i64 eb, .int .i64 ef, .int .u32 (es : Int)]] w fun e w' => e = .returned (.int .i64 40) ∧ Below w.heap.size w w' := by
  go_enter Try.func121, Try.ntmps121
  go_wp2_with (first | (go_at_call 126; refine Calls.mono (onDisk_is _ _) ?_; rintro e w' ⟨rfl, rfl⟩))
  go_ret
  exact ⟨rfl, below_two _ _ _⟩
set_option maxRecDepth 100000 in
set_option maxHeartbeats 2000000 in
theorem edg_40c (rl : Nat) (rk : Int) (rkey rval : ByteArray) (pl : Nat) (pk pa pn : Int) (pkey : ByteArray) (ec eb ef : Int) (es : Nat) (w : World) (d1 : onB ec = true) (d2 : onB eb = true) (d3 : onB ef = false) :
    Calls Try.prog 121 #[.agg #[.int .i64 4, .int .u64 (rl : Int), .int .i64 rk, .string rkey, .string rval, .int .u64 (pl : Int), .int .i64 pk, .int .i64 pa, .int .i64 pn, .string pkey, .int .i64 ec, .int .i64 eb, .int .i64 ef, .int .u32 (es : Int)]] w fun e w' => e = .returned (.int .i64 40) ∧ Below w.heap.size w w' := by
  go_enter Try.func121, Try.ntmps121
  go_wp2_with (first | (go_at_call 126; refine Calls.mono (onDisk_is _ _) ?_; rintro e w' ⟨rfl, rfl⟩))
  go_ret
  exact ⟨rfl, below_two _ _ _⟩
set_option maxRecDepth 100000 in
set_option maxHeartbeats 2000000 in
theorem edg_ey (rl : Nat) (rk : Int) (rkey rval : ByteArray) (pl : Nat) (pk pa pn : Int) (pkey : ByteArray) (ec eb ef : Int) (es : Nat) (w : World) (d1 : onB ec = true) (d2 : onB eb = true) (d3 : onB ef = true) (hne : ∀ w, (binOp .neq 41 (.agg #[.int .i64 4, .int .u64 (rl : Int), .int .i64 rk, .string rkey, .string rval, .int .u64 (pl : Int), .int .i64 pk, .int .i64 pa, .int .i64 pn, .string pkey, .int .i64 ec, .int .i64 eb, .int .i64 ef, .int .u32 (es : Int)]) (.agg #[.int .i64 4, .int .u64 0, .int .i64 0, .string ⟨#[]⟩, .string ⟨#[]⟩, .int .u64 0, .int .i64 0, .int .i64 0, .int .i64 0, .string ⟨#[]⟩, .int .i64 ec, .int .i64 eb, .int .i64 ef, .int .u32 (es : Int)])).run Try.prog w = .ok (.bool true) w) :
    Calls Try.prog 121 #[.agg #[.int .i64 4, .int .u64 (rl : Int), .int .i64 rk, .string rkey, .string rval, .int .u64 (pl : Int), .int .i64 pk, .int .i64 pa, .int .i64 pn, .string pkey, .int .i64 ec, .int .i64 eb, .int .i64 ef, .int .u32 (es : Int)]] w fun e w' => e = .returned (.int .i64 40) ∧ Below w.heap.size w w' := by
  go_enter Try.func121, Try.ntmps121
  go_wp2_with (first | (go_at_call 126; refine Calls.mono (onDisk_is _ _) ?_; rintro e w' ⟨rfl, rfl⟩))
  go_ret
  exact ⟨rfl, below_two _ _ _⟩
set_option maxRecDepth 100000 in
set_option maxHeartbeats 2000000 in
theorem edg_en (rl : Nat) (rk : Int) (rkey rval : ByteArray) (pl : Nat) (pk pa pn : Int) (pkey : ByteArray) (ec eb ef : Int) (es : Nat) (w : World) (d1 : onB ec = true) (d2 : onB eb = true) (d3 : onB ef = true) (hne : ∀ w, (binOp .neq 41 (.agg #[.int .i64 4, .int .u64 (rl : Int), .int .i64 rk, .string rkey, .string rval, .int .u64 (pl : Int), .int .i64 pk, .int .i64 pa, .int .i64 pn, .string pkey, .int .i64 ec, .int .i64 eb, .int .i64 ef, .int .u32 (es : Int)]) (.agg #[.int .i64 4, .int .u64 0, .int .i64 0, .string ⟨#[]⟩, .string ⟨#[]⟩, .int .u64 0, .int .i64 0, .int .i64 0, .int .i64 0, .string ⟨#[]⟩, .int .i64 ec, .int .i64 eb, .int .i64 ef, .int .u32 (es : Int)])).run Try.prog w = .ok (.bool false) w) :
    Calls Try.prog 121 #[.agg #[.int .i64 4, .int .u64 (rl : Int), .int .i64 rk, .string rkey, .string rval, .int .u64 (pl : Int), .int .i64 pk, .int .i64 pa, .int .i64 pn, .string pkey, .int .i64 ec, .int .i64 eb, .int .i64 ef, .int .u32 (es : Int)]] w fun e w' => e = .returned (.int .i64 0) ∧ Below w.heap.size w w' := by
  go_enter Try.func121, Try.ntmps121
  go_wp2_with (first | (go_at_call 126; refine Calls.mono (onDisk_is _ _) ?_; rintro e w' ⟨rfl, rfl⟩))
  go_ret
  exact ⟨rfl, below_two _ _ _⟩
theorem ptrRef_is (f : Fr) (w : World) (hk3 : f.kind = 3) : Calls Try.prog 120 #[.agg (fv f)] w fun e w' => e = .returned (.int .i64 (rfP f : Int)) ∧ Below w.heap.size w w' := by
  obtain ⟨k, ⟨rl, rk, rkey, rval⟩, ⟨pl, pk, pa, pn, pkey⟩, ⟨ec, eb, ef, es⟩⟩ := f
  simp only at hk3
  subst hk3
  unfold rfP
  simp only
  by_cases c1 : pk ≠ 1 ∧ pk ≠ 2
  · rw [if_pos c1]
    obtain ⟨d1, d2⟩ := c1
    exact ptr_46 rl rk rkey rval pl pk pa pn pkey ec eb ef es w (by simpa using d1) (by simpa using d2)
  · rw [if_neg c1]
    have hpk : pk = 1 ∨ pk = 2 := by omega
    by_cases c2 : pl = 0
    · rw [if_pos c2]
      exact ptr_47 rl rk rkey rval pl pk pa pn pkey ec eb ef es w hpk c2
    · rw [if_neg c2]
      have q3 : (((pl : Nat) : Int) == 0) = false := by simp; omega
      by_cases c3 : ¬ mayKey pkey
      · rw [if_pos c3]
        exact ptr_48 rl rk rkey rval pl pk pa pn pkey ec eb ef es w hpk q3 (fun w => mayBeKey_no pkey w c3)
      · rw [if_neg c3]
        have HK := hd (fun (w : World) => mayBeKey_yes pkey w (Classical.not_not.1 c3))
        by_cases c4 : ¬ onD pa ∨ ¬ onD pn ∨ pn = 0
        · rw [if_pos c4]
          by_cases d1 : onD pa
          · by_cases d2 : onD pn
            · have d3 : pn = 0 := by
                rcases c4 with h | h | h
                · exact absurd d1 h
                · exact absurd d2 h
                · exact h
              exact ptr_40c rl rk rkey rval pl pk pa pn pkey ec eb ef es w hpk q3 HK ((onB_iff _).2 d1) ((onB_iff _).2 d2) d3
            · exact ptr_40b rl rk rkey rval pl pk pa pn pkey ec eb ef es w hpk q3 HK ((onB_iff _).2 d1) (by rw [← Bool.not_eq_true, onB_iff]; exact d2)
          · exact ptr_40a rl rk rkey rval pl pk pa pn pkey ec eb ef es w hpk q3 HK (by rw [← Bool.not_eq_true, onB_iff]; exact d1)
        · rw [if_neg c4]
          have d1 : onB pa = true := (onB_iff _).2 (Classical.byContradiction fun q => c4 (.inl q))
          have d2 : onB pn = true := (onB_iff _).2 (Classical.byContradiction fun q => c4 (.inr (.inl q)))
          have d3 : (pn == 0) = false := by simpa using fun q => c4 (.inr (.inr q))
          obtain ⟨b, hb1, hb2⟩ := neq_any ⟨3, ⟨rl, rk, rkey, rval⟩, ⟨pl, pk, pa, pn, pkey⟩, ⟨ec, eb, ef, es⟩⟩ ⟨3, zr, ⟨pl, pk, pa, pn, pkey⟩, ze⟩
          rw [ite_ne hb2]
          cases b
          · exact ptr_en rl rk rkey rval pl pk pa pn pkey ec eb ef es w hpk q3 HK d1 d2 d3 hb1
          · exact ptr_ey rl rk rkey rval pl pk pa pn pkey ec eb ef es w hpk q3 HK d1 d2 d3 hb1
theorem edgRef_is (f : Fr) (w : World) (hk4 : f.kind = 4) : Calls Try.prog 121 #[.agg (fv f)] w fun e w' => e = .returned (.int .i64 (rfE f : Int)) ∧ Below w.heap.size w w' := by
  obtain ⟨k, ⟨rl, rk, rkey, rval⟩, ⟨pl, pk, pa, pn, pkey⟩, ⟨ec, eb, ef, es⟩⟩ := f
  simp only at hk4
  subst hk4
  unfold rfE
  simp only
  by_cases c4 : ¬ onD ec ∨ ¬ onD eb ∨ ¬ onD ef
  · rw [if_pos c4]
    by_cases d1 : onD ec
    · by_cases d2 : onD eb
      · have d3 : ¬ onD ef := by
          rcases c4 with h | h | h
          · exact absurd d1 h
          · exact absurd d2 h
          · exact h
        exact edg_40c rl rk rkey rval pl pk pa pn pkey ec eb ef es w ((onB_iff _).2 d1) ((onB_iff _).2 d2) (by rw [← Bool.not_eq_true, onB_iff]; exact d3)
      · exact edg_40b rl rk rkey rval pl pk pa pn pkey ec eb ef es w ((onB_iff _).2 d1) (by rw [← Bool.not_eq_true, onB_iff]; exact d2)
    · exact edg_40a rl rk rkey rval pl pk pa pn pkey ec eb ef es w (by rw [← Bool.not_eq_true, onB_iff]; exact d1)
  · rw [if_neg c4]
    have d1 : onB ec = true := (onB_iff _).2 (Classical.byContradiction fun q => c4 (.inl q))
    have d2 : onB eb = true := (onB_iff _).2 (Classical.byContradiction fun q => c4 (.inr (.inl q)))
    have d3 : onB ef = true := (onB_iff _).2 (Classical.byContradiction fun q => c4 (.inr (.inr q)))
    obtain ⟨b, hb1, hb2⟩ := neq_any ⟨4, ⟨rl, rk, rkey, rval⟩, ⟨pl, pk, pa, pn, pkey⟩, ⟨ec, eb, ef, es⟩⟩ ⟨4, zr, zp, ⟨ec, eb, ef, es⟩⟩
    rw [ite_ne hb2]
    cases b
    · exact edg_en rl rk rkey rval pl pk pa pn pkey ec eb ef es w d1 d2 d3 hb1
    · exact edg_ey rl rk rkey rval pl pk pa pn pkey ec eb ef es w d1 d2 d3 hb1
set_option maxRecDepth 100000 in
set_option maxHeartbeats 2000000 in
theorem refusal_is (f : Fr) (w : World) : Calls Try.prog 99 #[.agg (fv f)] w fun e w' => e = .returned (.int .i64 (rf f : Int)) ∧ Below w.heap.size w w' := by
  have H1 := hd (recRef_is f)
  have H2 := hd (fun w h => ptrRef_is f w h)
  have H3 := hd (fun w h => edgRef_is f w h)
  unfold rf
  obtain ⟨k, ⟨rl, rk, rkey, rval⟩, ⟨pl, pk, pa, pn, pkey⟩, ⟨ec, eb, ef, es⟩⟩ := f
  simp only
  unfold fv at *
  simp only at *
  by_cases c12 : k = 1 ∨ k = 2
  · rw [if_pos c12]
    generalize rfR _ = code at *
    rcases c12 with rfl | rfl
    all_goals (
      go_enter Try.func99, Try.ntmps99
      go_wp2_with fail
      refine Calls.mono (H1.out _) ?_
      rintro e w' ⟨rfl, hb⟩
      have HB := hd (below_alloc1 hb)
      clear hb
      go_wp2_with fail
      go_ret
      exact ⟨rfl, HB.out⟩)
  · rw [if_neg c12]
    by_cases c3 : k = 3
    · rw [if_pos c3]
      generalize rfP _ = code at *
      subst c3
      go_enter Try.func99, Try.ntmps99
      go_wp2_with fail
      refine Calls.mono (H2.out _ trivial) ?_
      rintro e w' ⟨rfl, hb⟩
      have HB := hd (below_alloc1 hb)
      clear hb
      go_wp2_with fail
      go_ret
      exact ⟨rfl, HB.out⟩
    · rw [if_neg c3]
      by_cases c4 : k = 4
      · rw [if_pos c4]
        generalize rfE _ = code at *
        subst c4
        go_enter Try.func99, Try.ntmps99
        go_wp2_with fail
        refine Calls.mono (H3.out _ trivial) ?_
        rintro e w' ⟨rfl, hb⟩
        have HB := hd (below_alloc1 hb)
        clear hb
        go_wp2_with fail
        go_ret
        exact ⟨rfl, HB.out⟩
      · rw [if_neg c4]
        have q1 : ¬ k = 1 := fun q => c12 (.inl q)
        have q2 : ¬ k = 2 := fun q => c12 (.inr q)
        go_enter Try.func99, Try.ntmps99
        go_wp2_with fail
        go_ret
        exact ⟨rfl, (Below.refl _ _).alloc (Nat.le_refl _) _⟩
end Vt
end Go.Proofs.Ytlddogigbodilaa
namespace Go.Proofs.Ytlddogigbodilaa
namespace Vt
def lenRen : Go.Shelf.Ren := ⟨fun | 129 => 102 | n => n, fun | 53 => 30 | 3 => 3 | 4 => 4 | 46 => 144 | 5 => 5 | 9 => 9 | n => n, fun | n => n⟩
theorem lenLays : Go.Proofs.Lays.n129 Try.prog lenRen := {
  mixed := by kernel_rfl
  f129 := Try.func102.trans (congrArg some (by kernel_rfl))
  t3 := Try.underlying3
  a3 := Try.isAgg3
  z3 := Try.sizeOf3
  v3 := Try.zeroValue3
  t4 := Try.underlying4
  a4 := Try.isAgg4
  z4 := Try.sizeOf4
  v4 := Try.zeroValue4
  t5 := Try.underlying5
  a5 := Try.isAgg5
  z5 := Try.sizeOf5
  v5 := Try.zeroValue5
  t9 := Try.underlying9
  a9 := Try.isAgg9
  z9 := Try.sizeOf9
  v9 := Try.zeroValue9
  t46 := Try.underlying144
  a46 := Try.isAgg144
  z46 := Try.sizeOf144
  v46 := Try.zeroValue144
  t53 := Try.underlying30
  a53 := Try.isAgg30
  z53 := Try.sizeOf30
  v53 := Try.zeroValue30 }
theorem len64_is (x : Nat) (w : World) (h : x < 18446744073709551616) :
    Calls Try.prog 102 #[.int .u64 (x : Int)] w fun e w' => e = .returned (.int .i64 ((Lib.bitLen x : Nat) : Int)) ∧ w' = w := Any.bits_Len64 lenLays (x : Int) w (by omega) (by omega)
end Vt
end Go.Proofs.Ytlddogigbodilaa
namespace Go.Proofs.Ytlddogigbodilaa
open Go.RowKit
namespace Vt
set_option maxHeartbeats 400000 in
theorem ended_is (n k c : Nat) (w : World) (hk : k ≤ 10) (hc : c < 256) :
    Calls Try.prog 127 #[.int .u64 (n : Int), .int .i64 (k : Int), .int .u8 (c : Int)] w fun e w' => e = .returned (.tuple (if k = 10 ∧ 1 < c then #[.int .u64 0, .int .i64 0, .int .i64 22] else if 1 < k ∧ c = 0 then #[.int .u64 0, .int .i64 0, .int .i64 23] else #[.int .u64 (n : Int), .int .i64 (k : Int), .int .i64 0])) ∧ w' = w := by
  by_cases h1 : k = 10
  · subst h1
    by_cases h2 : 1 < c
    · rw [if_pos ⟨rfl, h2⟩]
      go_enter Try.func127, Try.ntmps127
      go_wp2
      go_ret3
      exact ⟨rfl, rfl⟩
    · rw [if_neg (by omega)]
      by_cases h3 : c = 0
      · subst h3
        rw [if_pos (by omega)]
        go_enter Try.func127, Try.ntmps127
        go_wp2
        go_ret3
        exact ⟨rfl, rfl⟩
      · obtain rfl : c = 1 := by omega
        rw [if_neg (by omega)]
        go_enter Try.func127, Try.ntmps127
        go_wp2
        go_ret3
        exact ⟨rfl, rfl⟩
  · rw [if_neg (by omega)]
    by_cases h2 : 1 < k
    · by_cases h3 : c = 0
      · subst h3
        rw [if_pos (by omega)]
        go_enter Try.func127, Try.ntmps127
        go_wp2
        go_ret3
        exact ⟨rfl, rfl⟩
      · rw [if_neg (by omega)]
        go_enter Try.func127, Try.ntmps127
        go_wp2
        go_ret3
        exact ⟨rfl, rfl⟩
    · rw [if_neg (by omega)]
      go_enter Try.func127, Try.ntmps127
      go_wp2
      go_ret3
      exact ⟨rfl, rfl⟩
/-- the varints of all numbers, one behind the other -/
def enc (l : List Nat) : List Nat := (l.map vrt).flatten
def N64 (l : List Nat) : Prop := ∀ x ∈ l, x < 18446744073709551616
theorem enc_nil : enc [] = [] := rfl
theorem enc_cons (x : Nat) (l : List Nat) : enc (x :: l) = vrt x ++ enc l := by simp [enc]
theorem enc_append (a b : List Nat) : enc (a ++ b) = enc a ++ enc b := by simp [enc]
theorem enc_one (x : Nat) : enc [x] = vrt x := by simp [enc]
theorem enc_succ {l : List Nat} {k : Nat} (h : k < l.length) : enc (l.take (k + 1)) = enc (l.take k) ++ vrt (l.getD k 0) := by
  rw [take_succ_getD h, enc_append, enc_one]
theorem enc_byt (l : List Nat) : Byt (enc l) := by
  induction l with
  | nil => exact byt_nil
  | cons x l ih => rw [enc_cons]; exact byt_app (vrt_byt x) ih
theorem N64.at {l : List Nat} (h : N64 l) (k : Nat) : l.getD k 0 < 18446744073709551616 := by
  rw [List.getD_eq_getElem?_getD]
  cases e : l[k]? with
  | none => simp
  | some x => exact h x (List.mem_of_getElem? e)
theorem enc_len {l : List Nat} (h : N64 l) : (enc l).length ≤ 10 * l.length := by
  induction l with
  | nil => simp [enc]
  | cons x l ih =>
    rw [enc_cons, List.length_append, List.length_cons]
    have := vrt_ten (h x List.mem_cons_self)
    have := ih fun y hy => h y (List.mem_cons_of_mem _ hy)
    omega
theorem enc_len_le (l : List Nat) : l.length ≤ (enc l).length := by
  induction l with
  | nil => simp
  | cons x l ih =>
    rw [enc_cons, List.length_append, List.length_cons]
    have := vrt_len x
    omega
theorem N64.take {l : List Nat} (h : N64 l) (k : Nat) : N64 (l.take k) := fun x hx => h x (List.mem_of_mem_take hx)
theorem len64_any (z : Int) (x : Nat) (w : World) (hz : z = (x : Int)) (h : x < 18446744073709551616) :
    Calls Try.prog 102 #[.int .u64 z] w fun e w' => e = .returned (.int .i64 ((Lib.bitLen x : Nat) : Int)) ∧ w' = w := by
  subst hz; exact len64_is x w h
set_option maxRecDepth 100000 in
set_option maxHeartbeats 400000 in
theorem size_row (b off c : Nat) (l : List Nat) (w : World) (hl : N64 l) (hr : RowK .u64 w b off l) (hm : l.length ≤ 140737488355328) :
    Calls Try.prog 122 #[.slice (some ⟨b, off, none⟩) l.length c] w fun e w' => e = .returned (.int .i64 (((enc l).length : Nat) : Int)) ∧ w' = w := by
  have HR := hd hr
  have HL := hd hl
  clear hr hl
  go_enter Try.func122, Try.ntmps122
  go_wp2
  go_loop [3, 8] (fun s i => ∃ k : Nat, k ≤ l.length ∧ i = .int .i64 (k : Int) ∧ s = .int .i64 (((enc (l.take k)).length : Nat) : Int)) (fun _ i => l.length - (intOf i).toNat)
  case atStart => exact ⟨0, by omega, rfl, rfl⟩
  case round =>
    obtain ⟨k, hk, rfl, rfl⟩ := hrel
    have hb := enc_len (HL.out.take k)
    rw [List.length_take] at hb
    by_cases hlt : k < l.length
    · have hc := HR.out k hlt
      have hx := HL.out.at k
      have HE := hd (enc_succ hlt)
      have HS := hd (size_vrt hx)
      have h10 := vrt_ten hx
      have hor : l.getD k 0 ||| 1 < 18446744073709551616 := Nat.or_lt_two_pow (n := 64) hx (by decide)
      have e := u64_or_nat (l.getD k 0) 1 hx (by decide)
      have hbl := bl_le hor
      generalize l.getD k 0 = x at *
      generalize hs : (enc (l.take k)).length = s at *
      have HSS := hd hs
      clear hs
      go_wp2_with fail
      refine Calls.mono (len64_any _ (x ||| 1) w (by first | exact e | (rw [← e]; rfl)) hor) ?_
      rintro e w' ⟨rfl, rfl⟩
      go_wp2_with fail
      go_roundw
      case rel =>
        refine ⟨k + 1, by omega, by go_num, ?_⟩
        rw [HE.out, List.length_append, ← HS.out, HSS.out]
        congr 1
        omega
      case measure => simp [intOf]; omega
    · obtain rfl : k = l.length := by omega
      go_wp2
      go_ret
      exact ⟨rfl, rfl⟩
set_option maxRecDepth 100000 in
set_option maxHeartbeats 400000 in
theorem size_nil (a : Option Addr) (c : Nat) (w : World) :
    Calls Try.prog 122 #[.slice a 0 c] w fun e w' => e = .returned (.int .i64 0) ∧ w' = w := by
  go_enter Try.func122, Try.ntmps122
  go_wp2
  go_loop [3, 8] (fun s i => i = .int .i64 0 ∧ s = .int .i64 0) (fun _ _ => 0)
  case atStart => exact ⟨rfl, rfl⟩
  case round =>
    obtain ⟨rfl, rfl⟩ := hrel
    go_wp2
    go_ret
    exact ⟨rfl, rfl⟩
theorem size_is (v : Value) (l : List Nat) (w : World) (h : IsN w v l) (hm : l.length ≤ 140737488355328) :
    Calls Try.prog 122 #[v] w fun e w' => e = .returned (.int .i64 (((enc l).length : Nat) : Int)) ∧ w' = w := by
  obtain ⟨hl, _, ⟨rfl, a, c, rfl⟩ | ⟨b, off, c, rfl, _, _, _, hr⟩⟩ := h
  · exact size_nil a c w
  · exact size_row b off c l w hl hr hm
end Vt
end Go.Proofs.Ytlddogigbodilaa
