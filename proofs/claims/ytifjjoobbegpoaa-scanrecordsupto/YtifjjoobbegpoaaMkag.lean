/-
  THE WALKS OF frame.pointerRefusal, endingRefusal, refusal: what 'rf' says.
-/
import Derived.Test.YtifjjoobbegpoaaMkaf
namespace Go.Proofs.Ytifjjoobbegpoaa
open Go.RowKit
namespace Vt
def onB (n : Int) : Bool := decide (0 ≤ n) && decide (n ≤ 4194304)
theorem onB_iff (n : Int) : onB n = true ↔ onD n := by unfold onB onD; simp
theorem onDisk_is (n : Int) (w : World) : Calls Try.prog 114 #[.int .i64 n] w fun e w' => e = .returned (.bool (onB n)) ∧ w' = w := by
  by_cases h : onD n
  · rw [(onB_iff n).2 h]; exact onDisk_yes n w h
  · rw [show onB n = false by rw [← Bool.not_eq_true, onB_iff]; exact h]; exact onDisk_no n w h
set_option maxRecDepth 100000 in
set_option maxHeartbeats 2000000 in
theorem ptr_46 (rl : Nat) (rk : Int) (rkey rval : ByteArray) (pl : Nat) (pk pa pn : Int) (pkey : ByteArray) (ec eb ef : Int) (es : Nat) (w : World) (q1 : (pk != 1) = true) (q2 : (pk != 2) = true) :
    Calls Try.prog 100 #[.agg #[.int .i64 3, .int .u64 (rl : Int), .int .i64 rk, .string rkey, .string rval, .int .u64 (pl : Int), .int .i64 pk, .int .i64 pa, .int .i64 pn, .string pkey, .int .i64 ec, .int .i64 eb, .int .i64 ef, .int .u32 (es : Int)]] w fun e w' => e = .returned (.int .i64 46) ∧ Below w.heap.size w w' := by
  go_enter Try.func100, Try.ntmps100
  go_wp2_with (first | (go_at_call 114; refine Calls.mono (onDisk_is _ _) ?_; rintro e w' ⟨rfl, rfl⟩))
  go_ret
  exact ⟨rfl, below_two _ _ _⟩
set_option maxRecDepth 100000 in
set_option maxHeartbeats 2000000 in
theorem ptr_47 (rl : Nat) (rk : Int) (rkey rval : ByteArray) (pl : Nat) (pk pa pn : Int) (pkey : ByteArray) (ec eb ef : Int) (es : Nat) (w : World) (hpk : pk = 1 ∨ pk = 2) (h0 : pl = 0) :
    Calls Try.prog 100 #[.agg #[.int .i64 3, .int .u64 (rl : Int), .int .i64 rk, .string rkey, .string rval, .int .u64 (pl : Int), .int .i64 pk, .int .i64 pa, .int .i64 pn, .string pkey, .int .i64 ec, .int .i64 eb, .int .i64 ef, .int .u32 (es : Int)]] w fun e w' => e = .returned (.int .i64 47) ∧ Below w.heap.size w w' := by
  subst h0
  rcases hpk with rfl | rfl
  all_goals (
    go_enter Try.func100, Try.ntmps100
    go_wp2_with (first | (go_at_call 114; refine Calls.mono (onDisk_is _ _) ?_; rintro e w' ⟨rfl, rfl⟩))
    go_ret
    exact ⟨rfl, below_two _ _ _⟩)
set_option maxRecDepth 100000 in
set_option maxHeartbeats 2000000 in
theorem ptr_48 (rl : Nat) (rk : Int) (rkey rval : ByteArray) (pl : Nat) (pk pa pn : Int) (pkey : ByteArray) (ec eb ef : Int) (es : Nat) (w : World) (hpk : pk = 1 ∨ pk = 2) (q3 : (((pl : Nat) : Int) == 0) = false) (HK : Hid (∀ w : World, Calls Try.prog 112 #[.string pkey] w fun e w' => e = .returned (.bool false) ∧ w' = w)) :
    Calls Try.prog 100 #[.agg #[.int .i64 3, .int .u64 (rl : Int), .int .i64 rk, .string rkey, .string rval, .int .u64 (pl : Int), .int .i64 pk, .int .i64 pa, .int .i64 pn, .string pkey, .int .i64 ec, .int .i64 eb, .int .i64 ef, .int .u32 (es : Int)]] w fun e w' => e = .returned (.int .i64 48) ∧ Below w.heap.size w w' := by
  rcases hpk with rfl | rfl
  all_goals (
    go_enter Try.func100, Try.ntmps100
    go_wp2_with (first | (go_at_call 112; refine Calls.mono (HK.out _) ?_; rintro e w' ⟨rfl, rfl⟩) | (go_at_call 114; refine Calls.mono (onDisk_is _ _) ?_; rintro e w' ⟨rfl, rfl⟩))
    go_ret
    exact ⟨rfl, below_two _ _ _⟩)
set_option maxRecDepth 100000 in
set_option maxHeartbeats 2000000 in
theorem ptr_40a (rl : Nat) (rk : Int) (rkey rval : ByteArray) (pl : Nat) (pk pa pn : Int) (pkey : ByteArray) (ec eb ef : Int) (es : Nat) (w : World) (hpk : pk = 1 ∨ pk = 2) (q3 : (((pl : Nat) : Int) == 0) = false) (HK : Hid (∀ w : World, Calls Try.prog 112 #[.string pkey] w fun e w' => e = .returned (.bool true) ∧ w' = w)) (d1 : onB pa = false) :
    Calls Try.prog 100 #[.agg #[.int .i64 3, .int .u64 (rl : Int), .int .i64 rk, .string rkey, .string rval, .int .u64 (pl : Int), .int .i64 pk, .int .i64 pa, .int .i64 pn, .string pkey, .int .i64 ec, .int .i64 eb, .int .i64 ef, .int .u32 (es : Int)]] w fun e w' => e = .returned (.int .i64 40) ∧ Below w.heap.size w w' := by
  rcases hpk with rfl | rfl
  all_goals (
    go_enter Try.func100, Try.ntmps100
    go_wp2_with (first | (go_at_call 112; refine Calls.mono (HK.out _) ?_; rintro e w' ⟨rfl, rfl⟩) | (go_at_call 114; refine Calls.mono (onDisk_is _ _) ?_; rintro e w' ⟨rfl, rfl⟩))
    go_ret
    exact ⟨rfl, below_two _ _ _⟩)
set_option maxRecDepth 100000 in
set_option maxHeartbeats 2000000 in
theorem ptr_40b (rl : Nat) (rk : Int) (rkey rval : ByteArray) (pl : Nat) (pk pa pn : Int) (pkey : ByteArray) (ec eb ef : Int) (es : Nat) (w : World) (hpk : pk = 1 ∨ pk = 2) (q3 : (((pl : Nat) : Int) == 0) = false) (HK : Hid (∀ w : World, Calls Try.prog 112 #[.string pkey] w fun e w' => e = .returned (.bool true) ∧ w' = w)) (d1 : onB pa = true) (d2 : onB pn = false) :
    Calls Try.prog 100 #[.agg #[.int .i64 3, .int .u64 (rl : Int), .int .i64 rk, .string rkey, .string rval, .int .u64 (pl : Int), .int .i64 pk, .int .i64 pa, .int .i64 pn, .string pkey, .int .i64 ec, .int .i64 eb, .int .i64 ef, .int .u32 (es : Int)]] w fun e w' => e = .returned (.int .i64 40) ∧ Below w.heap.size w w' := by
  rcases hpk with rfl | rfl
  all_goals (
    go_enter Try.func100, Try.ntmps100
    go_wp2_with (first | (go_at_call 112; refine Calls.mono (HK.out _) ?_; rintro e w' ⟨rfl, rfl⟩) | (go_at_call 114; refine Calls.mono (onDisk_is _ _) ?_; rintro e w' ⟨rfl, rfl⟩))
    go_ret
    exact ⟨rfl, below_two _ _ _⟩)
set_option maxRecDepth 100000 in
set_option maxHeartbeats 2000000 in
theorem ptr_40c (rl : Nat) (rk : Int) (rkey rval : ByteArray) (pl : Nat) (pk pa pn : Int) (pkey : ByteArray) (ec eb ef : Int) (es : Nat) (w : World) (hpk : pk = 1 ∨ pk = 2) (q3 : (((pl : Nat) : Int) == 0) = false) (HK : Hid (∀ w : World, Calls Try.prog 112 #[.string pkey] w fun e w' => e = .returned (.bool true) ∧ w' = w)) (d1 : onB pa = true) (d2 : onB pn = true) (d3 : pn = 0) :
    Calls Try.prog 100 #[.agg #[.int .i64 3, .int .u64 (rl : Int), .int .i64 rk, .string rkey, .string rval, .int .u64 (pl : Int), .int .i64 pk, .int .i64 pa, .int .i64 pn, .string pkey, .int .i64 ec, .int .i64 eb, .int .i64 ef, .int .u32 (es : Int)]] w fun e w' => e = .returned (.int .i64 40) ∧ Below w.heap.size w w' := by
  subst d3
  rcases hpk with rfl | rfl
  all_goals (
    go_enter Try.func100, Try.ntmps100
    go_wp2_with (first | (go_at_call 112; refine Calls.mono (HK.out _) ?_; rintro e w' ⟨rfl, rfl⟩) | (go_at_call 114; refine Calls.mono (onDisk_is _ _) ?_; rintro e w' ⟨rfl, rfl⟩))
    go_ret
    exact ⟨rfl, below_two _ _ _⟩)
set_option maxRecDepth 100000 in
set_option maxHeartbeats 2000000 in
theorem ptr_ey (rl : Nat) (rk : Int) (rkey rval : ByteArray) (pl : Nat) (pk pa pn : Int) (pkey : ByteArray) (ec eb ef : Int) (es : Nat) (w : World) (hpk : pk = 1 ∨ pk = 2) (q3 : (((pl : Nat) : Int) == 0) = false) (HK : Hid (∀ w : World, Calls Try.prog 112 #[.string pkey] w fun e w' => e = .returned (.bool true) ∧ w' = w)) (d1 : onB pa = true) (d2 : onB pn = true) (d3 : (pn == 0) = false) (hne : ∀ w, (binOp .neq 41 (.agg #[.int .i64 3, .int .u64 (rl : Int), .int .i64 rk, .string rkey, .string rval, .int .u64 (pl : Int), .int .i64 pk, .int .i64 pa, .int .i64 pn, .string pkey, .int .i64 ec, .int .i64 eb, .int .i64 ef, .int .u32 (es : Int)]) (.agg #[.int .i64 3, .int .u64 0, .int .i64 0, .string ⟨#[]⟩, .string ⟨#[]⟩, .int .u64 (pl : Int), .int .i64 pk, .int .i64 pa, .int .i64 pn, .string pkey, .int .i64 0, .int .i64 0, .int .i64 0, .int .u32 0])).run Try.prog w = .ok (.bool true) w) :
    Calls Try.prog 100 #[.agg #[.int .i64 3, .int .u64 (rl : Int), .int .i64 rk, .string rkey, .string rval, .int .u64 (pl : Int), .int .i64 pk, .int .i64 pa, .int .i64 pn, .string pkey, .int .i64 ec, .int .i64 eb, .int .i64 ef, .int .u32 (es : Int)]] w fun e w' => e = .returned (.int .i64 40) ∧ Below w.heap.size w w' := by
  rcases hpk with rfl | rfl
  all_goals (
    go_enter Try.func100, Try.ntmps100
    go_wp2_with (first | (go_at_call 112; refine Calls.mono (HK.out _) ?_; rintro e w' ⟨rfl, rfl⟩) | (go_at_call 114; refine Calls.mono (onDisk_is _ _) ?_; rintro e w' ⟨rfl, rfl⟩))
    go_ret
    exact ⟨rfl, below_two _ _ _⟩)
set_option maxRecDepth 100000 in
set_option maxHeartbeats 2000000 in
theorem ptr_en (rl : Nat) (rk : Int) (rkey rval : ByteArray) (pl : Nat) (pk pa pn : Int) (pkey : ByteArray) (ec eb ef : Int) (es : Nat) (w : World) (hpk : pk = 1 ∨ pk = 2) (q3 : (((pl : Nat) : Int) == 0) = false) (HK : Hid (∀ w : World, Calls Try.prog 112 #[.string pkey] w fun e w' => e = .returned (.bool true) ∧ w' = w)) (d1 : onB pa = true) (d2 : onB pn = true) (d3 : (pn == 0) = false) (hne : ∀ w, (binOp .neq 41 (.agg #[.int .i64 3, .int .u64 (rl : Int), .int .i64 rk, .string rkey, .string rval, .int .u64 (pl : Int), .int .i64 pk, .int .i64 pa, .int .i64 pn, .string pkey, .int .i64 ec, .int .i64 eb, .int .i64 ef, .int .u32 (es : Int)]) (.agg #[.int .i64 3, .int .u64 0, .int .i64 0, .string ⟨#[]⟩, .string ⟨#[]⟩, .int .u64 (pl : Int), .int .i64 pk, .int .i64 pa, .int .i64 pn, .string pkey, .int .i64 0, .int .i64 0, .int .i64 0, .int .u32 0])).run Try.prog w = .ok (.bool false) w) :
    Calls Try.prog 100 #[.agg #[.int .i64 3, .int .u64 (rl : Int), .int .i64 rk, .string rkey, .string rval, .int .u64 (pl : Int), .int .i64 pk, .int .i64 pa, .int .i64 pn, .string pkey, .int .i64 ec, .int .i64 eb, .int .i64 ef, .int .u32 (es : Int)]] w fun e w' => e = .returned (.int .i64 0) ∧ Below w.heap.size w w' := by
  rcases hpk with rfl | rfl
  all_goals (
    go_enter Try.func100, Try.ntmps100
    go_wp2_with (first | (go_at_call 112; refine Calls.mono (HK.out _) ?_; rintro e w' ⟨rfl, rfl⟩) | (go_at_call 114; refine Calls.mono (onDisk_is _ _) ?_; rintro e w' ⟨rfl, rfl⟩))
    go_ret
    exact ⟨rfl, below_two _ _ _⟩)
set_option maxRecDepth 100000 in
set_option maxHeartbeats 2000000 in
theorem edg_40a (rl : Nat) (rk : Int) (rkey rval : ByteArray) (pl : Nat) (pk pa pn : Int) (pkey : ByteArray) (ec eb ef : Int) (es : Nat) (w : World) (d1 : onB ec = false) :
    Calls Try.prog 101 #[.agg #[.int .i64 4, .int .u64 (rl : Int), .int .i64 rk, .string rkey, .string rval, .int .u64 (pl : Int), .int .i64 pk, .int .i64 pa, .int .i64 pn, .string pkey, .int .i64 ec, .int .i64 eb, .int .i64 ef, .int .u32 (es : Int)]] w fun e w' => e = .returned (.int .i64 40) ∧ Below w.heap.size w w' := by
  go_enter Try.func101, Try.ntmps101
  go_wp2_with (first | (go_at_call 114; refine Calls.mono (onDisk_is _ _) ?_; rintro e w' ⟨rfl, rfl⟩))
  go_ret
  exact ⟨rfl, below_two _ _ _⟩
set_option maxRecDepth 100000 in
set_option maxHeartbeats 2000000 in
theorem edg_40b (rl : Nat) (rk : Int) (rkey rval : ByteArray) (pl : Nat) (pk pa pn : Int) (pkey : ByteArray) (ec eb ef : Int) (es : Nat) (w : World) (d1 : onB ec = true) (d2 : onB eb = false) :
    Calls Try.prog 101 #[.agg #[.int .i64 4, .int .u64 (rl : Int), .int .i64 rk, .string rkey, .string rval, .int .u64 (pl : Int), .int .i64 pk, .int .i64 pa, .int .i64 pn, .string pkey, .int .i64 ec, .int .i64 eb, .int .i64 ef, .int .u32 (es : Int)]] w fun e w' => e = .returned (.int .i64 40) ∧ Below w.heap.size w w' := by
  go_enter Try.func101, Try.ntmps101
  go_wp2_with (first | (go_at_call 114; refine Calls.mono (onDisk_is _ _) ?_; rintro e w' ⟨rfl, rfl⟩))
  go_ret
  exact ⟨rfl, below_two _ _ _⟩
set_option maxRecDepth 100000 in
set_option maxHeartbeats 2000000 in
theorem edg_40c (rl : Nat) (rk : Int) (rkey rval : ByteArray) (pl : Nat) (pk pa pn : Int) (pkey : ByteArray) (ec eb ef : Int) (es : Nat) (w : World) (d1 : onB ec = true) (d2 : onB eb = true) (d3 : onB ef = false) :
    Calls Try.prog 101 #[.agg #[.int .i64 4, .int .u64 (rl : Int), .int .i64 rk, .string rkey, .string rval, .int .u64 (pl : Int), .int .i64 pk, .int .i64 pa, .int .i64 pn, .string pkey, .int .i64 ec, .int .i64 eb, .int .i64 ef, .int .u32 (es : Int)]] w fun e w' => e = .returned (.int .i64 40) ∧ Below w.heap.size w w' := by
  go_enter Try.func101, Try.ntmps101
  go_wp2_with (first | (go_at_call 114; refine Calls.mono (onDisk_is _ _) ?_; rintro e w' ⟨rfl, rfl⟩))
  go_ret
  exact ⟨rfl, below_two _ _ _⟩
set_option maxRecDepth 100000 in
set_option maxHeartbeats 2000000 in
theorem edg_ey (rl : Nat) (rk : Int) (rkey rval : ByteArray) (pl : Nat) (pk pa pn : Int) (pkey : ByteArray) (ec eb ef : Int) (es : Nat) (w : World) (d1 : onB ec = true) (d2 : onB eb = true) (d3 : onB ef = true) (hne : ∀ w, (binOp .neq 41 (.agg #[.int .i64 4, .int .u64 (rl : Int), .int .i64 rk, .string rkey, .string rval, .int .u64 (pl : Int), .int .i64 pk, .int .i64 pa, .int .i64 pn, .string pkey, .int .i64 ec, .int .i64 eb, .int .i64 ef, .int .u32 (es : Int)]) (.agg #[.int .i64 4, .int .u64 0, .int .i64 0, .string ⟨#[]⟩, .string ⟨#[]⟩, .int .u64 0, .int .i64 0, .int .i64 0, .int .i64 0, .string ⟨#[]⟩, .int .i64 ec, .int .i64 eb, .int .i64 ef, .int .u32 (es : Int)])).run Try.prog w = .ok (.bool true) w) :
    Calls Try.prog 101 #[.agg #[.int .i64 4, .int .u64 (rl : Int), .int .i64 rk, .string rkey, .string rval, .int .u64 (pl : Int), .int .i64 pk, .int .i64 pa, .int .i64 pn, .string pkey, .int .i64 ec, .int .i64 eb, .int .i64 ef, .int .u32 (es : Int)]] w fun e w' => e = .returned (.int .i64 40) ∧ Below w.heap.size w w' := by
  go_enter Try.func101, Try.ntmps101
  go_wp2_with (first | (go_at_call 114; refine Calls.mono (onDisk_is _ _) ?_; rintro e w' ⟨rfl, rfl⟩))
  go_ret
  exact ⟨rfl, below_two _ _ _⟩
set_option maxRecDepth 100000 in
set_option maxHeartbeats 2000000 in
theorem edg_en (rl : Nat) (rk : Int) (rkey rval : ByteArray) (pl : Nat) (pk pa pn : Int) (pkey : ByteArray) (ec eb ef : Int) (es : Nat) (w : World) (d1 : onB ec = true) (d2 : onB eb = true) (d3 : onB ef = true) (hne : ∀ w, (binOp .neq 41 (.agg #[.int .i64 4, .int .u64 (rl : Int), .int .i64 rk, .string rkey, .string rval, .int .u64 (pl : Int), .int .i64 pk, .int .i64 pa, .int .i64 pn, .string pkey, .int .i64 ec, .int .i64 eb, .int .i64 ef, .int .u32 (es : Int)]) (.agg #[.int .i64 4, .int .u64 0, .int .i64 0, .string ⟨#[]⟩, .string ⟨#[]⟩, .int .u64 0, .int .i64 0, .int .i64 0, .int .i64 0, .string ⟨#[]⟩, .int .i64 ec, .int .i64 eb, .int .i64 ef, .int .u32 (es : Int)])).run Try.prog w = .ok (.bool false) w) :
    Calls Try.prog 101 #[.agg #[.int .i64 4, .int .u64 (rl : Int), .int .i64 rk, .string rkey, .string rval, .int .u64 (pl : Int), .int .i64 pk, .int .i64 pa, .int .i64 pn, .string pkey, .int .i64 ec, .int .i64 eb, .int .i64 ef, .int .u32 (es : Int)]] w fun e w' => e = .returned (.int .i64 0) ∧ Below w.heap.size w w' := by
  go_enter Try.func101, Try.ntmps101
  go_wp2_with (first | (go_at_call 114; refine Calls.mono (onDisk_is _ _) ?_; rintro e w' ⟨rfl, rfl⟩))
  go_ret
  exact ⟨rfl, below_two _ _ _⟩
theorem ptrRef_is (f : Fr) (w : World) (hk3 : f.kind = 3) : Calls Try.prog 100 #[.agg (fv f)] w fun e w' => e = .returned (.int .i64 (rfP f : Int)) ∧ Below w.heap.size w w' := by
  obtain ⟨k, ⟨rl, rk, rkey, rval⟩, ⟨pl, pk, pa, pn, pkey⟩, ⟨ec, eb, ef, es⟩⟩ := f
  simp only at hk3
  subst hk3
  unfold rfP
  simp only
  by_cases c1 : pk ≠ 1 ∧ pk ≠ 2
  · rw [if_pos c1]
    obtain ⟨d1, d2⟩ := c1
    exact ptr_46 rl rk rkey rval pl pk pa pn pkey ec eb ef es w (by simpa using d1) (by simpa using d2)
  · rw [if_neg c1]
    have hpk : pk = 1 ∨ pk = 2 := by omega
    by_cases c2 : pl = 0
    · rw [if_pos c2]
      exact ptr_47 rl rk rkey rval pl pk pa pn pkey ec eb ef es w hpk c2
    · rw [if_neg c2]
      have q3 : (((pl : Nat) : Int) == 0) = false := by simp; omega
      by_cases c3 : ¬ mayKey pkey
      · rw [if_pos c3]
        exact ptr_48 rl rk rkey rval pl pk pa pn pkey ec eb ef es w hpk q3 (fun w => mayBeKey_no pkey w c3)
      · rw [if_neg c3]
        have HK := hd (fun (w : World) => mayBeKey_yes pkey w (Classical.not_not.1 c3))
        by_cases c4 : ¬ onD pa ∨ ¬ onD pn ∨ pn = 0
        · rw [if_pos c4]
          by_cases d1 : onD pa
          · by_cases d2 : onD pn
            · have d3 : pn = 0 := by
                rcases c4 with h | h | h
                · exact absurd d1 h
                · exact absurd d2 h
                · exact h
              exact ptr_40c rl rk rkey rval pl pk pa pn pkey ec eb ef es w hpk q3 HK ((onB_iff _).2 d1) ((onB_iff _).2 d2) d3
            · exact ptr_40b rl rk rkey rval pl pk pa pn pkey ec eb ef es w hpk q3 HK ((onB_iff _).2 d1) (by rw [← Bool.not_eq_true, onB_iff]; exact d2)
          · exact ptr_40a rl rk rkey rval pl pk pa pn pkey ec eb ef es w hpk q3 HK (by rw [← Bool.not_eq_true, onB_iff]; exact d1)
        · rw [if_neg c4]
          have d1 : onB pa = true := (onB_iff _).2 (Classical.byContradiction fun q => c4 (.inl q))
          have d2 : onB pn = true := (onB_iff _).2 (Classical.byContradiction fun q => c4 (.inr (.inl q)))
          have d3 : (pn == 0) = false := by simpa using fun q => c4 (.inr (.inr q))
          obtain ⟨b, hb1, hb2⟩ := neq_any ⟨3, ⟨rl, rk, rkey, rval⟩, ⟨pl, pk, pa, pn, pkey⟩, ⟨ec, eb, ef, es⟩⟩ ⟨3, zr, ⟨pl, pk, pa, pn, pkey⟩, ze⟩
          rw [ite_ne hb2]
          cases b
          · exact ptr_en rl rk rkey rval pl pk pa pn pkey ec eb ef es w hpk q3 HK d1 d2 d3 hb1
          · exact ptr_ey rl rk rkey rval pl pk pa pn pkey ec eb ef es w hpk q3 HK d1 d2 d3 hb1
theorem edgRef_is (f : Fr) (w : World) (hk4 : f.kind = 4) : Calls Try.prog 101 #[.agg (fv f)] w fun e w' => e = .returned (.int .i64 (rfE f : Int)) ∧ Below w.heap.size w w' := by
  obtain ⟨k, ⟨rl, rk, rkey, rval⟩, ⟨pl, pk, pa, pn, pkey⟩, ⟨ec, eb, ef, es⟩⟩ := f
  simp only at hk4
  subst hk4
  unfold rfE
  simp only
  by_cases c4 : ¬ onD ec ∨ ¬ onD eb ∨ ¬ onD ef
  · rw [if_pos c4]
    by_cases d1 : onD ec
    · by_cases d2 : onD eb
      · have d3 : ¬ onD ef := by
          rcases c4 with h | h | h
          · exact absurd d1 h
          · exact absurd d2 h
          · exact h
        exact edg_40c rl rk rkey rval pl pk pa pn pkey ec eb ef es w ((onB_iff _).2 d1) ((onB_iff _).2 d2) (by rw [← Bool.not_eq_true, onB_iff]; exact d3)
      · exact edg_40b rl rk rkey rval pl pk pa pn pkey ec eb ef es w ((onB_iff _).2 d1) (by rw [← Bool.not_eq_true, onB_iff]; exact d2)
    · exact edg_40a rl rk rkey rval pl pk pa pn pkey ec eb ef es w (by rw [← Bool.not_eq_true, onB_iff]; exact d1)
  · rw [if_neg c4]
    have d1 : onB ec = true := (onB_iff _).2 (Classical.byContradiction fun q => c4 (.inl q))
    have d2 : onB eb = true := (onB_iff _).2 (Classical.byContradiction fun q => c4 (.inr (.inl q)))
    have d3 : onB ef = true := (onB_iff _).2 (Classical.byContradiction fun q => c4 (.inr (.inr q)))
    obtain ⟨b, hb1, hb2⟩ := neq_any ⟨4, ⟨rl, rk, rkey, rval⟩, ⟨pl, pk, pa, pn, pkey⟩, ⟨ec, eb, ef, es⟩⟩ ⟨4, zr, zp, ⟨ec, eb, ef, es⟩⟩
    rw [ite_ne hb2]
    cases b
    · exact edg_en rl rk rkey rval pl pk pa pn pkey ec eb ef es w d1 d2 d3 hb1
    · exact edg_ey rl rk rkey rval pl pk pa pn pkey ec eb ef es w d1 d2 d3 hb1
set_option maxRecDepth 100000 in
set_option maxHeartbeats 2000000 in
theorem refusal_is (f : Fr) (w : World) : Calls Try.prog 77 #[.agg (fv f)] w fun e w' => e = .returned (.int .i64 (rf f : Int)) ∧ Below w.heap.size w w' := by
  have H1 := hd (recRef_is f)
  have H2 := hd (fun w h => ptrRef_is f w h)
  have H3 := hd (fun w h => edgRef_is f w h)
  unfold rf
  obtain ⟨k, ⟨rl, rk, rkey, rval⟩, ⟨pl, pk, pa, pn, pkey⟩, ⟨ec, eb, ef, es⟩⟩ := f
  simp only
  unfold fv at *
  simp only at *
  by_cases c12 : k = 1 ∨ k = 2
  · rw [if_pos c12]
    generalize rfR _ = code at *
    rcases c12 with rfl | rfl
    all_goals (
      go_enter Try.func77, Try.ntmps77
      go_wp2_with fail
      refine Calls.mono (H1.out _) ?_
      rintro e w' ⟨rfl, hb⟩
      have HB := hd (below_alloc1 hb)
      clear hb
      go_wp2_with fail
      go_ret
      exact ⟨rfl, HB.out⟩)
  · rw [if_neg c12]
    by_cases c3 : k = 3
    · rw [if_pos c3]
      generalize rfP _ = code at *
      subst c3
      go_enter Try.func77, Try.ntmps77
      go_wp2_with fail
      refine Calls.mono (H2.out _ trivial) ?_
      rintro e w' ⟨rfl, hb⟩
      have HB := hd (below_alloc1 hb)
      clear hb
      go_wp2_with fail
      go_ret
      exact ⟨rfl, HB.out⟩
    · rw [if_neg c3]
      by_cases c4 : k = 4
      · rw [if_pos c4]
        generalize rfE _ = code at *
        subst c4
        go_enter Try.func77, Try.ntmps77
        go_wp2_with fail
        refine Calls.mono (H3.out _ trivial) ?_
        rintro e w' ⟨rfl, hb⟩
        have HB := hd (below_alloc1 hb)
        clear hb
        go_wp2_with fail
        go_ret
        exact ⟨rfl, HB.out⟩
      · rw [if_neg c4]
        have q1 : ¬ k = 1 := fun q => c12 (.inl q)
        have q2 : ¬ k = 2 := fun q => c12 (.inr q)
        go_enter Try.func77, Try.ntmps77
        go_wp2_with fail
        go_ret
        exact ⟨rfl, (Below.refl _ _).alloc (Nat.le_refl _) _⟩
end Vt
end Go.Proofs.Ytifjjoobbegpoaa
