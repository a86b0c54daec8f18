/-
  THE REFERENCE OF LAYER 4: salvorref4.May of a Delete, of a record's frame.
-/
import Derived.Test.YtnjhbidialngmaaXhap
namespace Go.Proofs.Ytnjhbidialngmaa
open Go.RowKit
namespace Vt
set_option maxRecDepth 100000 in
set_option maxHeartbeats 4000000 in
theorem may_del (rl : Nat) (rkey rval : ByteArray) (pl : Nat) (pk pa pn : Int) (pkey : ByteArray) (ec eb ef : Int) (es : Nat) (w : World) (b1 b2 : Bool)
    (hp : ∀ w, (binOp .neq 27 (.agg #[.int .u64 (pl : Int), .int .i64 pk, .int .i64 pa, .int .i64 pn, .string pkey]) (.agg #[.int .u64 0, .int .i64 0, .int .i64 0, .int .i64 0, .string ⟨#[]⟩])).run Try.prog w = .ok (.bool b1) w)
    (he : ∀ w, (binOp .neq 32 (.agg #[.int .i64 ec, .int .i64 eb, .int .i64 ef, .int .u32 (es : Int)]) (.agg #[.int .i64 0, .int .i64 0, .int .i64 0, .int .u32 0])).run Try.prog w = .ok (.bool b2) w)
    (x0 x1 x2 x3 : Bool) (q0 : (((rl : Nat) : Int) == 0) = x0) (q1 : (((rkey.size : Nat) : Int) == 0) = x1) (q2 : decide ((64 : Int) < ((rkey.size : Nat) : Int)) = x2) (q3 : decide ((0 : Int) < ((rval.size : Nat) : Int)) = x3) (q3n : decide (0 < rval.size) = x3) :
    Calls Try.prog 29 #[.agg #[.int .i64 2, .int .u64 (rl : Int), .int .i64 2, .string rkey, .string rval, .int .u64 (pl : Int), .int .i64 pk, .int .i64 pa, .int .i64 pn, .string pkey, .int .i64 ec, .int .i64 eb, .int .i64 ef, .int .u32 (es : Int)]] w fun e w' => e = .returned (.int .i64 (if x0 then 47 else if x1 || x2 then 48 else if x3 then 49 else if b1 || b2 then 40 else 0)) ∧ Below w.heap.size w w' := by
  cases x3
  · have q4 : decide ((2048 : Int) < ((rval.size : Nat) : Int)) = false := by
      have := of_decide_eq_false q3n
      exact decide_eq_false (by omega)
    cases b1
    · cases b2
      all_goals (
        go_enter Try.func29, Try.ntmps29
        go_wp2_with fail
        cases x0 <;> cases x1 <;> cases x2
        all_goals go_wp2_with fail
        all_goals go_ret
        all_goals exact ⟨rfl, below_one _ _⟩)
    · go_enter Try.func29, Try.ntmps29
      go_wp2_with fail
      cases x0 <;> cases x1 <;> cases x2
      all_goals go_wp2_with fail
      all_goals go_ret
      all_goals exact ⟨rfl, below_one _ _⟩
  · cases b1
    · cases b2
      all_goals (
        go_enter Try.func29, Try.ntmps29
        go_wp2_with fail
        cases x0 <;> cases x1 <;> cases x2
        all_goals go_wp2_with fail
        all_goals go_ret
        all_goals exact ⟨rfl, below_one _ _⟩)
    · go_enter Try.func29, Try.ntmps29
      go_wp2_with fail
      cases x0 <;> cases x1 <;> cases x2
      all_goals go_wp2_with fail
      all_goals go_ret
      all_goals exact ⟨rfl, below_one _ _⟩
set_option maxRecDepth 100000 in
set_option maxHeartbeats 4000000 in
theorem may_3 (rl : Nat) (rkey rval : ByteArray) (w : World) :
    Calls Try.prog 29 #[.agg #[.int .i64 3, .int .u64 (rl : Int), .int .i64 3, .string rkey, .string rval, .int .u64 0, .int .i64 0, .int .i64 0, .int .i64 0, .string ByteArray.empty, .int .i64 0, .int .i64 0, .int .i64 0, .int .u32 0]] w fun e w' => e = .returned (.int .i64 46) ∧ Below w.heap.size w w' := by
  have HK := hd (r4_kindOf 0)
  go_enter Try.func29, Try.ntmps29
  go_wp2_with fail
  refine Calls.mono (HK.out _) ?_
  rintro e w' ⟨rfl, rfl⟩
  have q : decide ((0 : Int) = 1 ∨ (0 : Int) = 2) = false := rfl
  rw [q]
  go_wp2_with fail
  go_ret
  exact ⟨rfl, below_one _ _⟩
theorem rec4_neq (rl : Nat) (rkey rval : ByteArray) (w : World) : (binOp .neq 25 (.agg #[.int .u64 (rl : Int), .int .i64 4, .string rkey, .string rval]) (.agg #[.int .u64 0, .int .i64 0, .string ⟨#[]⟩, .string ⟨#[]⟩])).run Try.prog w = .ok (.bool true) w := by
  rw [run_neq_struct]
  have : (Op.equalIn 10000 25 (.agg #[.int .u64 (rl : Int), .int .i64 4, .string rkey, .string rval]) (.agg #[.int .u64 0, .int .i64 0, .string ⟨#[]⟩, .string ⟨#[]⟩])).run Try.prog w = .ok false w := by
    simp [go_sem, Op.eqFields]
  rw [this]; rfl
set_option maxRecDepth 100000 in
set_option maxHeartbeats 4000000 in
theorem may_4 (rl : Nat) (rkey rval : ByteArray) (w : World) :
    Calls Try.prog 29 #[.agg #[.int .i64 4, .int .u64 (rl : Int), .int .i64 4, .string rkey, .string rval, .int .u64 0, .int .i64 0, .int .i64 0, .int .i64 0, .string ByteArray.empty, .int .i64 0, .int .i64 0, .int .i64 0, .int .u32 0]] w fun e w' => e = .returned (.int .i64 40) ∧ Below w.heap.size w w' := by
  have hq := rec4_neq rl rkey rval
  have HI : Hid (∀ w, Calls Try.prog 62 #[.int .i64 0, .int .i64 0, .int .i64 4194304] w fun e w' => e = .returned (.bool true) ∧ w' = w) := fun w => r4_in 0 0 4194304 w
  go_enter Try.func29, Try.ntmps29
  go_wp2_with (go_at_call 62; refine Calls.mono (HI.out _) ?_; rintro e w' ⟨rfl, rfl⟩)
  go_ret
  exact ⟨rfl, below_one _ _⟩
set_option maxRecDepth 100000 in
set_option maxHeartbeats 4000000 in
theorem may_no (k : Int) (rl : Nat) (rkey rval : ByteArray) (w : World) (q1 : (k == 1) = false) (q2 : (k == 2) = false) (q3 : (k == 3) = false) (q4 : (k == 4) = false) :
    Calls Try.prog 29 #[.agg #[.int .i64 k, .int .u64 (rl : Int), .int .i64 k, .string rkey, .string rval, .int .u64 0, .int .i64 0, .int .i64 0, .int .i64 0, .string ByteArray.empty, .int .i64 0, .int .i64 0, .int .i64 0, .int .u32 0]] w fun e w' => e = .returned (.int .i64 46) ∧ Below w.heap.size w w' := by
  go_enter Try.func29, Try.ntmps29
  go_wp2_with fail
  go_ret
  exact ⟨rfl, below_one _ _⟩
theorem r4_may (r : Rec) (w : World) : Calls Try.prog 29 #[.agg (fv (ofR r))] w fun e w' => e = .returned (.int .i64 (rf (ofR r) : Int)) ∧ Below w.heap.size w w' := by
  obtain ⟨lsn, k, key, val⟩ := r
  have key48 : ∀ x1 x2 : Bool, (((key.size : Nat) : Int) == 0) = x1 → decide ((64 : Int) < ((key.size : Nat) : Int)) = x2 → ((x1 || x2) = true ↔ ¬ mayKey key) := by
    rintro x1 x2 rfl rfl
    unfold mayKey
    generalize key.size = n
    rw [Bool.or_eq_true, beq_iff_eq, decide_eq_true_iff]
    omega
  obtain ⟨x1, q1⟩ : ∃ x, (((key.size : Nat) : Int) == 0) = x := ⟨_, rfl⟩
  obtain ⟨x2, q2⟩ : ∃ x, decide ((64 : Int) < ((key.size : Nat) : Int)) = x := ⟨_, rfl⟩
  have h48 := key48 x1 x2 q1 q2
  clear key48
  unfold rf rfR rfP rfE
  by_cases h1 : k = 1
  · subst h1
    have H := may_put lsn key val 0 0 0 0 ByteArray.empty 0 0 0 0 w false false (fun w => by rw [run_neq_struct]; simp [go_sem, Op.eqFields]) (fun w => by rw [run_neq_struct]; simp [go_sem, Op.eqFields]) _ x1 x2 _ rfl q1 q2 rfl
    refine Calls.mono H ?_
    rintro e w' ⟨rfl, hb⟩
    refine ⟨?_, hb⟩
    congr 2
    by_cases c0 : lsn = 0
    · simp [ofR, c0]
    · have c0' : ¬ (((lsn : Nat) : Int) == 0) = true := by rw [beq_iff_eq]; omega
      rw [if_neg c0']
      by_cases c1 : mayKey key
      · have : ¬ (x1 || x2) = true := fun q => (h48.1 q) c1
        rw [if_neg this]
        by_cases c2 : 2048 < val.size
        · rw [if_pos (decide_eq_true (by omega))]
          simp [ofR, c0, c1, c2]
        · rw [if_neg (fun q => by have := of_decide_eq_true q; omega)]
          simp [ofR, c0, c1, c2]
      · rw [if_pos (h48.2 c1)]
        simp [ofR, c0, c1]
  · by_cases h2 : k = 2
    · subst h2
      have H := may_del lsn key val 0 0 0 0 ByteArray.empty 0 0 0 0 w false false (fun w => by rw [run_neq_struct]; simp [go_sem, Op.eqFields]) (fun w => by rw [run_neq_struct]; simp [go_sem, Op.eqFields]) _ x1 x2 _ rfl q1 q2 rfl (by rw [decide_eq_decide]; omega)
      refine Calls.mono H ?_
      rintro e w' ⟨rfl, hb⟩
      refine ⟨?_, hb⟩
      congr 2
      by_cases c0 : lsn = 0
      · simp [ofR, c0]
      · have c0' : ¬ (((lsn : Nat) : Int) == 0) = true := by rw [beq_iff_eq]; omega
        rw [if_neg c0']
        by_cases c1 : mayKey key
        · have : ¬ (x1 || x2) = true := fun q => (h48.1 q) c1
          rw [if_neg this]
          by_cases c2 : 0 < val.size
          · rw [if_pos (decide_eq_true (by omega))]
            simp [ofR, c0, c1, c2]
          · rw [if_neg (fun q => by have := of_decide_eq_true q; omega)]
            simp [ofR, c0, c1, c2]
        · rw [if_pos (h48.2 c1)]
          simp [ofR, c0, c1]
    · by_cases h3 : k = 3
      · subst h3
        refine Calls.mono (may_3 lsn key val w) ?_
        rintro e w' ⟨rfl, hb⟩
        exact ⟨by simp [ofR, zp], hb⟩
      · by_cases h4 : k = 4
        · subst h4
          refine Calls.mono (may_4 lsn key val w) ?_
          rintro e w' ⟨rfl, hb⟩
          refine ⟨?_, hb⟩
          simp [ofR, ze, onD, zr]
        · refine Calls.mono (may_no k lsn key val w (by simpa using h1) (by simpa using h2) (by simpa using h3) (by simpa using h4)) ?_
          rintro e w' ⟨rfl, hb⟩
          exact ⟨by simp [ofR, h1, h2, h3, h4], hb⟩
end Vt
end Go.Proofs.Ytnjhbidialngmaa
