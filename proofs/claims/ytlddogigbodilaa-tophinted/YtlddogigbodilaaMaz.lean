/-
  THE REFERENCE OF LAYER 4: salvorref4.May of a Put's or a Delete's frame.
  THE REFERENCE OF LAYER 4: salvorref4.May of a Delete, of a record's frame.
  THE REFERENCE OF LAYER 4: May of a pointer's frame, of an ending's frame, of a frame of no kind.
-/
import Derived.Test.YtlddogigbodilaaMay
namespace Go.Proofs.Ytlddogigbodilaa
open Go.RowKit
namespace Vt
theorem ba_inj {a b : ByteArray} (e : a.toList = b.toList) : a = b := by
  rw [ByteArray.toList_eq, ByteArray.toList_eq] at e
  exact Go.WideShapes.bytes_inj e
theorem ptr_any (p : Ptr) : ∃ b : Bool, (∀ w, (binOp .neq 34 (.agg #[.int .u64 (p.lsn : Int), .int .i64 p.kind, .int .i64 p.at_, .int .i64 p.len, .string p.key]) (.agg #[.int .u64 0, .int .i64 0, .int .i64 0, .int .i64 0, .string ⟨#[]⟩])).run Try.prog w = .ok (.bool b) w) ∧ (b = false ↔ p = zp) := by
  obtain ⟨a1, a2, a3, a4, a5⟩ := p
  by_cases h : (⟨a1, a2, a3, a4, a5⟩ : Ptr) = zp
  · refine ⟨false, fun w => ?_, by simp [h]⟩
    have h1 : a1 = 0 := congrArg Ptr.lsn h
    have h2 : a2 = 0 := congrArg Ptr.kind h
    have h3 : a3 = 0 := congrArg Ptr.at_ h
    have h4 : a4 = 0 := congrArg Ptr.len h
    have h5 : a5 = ⟨#[]⟩ := congrArg Ptr.key h
    subst h1 h2 h3 h4 h5
    rw [run_neq_struct]
    simp [go_sem, Op.eqFields]
  · refine ⟨true, fun w => ?_, by simp [h]⟩
    rw [run_neq_struct]
    have : (Op.equalIn 10000 34 (.agg #[.int .u64 (a1 : Int), .int .i64 a2, .int .i64 a3, .int .i64 a4, .string a5]) (.agg #[.int .u64 0, .int .i64 0, .int .i64 0, .int .i64 0, .string ⟨#[]⟩])).run Try.prog w = .ok false w := by
      simp [go_sem, Op.eqFields]
      intro h1 h2 h3 h4 h5
      apply h
      unfold zp
      rw [show a1 = 0 by omega, h2, h3, h4, show a5 = ByteArray.empty from ba_inj (h5.trans (by simp [ByteArray.toList_eq]))]
    rw [this]; rfl
theorem edg_any (p : Edg) : ∃ b : Bool, (∀ w, (binOp .neq 39 (.agg #[.int .i64 p.count, .int .i64 p.bytes, .int .i64 p.frames, .int .u32 (p.sum : Int)]) (.agg #[.int .i64 0, .int .i64 0, .int .i64 0, .int .u32 0])).run Try.prog w = .ok (.bool b) w) ∧ (b = false ↔ p = ze) := by
  obtain ⟨a1, a2, a3, a4⟩ := p
  by_cases h : (⟨a1, a2, a3, a4⟩ : Edg) = ze
  · refine ⟨false, fun w => ?_, by simp [h]⟩
    have h1 : a1 = 0 := congrArg Edg.count h
    have h2 : a2 = 0 := congrArg Edg.bytes h
    have h3 : a3 = 0 := congrArg Edg.frames h
    have h4 : a4 = 0 := congrArg Edg.sum h
    subst h1 h2 h3 h4
    rw [run_neq_struct]
    simp [go_sem, Op.eqFields]
  · refine ⟨true, fun w => ?_, by simp [h]⟩
    rw [run_neq_struct]
    have : (Op.equalIn 10000 39 (.agg #[.int .i64 a1, .int .i64 a2, .int .i64 a3, .int .u32 (a4 : Int)]) (.agg #[.int .i64 0, .int .i64 0, .int .i64 0, .int .u32 0])).run Try.prog w = .ok false w := by
      simp [go_sem, Op.eqFields]
      intro h1 h2 h3 h4
      apply h
      unfold ze
      rw [h1, h2, h3, show a4 = 0 by omega]
    rw [this]; rfl
theorem below_one (w : World) (A : Obj) : Below w.heap.size w (w.alloc A) := (Below.refl _ _).alloc (Nat.le_refl _) _
set_option maxRecDepth 100000 in
set_option maxHeartbeats 4000000 in
theorem may_46 (k : Int) (rl : Nat) (rk : Int) (rkey rval : ByteArray) (pl : Nat) (pk pa pn : Int) (pkey : ByteArray) (ec eb ef : Int) (es : Nat) (w : World) (hk : k = 1 ∨ k = 2) (q : (rk != k) = true) :
    Calls Try.prog 95 #[.agg #[.int .i64 k, .int .u64 (rl : Int), .int .i64 rk, .string rkey, .string rval, .int .u64 (pl : Int), .int .i64 pk, .int .i64 pa, .int .i64 pn, .string pkey, .int .i64 ec, .int .i64 eb, .int .i64 ef, .int .u32 (es : Int)]] w fun e w' => e = .returned (.int .i64 46) ∧ Below w.heap.size w w' := by
  rcases hk with rfl | rfl
  all_goals (
    go_enter Try.func95, Try.ntmps95
    go_wp2_with fail
    go_ret
    exact ⟨rfl, below_one _ _⟩)
set_option maxRecDepth 100000 in
set_option maxHeartbeats 4000000 in
theorem may_put (rl : Nat) (rkey rval : ByteArray) (pl : Nat) (pk pa pn : Int) (pkey : ByteArray) (ec eb ef : Int) (es : Nat) (w : World) (b1 b2 : Bool)
    (hp : ∀ w, (binOp .neq 34 (.agg #[.int .u64 (pl : Int), .int .i64 pk, .int .i64 pa, .int .i64 pn, .string pkey]) (.agg #[.int .u64 0, .int .i64 0, .int .i64 0, .int .i64 0, .string ⟨#[]⟩])).run Try.prog w = .ok (.bool b1) w)
    (he : ∀ w, (binOp .neq 39 (.agg #[.int .i64 ec, .int .i64 eb, .int .i64 ef, .int .u32 (es : Int)]) (.agg #[.int .i64 0, .int .i64 0, .int .i64 0, .int .u32 0])).run Try.prog w = .ok (.bool b2) w)
    (x0 x1 x2 x3 : Bool) (q0 : (((rl : Nat) : Int) == 0) = x0) (q1 : (((rkey.size : Nat) : Int) == 0) = x1) (q2 : decide ((64 : Int) < ((rkey.size : Nat) : Int)) = x2) (q3 : decide ((2048 : Int) < ((rval.size : Nat) : Int)) = x3) :
    Calls Try.prog 95 #[.agg #[.int .i64 1, .int .u64 (rl : Int), .int .i64 1, .string rkey, .string rval, .int .u64 (pl : Int), .int .i64 pk, .int .i64 pa, .int .i64 pn, .string pkey, .int .i64 ec, .int .i64 eb, .int .i64 ef, .int .u32 (es : Int)]] w fun e w' => e = .returned (.int .i64 (if x0 then 47 else if x1 || x2 then 48 else if x3 then 49 else if b1 || b2 then 40 else 0)) ∧ Below w.heap.size w w' := by
  cases b1
  · cases b2
    all_goals (
      go_enter Try.func95, Try.ntmps95
      go_wp2_with fail
      cases x0 <;> cases x1 <;> cases x2 <;> cases x3
      all_goals go_wp2_with fail
      all_goals go_ret
      all_goals exact ⟨rfl, below_one _ _⟩)
  · go_enter Try.func95, Try.ntmps95
    go_wp2_with fail
    cases x0 <;> cases x1 <;> cases x2 <;> cases x3
    all_goals go_wp2_with fail
    all_goals go_ret
    all_goals exact ⟨rfl, below_one _ _⟩
end Vt
end Go.Proofs.Ytlddogigbodilaa
namespace Go.Proofs.Ytlddogigbodilaa
open Go.RowKit
namespace Vt
set_option maxRecDepth 100000 in
set_option maxHeartbeats 4000000 in
theorem may_del (rl : Nat) (rkey rval : ByteArray) (pl : Nat) (pk pa pn : Int) (pkey : ByteArray) (ec eb ef : Int) (es : Nat) (w : World) (b1 b2 : Bool)
    (hp : ∀ w, (binOp .neq 34 (.agg #[.int .u64 (pl : Int), .int .i64 pk, .int .i64 pa, .int .i64 pn, .string pkey]) (.agg #[.int .u64 0, .int .i64 0, .int .i64 0, .int .i64 0, .string ⟨#[]⟩])).run Try.prog w = .ok (.bool b1) w)
    (he : ∀ w, (binOp .neq 39 (.agg #[.int .i64 ec, .int .i64 eb, .int .i64 ef, .int .u32 (es : Int)]) (.agg #[.int .i64 0, .int .i64 0, .int .i64 0, .int .u32 0])).run Try.prog w = .ok (.bool b2) w)
    (x0 x1 x2 x3 : Bool) (q0 : (((rl : Nat) : Int) == 0) = x0) (q1 : (((rkey.size : Nat) : Int) == 0) = x1) (q2 : decide ((64 : Int) < ((rkey.size : Nat) : Int)) = x2) (q3 : decide ((0 : Int) < ((rval.size : Nat) : Int)) = x3) (q3n : decide (0 < rval.size) = x3) :
    Calls Try.prog 95 #[.agg #[.int .i64 2, .int .u64 (rl : Int), .int .i64 2, .string rkey, .string rval, .int .u64 (pl : Int), .int .i64 pk, .int .i64 pa, .int .i64 pn, .string pkey, .int .i64 ec, .int .i64 eb, .int .i64 ef, .int .u32 (es : Int)]] w fun e w' => e = .returned (.int .i64 (if x0 then 47 else if x1 || x2 then 48 else if x3 then 49 else if b1 || b2 then 40 else 0)) ∧ Below w.heap.size w w' := by
  cases x3
  · have q4 : decide ((2048 : Int) < ((rval.size : Nat) : Int)) = false := by
      have := of_decide_eq_false q3n
      exact decide_eq_false (by omega)
    cases b1
    · cases b2
      all_goals (
        go_enter Try.func95, Try.ntmps95
        go_wp2_with fail
        cases x0 <;> cases x1 <;> cases x2
        all_goals go_wp2_with fail
        all_goals go_ret
        all_goals exact ⟨rfl, below_one _ _⟩)
    · go_enter Try.func95, Try.ntmps95
      go_wp2_with fail
      cases x0 <;> cases x1 <;> cases x2
      all_goals go_wp2_with fail
      all_goals go_ret
      all_goals exact ⟨rfl, below_one _ _⟩
  · cases b1
    · cases b2
      all_goals (
        go_enter Try.func95, Try.ntmps95
        go_wp2_with fail
        cases x0 <;> cases x1 <;> cases x2
        all_goals go_wp2_with fail
        all_goals go_ret
        all_goals exact ⟨rfl, below_one _ _⟩)
    · go_enter Try.func95, Try.ntmps95
      go_wp2_with fail
      cases x0 <;> cases x1 <;> cases x2
      all_goals go_wp2_with fail
      all_goals go_ret
      all_goals exact ⟨rfl, below_one _ _⟩
set_option maxRecDepth 100000 in
set_option maxHeartbeats 4000000 in
theorem may_3 (rl : Nat) (rkey rval : ByteArray) (w : World) :
    Calls Try.prog 95 #[.agg #[.int .i64 3, .int .u64 (rl : Int), .int .i64 3, .string rkey, .string rval, .int .u64 0, .int .i64 0, .int .i64 0, .int .i64 0, .string ByteArray.empty, .int .i64 0, .int .i64 0, .int .i64 0, .int .u32 0]] w fun e w' => e = .returned (.int .i64 46) ∧ Below w.heap.size w w' := by
  have HK := hd (r4_kindOf 0)
  go_enter Try.func95, Try.ntmps95
  go_wp2_with fail
  refine Calls.mono (HK.out _) ?_
  rintro e w' ⟨rfl, rfl⟩
  have q : decide ((0 : Int) = 1 ∨ (0 : Int) = 2) = false := rfl
  rw [q]
  go_wp2_with fail
  go_ret
  exact ⟨rfl, below_one _ _⟩
theorem rec4_neq (rl : Nat) (rkey rval : ByteArray) (w : World) : (binOp .neq 32 (.agg #[.int .u64 (rl : Int), .int .i64 4, .string rkey, .string rval]) (.agg #[.int .u64 0, .int .i64 0, .string ⟨#[]⟩, .string ⟨#[]⟩])).run Try.prog w = .ok (.bool true) w := by
  rw [run_neq_struct]
  have : (Op.equalIn 10000 32 (.agg #[.int .u64 (rl : Int), .int .i64 4, .string rkey, .string rval]) (.agg #[.int .u64 0, .int .i64 0, .string ⟨#[]⟩, .string ⟨#[]⟩])).run Try.prog w = .ok false w := by
    simp [go_sem, Op.eqFields]
  rw [this]; rfl
set_option maxRecDepth 100000 in
set_option maxHeartbeats 4000000 in
theorem may_4 (rl : Nat) (rkey rval : ByteArray) (w : World) :
    Calls Try.prog 95 #[.agg #[.int .i64 4, .int .u64 (rl : Int), .int .i64 4, .string rkey, .string rval, .int .u64 0, .int .i64 0, .int .i64 0, .int .i64 0, .string ByteArray.empty, .int .i64 0, .int .i64 0, .int .i64 0, .int .u32 0]] w fun e w' => e = .returned (.int .i64 40) ∧ Below w.heap.size w w' := by
  have hq := rec4_neq rl rkey rval
  have HI : Hid (∀ w, Calls Try.prog 110 #[.int .i64 0, .int .i64 0, .int .i64 4194304] w fun e w' => e = .returned (.bool true) ∧ w' = w) := fun w => r4_in 0 0 4194304 w
  go_enter Try.func95, Try.ntmps95
  go_wp2_with (go_at_call 110; refine Calls.mono (HI.out _) ?_; rintro e w' ⟨rfl, rfl⟩)
  go_ret
  exact ⟨rfl, below_one _ _⟩
set_option maxRecDepth 100000 in
set_option maxHeartbeats 4000000 in
theorem may_no (k : Int) (rl : Nat) (rkey rval : ByteArray) (w : World) (q1 : (k == 1) = false) (q2 : (k == 2) = false) (q3 : (k == 3) = false) (q4 : (k == 4) = false) :
    Calls Try.prog 95 #[.agg #[.int .i64 k, .int .u64 (rl : Int), .int .i64 k, .string rkey, .string rval, .int .u64 0, .int .i64 0, .int .i64 0, .int .i64 0, .string ByteArray.empty, .int .i64 0, .int .i64 0, .int .i64 0, .int .u32 0]] w fun e w' => e = .returned (.int .i64 46) ∧ Below w.heap.size w w' := by
  go_enter Try.func95, Try.ntmps95
  go_wp2_with fail
  go_ret
  exact ⟨rfl, below_one _ _⟩
theorem r4_may (r : Rec) (w : World) : Calls Try.prog 95 #[.agg (fv (ofR r))] w fun e w' => e = .returned (.int .i64 (rf (ofR r) : Int)) ∧ Below w.heap.size w w' := by
  obtain ⟨lsn, k, key, val⟩ := r
  have key48 : ∀ x1 x2 : Bool, (((key.size : Nat) : Int) == 0) = x1 → decide ((64 : Int) < ((key.size : Nat) : Int)) = x2 → ((x1 || x2) = true ↔ ¬ mayKey key) := by
    rintro x1 x2 rfl rfl
    unfold mayKey
    generalize key.size = n
    rw [Bool.or_eq_true, beq_iff_eq, decide_eq_true_iff]
    omega
  obtain ⟨x1, q1⟩ : ∃ x, (((key.size : Nat) : Int) == 0) = x := ⟨_, rfl⟩
  obtain ⟨x2, q2⟩ : ∃ x, decide ((64 : Int) < ((key.size : Nat) : Int)) = x := ⟨_, rfl⟩
  have h48 := key48 x1 x2 q1 q2
  clear key48
  unfold rf rfR rfP rfE
  by_cases h1 : k = 1
  · subst h1
    have H := may_put lsn key val 0 0 0 0 ByteArray.empty 0 0 0 0 w false false (fun w => by rw [run_neq_struct]; simp [go_sem, Op.eqFields]) (fun w => by rw [run_neq_struct]; simp [go_sem, Op.eqFields]) _ x1 x2 _ rfl q1 q2 rfl
    refine Calls.mono H ?_
    rintro e w' ⟨rfl, hb⟩
    refine ⟨?_, hb⟩
    congr 2
    by_cases c0 : lsn = 0
    · simp [ofR, c0]
    · have c0' : ¬ (((lsn : Nat) : Int) == 0) = true := by rw [beq_iff_eq]; omega
      rw [if_neg c0']
      by_cases c1 : mayKey key
      · have : ¬ (x1 || x2) = true := fun q => (h48.1 q) c1
        rw [if_neg this]
        by_cases c2 : 2048 < val.size
        · rw [if_pos (decide_eq_true (by omega))]
          simp [ofR, c0, c1, c2]
        · rw [if_neg (fun q => by have := of_decide_eq_true q; omega)]
          simp [ofR, c0, c1, c2]
      · rw [if_pos (h48.2 c1)]
        simp [ofR, c0, c1]
  · by_cases h2 : k = 2
    · subst h2
      have H := may_del lsn key val 0 0 0 0 ByteArray.empty 0 0 0 0 w false false (fun w => by rw [run_neq_struct]; simp [go_sem, Op.eqFields]) (fun w => by rw [run_neq_struct]; simp [go_sem, Op.eqFields]) _ x1 x2 _ rfl q1 q2 rfl (by rw [decide_eq_decide]; omega)
      refine Calls.mono H ?_
      rintro e w' ⟨rfl, hb⟩
      refine ⟨?_, hb⟩
      congr 2
      by_cases c0 : lsn = 0
      · simp [ofR, c0]
      · have c0' : ¬ (((lsn : Nat) : Int) == 0) = true := by rw [beq_iff_eq]; omega
        rw [if_neg c0']
        by_cases c1 : mayKey key
        · have : ¬ (x1 || x2) = true := fun q => (h48.1 q) c1
          rw [if_neg this]
          by_cases c2 : 0 < val.size
          · rw [if_pos (decide_eq_true (by omega))]
            simp [ofR, c0, c1, c2]
          · rw [if_neg (fun q => by have := of_decide_eq_true q; omega)]
            simp [ofR, c0, c1, c2]
        · rw [if_pos (h48.2 c1)]
          simp [ofR, c0, c1]
    · by_cases h3 : k = 3
      · subst h3
        refine Calls.mono (may_3 lsn key val w) ?_
        rintro e w' ⟨rfl, hb⟩
        exact ⟨by simp [ofR, zp], hb⟩
      · by_cases h4 : k = 4
        · subst h4
          refine Calls.mono (may_4 lsn key val w) ?_
          rintro e w' ⟨rfl, hb⟩
          refine ⟨?_, hb⟩
          simp [ofR, ze, onD, zr]
        · refine Calls.mono (may_no k lsn key val w (by simpa using h1) (by simpa using h2) (by simpa using h3) (by simpa using h4)) ?_
          rintro e w' ⟨rfl, hb⟩
          exact ⟨by simp [ofR, h1, h2, h3, h4], hb⟩
end Vt
end Go.Proofs.Ytlddogigbodilaa
namespace Go.Proofs.Ytlddogigbodilaa
open Go.RowKit
namespace Vt
/-- the frame of a pointer, of an ending (as the hint chapter has them) -/
def hfrQ (p : Ptr) : Fr := ⟨3, zr, p, ze⟩
def ffrQ (e : Edg) : Fr := ⟨4, zr, zp, e⟩
theorem rec0_neq (w : World) : (binOp .neq 32 (.agg #[.int .u64 0, .int .i64 0, .string ⟨#[]⟩, .string ⟨#[]⟩]) (.agg #[.int .u64 0, .int .i64 0, .string ⟨#[]⟩, .string ⟨#[]⟩])).run Try.prog w = .ok (.bool false) w := by kernel_rfl
theorem ptr0_neq (w : World) : (binOp .neq 34 (.agg #[.int .u64 0, .int .i64 0, .int .i64 0, .int .i64 0, .string ⟨#[]⟩]) (.agg #[.int .u64 0, .int .i64 0, .int .i64 0, .int .i64 0, .string ⟨#[]⟩])).run Try.prog w = .ok (.bool false) w := by kernel_rfl
theorem edg0_neq (w : World) : (binOp .neq 39 (.agg #[.int .i64 0, .int .i64 0, .int .i64 0, .int .u32 0]) (.agg #[.int .i64 0, .int .i64 0, .int .i64 0, .int .u32 0])).run Try.prog w = .ok (.bool false) w := by kernel_rfl
theorem rf_hint (p : Ptr) : rf (hfrQ p) = if p.kind ≠ 1 ∧ p.kind ≠ 2 then 46 else if p.lsn = 0 then 47 else if ¬ (1 ≤ p.key.size ∧ p.key.size ≤ 64) then 48 else if ¬ ((0 ≤ p.at_ ∧ p.at_ ≤ 4194304) ∧ 1 ≤ p.len ∧ p.len ≤ 4194304) then 40 else 0 := by
  unfold rf rfP hfrQ mayKey onD
  simp only
  rw [if_neg (by omega), if_pos trivial]
  by_cases h1 : p.kind ≠ 1 ∧ p.kind ≠ 2
  · rw [if_pos h1, if_pos h1]
  · rw [if_neg h1, if_neg h1]
    by_cases h2 : p.lsn = 0
    · rw [if_pos h2, if_pos h2]
    · rw [if_neg h2, if_neg h2]
      by_cases h3 : ¬ (1 ≤ p.key.size ∧ p.key.size ≤ 64)
      · rw [if_pos h3, if_pos h3]
      · rw [if_neg h3, if_neg h3]
        by_cases h4 : (0 ≤ p.at_ ∧ p.at_ ≤ 4194304) ∧ 1 ≤ p.len ∧ p.len ≤ 4194304
        · rw [if_neg (by omega), if_neg (by simp), if_neg (fun q => q h4)]
        · rw [if_pos (by omega), if_pos h4]
--WALKS
attribute [local go_sem] Oper.semAt_some
set_option maxRecDepth 100000 in
set_option maxHeartbeats 2000000 in
theorem may_hint_kind (pl : Nat) (pk pa pn : Int) (pkey : ByteArray) (w : World) (hk : ¬ (pk = 1 ∨ pk = 2)) :
    Calls Try.prog 95 #[.agg #[.int .i64 3, .int .u64 0, .int .i64 0, .string ⟨#[]⟩, .string ⟨#[]⟩, .int .u64 (pl : Int), .int .i64 pk, .int .i64 pa, .int .i64 pn, .string pkey, .int .i64 0, .int .i64 0, .int .i64 0, .int .u32 0]] w fun e w' => e = .returned (.int .i64 46) ∧ Below w.heap.size w w' := by
  have hmx : Try.prog.follows .mixedOrders = true := by kernel_rfl
  have n1 := rec0_neq
  have n2 := edg0_neq
  have HK := hd (r4_kindOf pk)
  have H1 := hd (r4_in pa 0 4194304)
  have H2 := hd (r4_in pn 1 4194304)
  rw [decide_eq_false hk] at HK
  clear hk
  go_enter Try.func95, Try.ntmps95
  go_wp2_with fail
  refine Calls.mono (HK.out _) ?_
  rintro e w1 ⟨rfl, rfl⟩
  go_wp2_with fail
  go_ret
  exact ⟨rfl, below_one _ _⟩
set_option maxRecDepth 100000 in
set_option maxHeartbeats 2000000 in
theorem may_hint_0tt (pl : Nat) (pk pa pn : Int) (pkey : ByteArray) (w : World) (hk : pk = 1 ∨ pk = 2) (q0 : ((pl : Int) == 0) = true) (hb1 : (0 ≤ pa ∧ pa ≤ 4194304)) (hb2 : (1 ≤ pn ∧ pn ≤ 4194304)) :
    Calls Try.prog 95 #[.agg #[.int .i64 3, .int .u64 0, .int .i64 0, .string ⟨#[]⟩, .string ⟨#[]⟩, .int .u64 (pl : Int), .int .i64 pk, .int .i64 pa, .int .i64 pn, .string pkey, .int .i64 0, .int .i64 0, .int .i64 0, .int .u32 0]] w fun e w' => e = .returned (.int .i64 47) ∧ Below w.heap.size w w' := by
  have hmx : Try.prog.follows .mixedOrders = true := by kernel_rfl
  have n1 := rec0_neq
  have n2 := edg0_neq
  have HK := hd (r4_kindOf pk)
  have H1 := hd (r4_in pa 0 4194304)
  have H2 := hd (r4_in pn 1 4194304)
  rw [decide_eq_true hk] at HK
  rw [decide_eq_true hb1] at H1
  rw [decide_eq_true hb2] at H2
  clear hk hb1 hb2
  go_enter Try.func95, Try.ntmps95
  go_wp2_with fail
  refine Calls.mono (HK.out _) ?_
  rintro e w1 ⟨rfl, rfl⟩
  go_wp2_with fail
  refine Calls.mono (H1.out _) ?_
  rintro e w1 ⟨rfl, rfl⟩
  go_wp2_with fail
  refine Calls.mono (H2.out _) ?_
  rintro e w1 ⟨rfl, rfl⟩
  go_wp2_with fail
  go_ret
  exact ⟨rfl, below_one _ _⟩
set_option maxRecDepth 100000 in
set_option maxHeartbeats 2000000 in
theorem may_hint_0tf (pl : Nat) (pk pa pn : Int) (pkey : ByteArray) (w : World) (hk : pk = 1 ∨ pk = 2) (q0 : ((pl : Int) == 0) = true) (hb1 : (0 ≤ pa ∧ pa ≤ 4194304)) (hb2 : ¬ (1 ≤ pn ∧ pn ≤ 4194304)) :
    Calls Try.prog 95 #[.agg #[.int .i64 3, .int .u64 0, .int .i64 0, .string ⟨#[]⟩, .string ⟨#[]⟩, .int .u64 (pl : Int), .int .i64 pk, .int .i64 pa, .int .i64 pn, .string pkey, .int .i64 0, .int .i64 0, .int .i64 0, .int .u32 0]] w fun e w' => e = .returned (.int .i64 47) ∧ Below w.heap.size w w' := by
  have hmx : Try.prog.follows .mixedOrders = true := by kernel_rfl
  have n1 := rec0_neq
  have n2 := edg0_neq
  have HK := hd (r4_kindOf pk)
  have H1 := hd (r4_in pa 0 4194304)
  have H2 := hd (r4_in pn 1 4194304)
  rw [decide_eq_true hk] at HK
  rw [decide_eq_true hb1] at H1
  rw [decide_eq_false hb2] at H2
  clear hk hb1 hb2
  go_enter Try.func95, Try.ntmps95
  go_wp2_with fail
  refine Calls.mono (HK.out _) ?_
  rintro e w1 ⟨rfl, rfl⟩
  go_wp2_with fail
  refine Calls.mono (H1.out _) ?_
  rintro e w1 ⟨rfl, rfl⟩
  go_wp2_with fail
  refine Calls.mono (H2.out _) ?_
  rintro e w1 ⟨rfl, rfl⟩
  go_wp2_with fail
  go_ret
  exact ⟨rfl, below_one _ _⟩
set_option maxRecDepth 100000 in
set_option maxHeartbeats 2000000 in
theorem may_hint_0ft (pl : Nat) (pk pa pn : Int) (pkey : ByteArray) (w : World) (hk : pk = 1 ∨ pk = 2) (q0 : ((pl : Int) == 0) = true) (hb1 : ¬ (0 ≤ pa ∧ pa ≤ 4194304)) :
    Calls Try.prog 95 #[.agg #[.int .i64 3, .int .u64 0, .int .i64 0, .string ⟨#[]⟩, .string ⟨#[]⟩, .int .u64 (pl : Int), .int .i64 pk, .int .i64 pa, .int .i64 pn, .string pkey, .int .i64 0, .int .i64 0, .int .i64 0, .int .u32 0]] w fun e w' => e = .returned (.int .i64 47) ∧ Below w.heap.size w w' := by
  have hmx : Try.prog.follows .mixedOrders = true := by kernel_rfl
  have n1 := rec0_neq
  have n2 := edg0_neq
  have HK := hd (r4_kindOf pk)
  have H1 := hd (r4_in pa 0 4194304)
  have H2 := hd (r4_in pn 1 4194304)
  rw [decide_eq_true hk] at HK
  rw [decide_eq_false hb1] at H1
  generalize decide (1 ≤ pn ∧ pn ≤ 4194304) = b2 at H2
  clear hk hb1
  go_enter Try.func95, Try.ntmps95
  go_wp2_with fail
  refine Calls.mono (HK.out _) ?_
  rintro e w1 ⟨rfl, rfl⟩
  go_wp2_with fail
  refine Calls.mono (H1.out _) ?_
  rintro e w1 ⟨rfl, rfl⟩
  go_wp2_with fail
  refine Calls.mono (H2.out _) ?_
  rintro e w1 ⟨rfl, rfl⟩
  go_wp2_with fail
  go_ret
  exact ⟨rfl, below_one _ _⟩
set_option maxRecDepth 100000 in
set_option maxHeartbeats 2000000 in
theorem may_hint_1tt (pl : Nat) (pk pa pn : Int) (pkey : ByteArray) (w : World) (hk : pk = 1 ∨ pk = 2) (q0 : ((pl : Int) == 0) = false) (q1 : ((pkey.size : Int) == 0) = true) (hb1 : (0 ≤ pa ∧ pa ≤ 4194304)) (hb2 : (1 ≤ pn ∧ pn ≤ 4194304)) :
    Calls Try.prog 95 #[.agg #[.int .i64 3, .int .u64 0, .int .i64 0, .string ⟨#[]⟩, .string ⟨#[]⟩, .int .u64 (pl : Int), .int .i64 pk, .int .i64 pa, .int .i64 pn, .string pkey, .int .i64 0, .int .i64 0, .int .i64 0, .int .u32 0]] w fun e w' => e = .returned (.int .i64 48) ∧ Below w.heap.size w w' := by
  have hmx : Try.prog.follows .mixedOrders = true := by kernel_rfl
  have n1 := rec0_neq
  have n2 := edg0_neq
  have HK := hd (r4_kindOf pk)
  have H1 := hd (r4_in pa 0 4194304)
  have H2 := hd (r4_in pn 1 4194304)
  rw [decide_eq_true hk] at HK
  rw [decide_eq_true hb1] at H1
  rw [decide_eq_true hb2] at H2
  clear hk hb1 hb2
  go_enter Try.func95, Try.ntmps95
  go_wp2_with fail
  refine Calls.mono (HK.out _) ?_
  rintro e w1 ⟨rfl, rfl⟩
  go_wp2_with fail
  refine Calls.mono (H1.out _) ?_
  rintro e w1 ⟨rfl, rfl⟩
  go_wp2_with fail
  refine Calls.mono (H2.out _) ?_
  rintro e w1 ⟨rfl, rfl⟩
  go_wp2_with fail
  go_ret
  exact ⟨rfl, below_one _ _⟩
set_option maxRecDepth 100000 in
set_option maxHeartbeats 2000000 in
theorem may_hint_1tf (pl : Nat) (pk pa pn : Int) (pkey : ByteArray) (w : World) (hk : pk = 1 ∨ pk = 2) (q0 : ((pl : Int) == 0) = false) (q1 : ((pkey.size : Int) == 0) = true) (hb1 : (0 ≤ pa ∧ pa ≤ 4194304)) (hb2 : ¬ (1 ≤ pn ∧ pn ≤ 4194304)) :
    Calls Try.prog 95 #[.agg #[.int .i64 3, .int .u64 0, .int .i64 0, .string ⟨#[]⟩, .string ⟨#[]⟩, .int .u64 (pl : Int), .int .i64 pk, .int .i64 pa, .int .i64 pn, .string pkey, .int .i64 0, .int .i64 0, .int .i64 0, .int .u32 0]] w fun e w' => e = .returned (.int .i64 48) ∧ Below w.heap.size w w' := by
  have hmx : Try.prog.follows .mixedOrders = true := by kernel_rfl
  have n1 := rec0_neq
  have n2 := edg0_neq
  have HK := hd (r4_kindOf pk)
  have H1 := hd (r4_in pa 0 4194304)
  have H2 := hd (r4_in pn 1 4194304)
  rw [decide_eq_true hk] at HK
  rw [decide_eq_true hb1] at H1
  rw [decide_eq_false hb2] at H2
  clear hk hb1 hb2
  go_enter Try.func95, Try.ntmps95
  go_wp2_with fail
  refine Calls.mono (HK.out _) ?_
  rintro e w1 ⟨rfl, rfl⟩
  go_wp2_with fail
  refine Calls.mono (H1.out _) ?_
  rintro e w1 ⟨rfl, rfl⟩
  go_wp2_with fail
  refine Calls.mono (H2.out _) ?_
  rintro e w1 ⟨rfl, rfl⟩
  go_wp2_with fail
  go_ret
  exact ⟨rfl, below_one _ _⟩
set_option maxRecDepth 100000 in
set_option maxHeartbeats 2000000 in
theorem may_hint_1ft (pl : Nat) (pk pa pn : Int) (pkey : ByteArray) (w : World) (hk : pk = 1 ∨ pk = 2) (q0 : ((pl : Int) == 0) = false) (q1 : ((pkey.size : Int) == 0) = true) (hb1 : ¬ (0 ≤ pa ∧ pa ≤ 4194304)) :
    Calls Try.prog 95 #[.agg #[.int .i64 3, .int .u64 0, .int .i64 0, .string ⟨#[]⟩, .string ⟨#[]⟩, .int .u64 (pl : Int), .int .i64 pk, .int .i64 pa, .int .i64 pn, .string pkey, .int .i64 0, .int .i64 0, .int .i64 0, .int .u32 0]] w fun e w' => e = .returned (.int .i64 48) ∧ Below w.heap.size w w' := by
  have hmx : Try.prog.follows .mixedOrders = true := by kernel_rfl
  have n1 := rec0_neq
  have n2 := edg0_neq
  have HK := hd (r4_kindOf pk)
  have H1 := hd (r4_in pa 0 4194304)
  have H2 := hd (r4_in pn 1 4194304)
  rw [decide_eq_true hk] at HK
  rw [decide_eq_false hb1] at H1
  generalize decide (1 ≤ pn ∧ pn ≤ 4194304) = b2 at H2
  clear hk hb1
  go_enter Try.func95, Try.ntmps95
  go_wp2_with fail
  refine Calls.mono (HK.out _) ?_
  rintro e w1 ⟨rfl, rfl⟩
  go_wp2_with fail
  refine Calls.mono (H1.out _) ?_
  rintro e w1 ⟨rfl, rfl⟩
  go_wp2_with fail
  refine Calls.mono (H2.out _) ?_
  rintro e w1 ⟨rfl, rfl⟩
  go_wp2_with fail
  go_ret
  exact ⟨rfl, below_one _ _⟩
set_option maxRecDepth 100000 in
set_option maxHeartbeats 2000000 in
theorem may_hint_2tt (pl : Nat) (pk pa pn : Int) (pkey : ByteArray) (w : World) (hk : pk = 1 ∨ pk = 2) (q0 : ((pl : Int) == 0) = false) (q1 : ((pkey.size : Int) == 0) = false) (q2 : (pkey.size : Int) > 64) (hb1 : (0 ≤ pa ∧ pa ≤ 4194304)) (hb2 : (1 ≤ pn ∧ pn ≤ 4194304)) :
    Calls Try.prog 95 #[.agg #[.int .i64 3, .int .u64 0, .int .i64 0, .string ⟨#[]⟩, .string ⟨#[]⟩, .int .u64 (pl : Int), .int .i64 pk, .int .i64 pa, .int .i64 pn, .string pkey, .int .i64 0, .int .i64 0, .int .i64 0, .int .u32 0]] w fun e w' => e = .returned (.int .i64 48) ∧ Below w.heap.size w w' := by
  have hmx : Try.prog.follows .mixedOrders = true := by kernel_rfl
  have n1 := rec0_neq
  have n2 := edg0_neq
  have HK := hd (r4_kindOf pk)
  have H1 := hd (r4_in pa 0 4194304)
  have H2 := hd (r4_in pn 1 4194304)
  rw [decide_eq_true hk] at HK
  rw [decide_eq_true hb1] at H1
  rw [decide_eq_true hb2] at H2
  clear hk hb1 hb2
  go_enter Try.func95, Try.ntmps95
  go_wp2_with fail
  refine Calls.mono (HK.out _) ?_
  rintro e w1 ⟨rfl, rfl⟩
  go_wp2_with fail
  refine Calls.mono (H1.out _) ?_
  rintro e w1 ⟨rfl, rfl⟩
  go_wp2_with fail
  refine Calls.mono (H2.out _) ?_
  rintro e w1 ⟨rfl, rfl⟩
  go_wp2_with fail
  go_ret
  exact ⟨rfl, below_one _ _⟩
set_option maxRecDepth 100000 in
set_option maxHeartbeats 2000000 in
theorem may_hint_2tf (pl : Nat) (pk pa pn : Int) (pkey : ByteArray) (w : World) (hk : pk = 1 ∨ pk = 2) (q0 : ((pl : Int) == 0) = false) (q1 : ((pkey.size : Int) == 0) = false) (q2 : (pkey.size : Int) > 64) (hb1 : (0 ≤ pa ∧ pa ≤ 4194304)) (hb2 : ¬ (1 ≤ pn ∧ pn ≤ 4194304)) :
    Calls Try.prog 95 #[.agg #[.int .i64 3, .int .u64 0, .int .i64 0, .string ⟨#[]⟩, .string ⟨#[]⟩, .int .u64 (pl : Int), .int .i64 pk, .int .i64 pa, .int .i64 pn, .string pkey, .int .i64 0, .int .i64 0, .int .i64 0, .int .u32 0]] w fun e w' => e = .returned (.int .i64 48) ∧ Below w.heap.size w w' := by
  have hmx : Try.prog.follows .mixedOrders = true := by kernel_rfl
  have n1 := rec0_neq
  have n2 := edg0_neq
  have HK := hd (r4_kindOf pk)
  have H1 := hd (r4_in pa 0 4194304)
  have H2 := hd (r4_in pn 1 4194304)
  rw [decide_eq_true hk] at HK
  rw [decide_eq_true hb1] at H1
  rw [decide_eq_false hb2] at H2
  clear hk hb1 hb2
  go_enter Try.func95, Try.ntmps95
  go_wp2_with fail
  refine Calls.mono (HK.out _) ?_
  rintro e w1 ⟨rfl, rfl⟩
  go_wp2_with fail
  refine Calls.mono (H1.out _) ?_
  rintro e w1 ⟨rfl, rfl⟩
  go_wp2_with fail
  refine Calls.mono (H2.out _) ?_
  rintro e w1 ⟨rfl, rfl⟩
  go_wp2_with fail
  go_ret
  exact ⟨rfl, below_one _ _⟩
set_option maxRecDepth 100000 in
set_option maxHeartbeats 2000000 in
theorem may_hint_2ft (pl : Nat) (pk pa pn : Int) (pkey : ByteArray) (w : World) (hk : pk = 1 ∨ pk = 2) (q0 : ((pl : Int) == 0) = false) (q1 : ((pkey.size : Int) == 0) = false) (q2 : (pkey.size : Int) > 64) (hb1 : ¬ (0 ≤ pa ∧ pa ≤ 4194304)) :
    Calls Try.prog 95 #[.agg #[.int .i64 3, .int .u64 0, .int .i64 0, .string ⟨#[]⟩, .string ⟨#[]⟩, .int .u64 (pl : Int), .int .i64 pk, .int .i64 pa, .int .i64 pn, .string pkey, .int .i64 0, .int .i64 0, .int .i64 0, .int .u32 0]] w fun e w' => e = .returned (.int .i64 48) ∧ Below w.heap.size w w' := by
  have hmx : Try.prog.follows .mixedOrders = true := by kernel_rfl
  have n1 := rec0_neq
  have n2 := edg0_neq
  have HK := hd (r4_kindOf pk)
  have H1 := hd (r4_in pa 0 4194304)
  have H2 := hd (r4_in pn 1 4194304)
  rw [decide_eq_true hk] at HK
  rw [decide_eq_false hb1] at H1
  generalize decide (1 ≤ pn ∧ pn ≤ 4194304) = b2 at H2
  clear hk hb1
  go_enter Try.func95, Try.ntmps95
  go_wp2_with fail
  refine Calls.mono (HK.out _) ?_
  rintro e w1 ⟨rfl, rfl⟩
  go_wp2_with fail
  refine Calls.mono (H1.out _) ?_
  rintro e w1 ⟨rfl, rfl⟩
  go_wp2_with fail
  refine Calls.mono (H2.out _) ?_
  rintro e w1 ⟨rfl, rfl⟩
  go_wp2_with fail
  go_ret
  exact ⟨rfl, below_one _ _⟩
set_option maxRecDepth 100000 in
set_option maxHeartbeats 2000000 in
theorem may_hint_3tt (pl : Nat) (pk pa pn : Int) (pkey : ByteArray) (w : World) (hk : pk = 1 ∨ pk = 2) (q0 : ((pl : Int) == 0) = false) (q1 : ((pkey.size : Int) == 0) = false) (q2 : ¬ (pkey.size : Int) > 64) (hb1 : (0 ≤ pa ∧ pa ≤ 4194304)) (hb2 : (1 ≤ pn ∧ pn ≤ 4194304)) :
    Calls Try.prog 95 #[.agg #[.int .i64 3, .int .u64 0, .int .i64 0, .string ⟨#[]⟩, .string ⟨#[]⟩, .int .u64 (pl : Int), .int .i64 pk, .int .i64 pa, .int .i64 pn, .string pkey, .int .i64 0, .int .i64 0, .int .i64 0, .int .u32 0]] w fun e w' => e = .returned (.int .i64 0) ∧ Below w.heap.size w w' := by
  have hmx : Try.prog.follows .mixedOrders = true := by kernel_rfl
  have n1 := rec0_neq
  have n2 := edg0_neq
  have HK := hd (r4_kindOf pk)
  have H1 := hd (r4_in pa 0 4194304)
  have H2 := hd (r4_in pn 1 4194304)
  rw [decide_eq_true hk] at HK
  rw [decide_eq_true hb1] at H1
  rw [decide_eq_true hb2] at H2
  clear hk hb1 hb2
  go_enter Try.func95, Try.ntmps95
  go_wp2_with fail
  refine Calls.mono (HK.out _) ?_
  rintro e w1 ⟨rfl, rfl⟩
  go_wp2_with fail
  refine Calls.mono (H1.out _) ?_
  rintro e w1 ⟨rfl, rfl⟩
  go_wp2_with fail
  refine Calls.mono (H2.out _) ?_
  rintro e w1 ⟨rfl, rfl⟩
  go_wp2_with fail
  go_ret
  exact ⟨rfl, below_one _ _⟩
set_option maxRecDepth 100000 in
set_option maxHeartbeats 2000000 in
theorem may_hint_4tf (pl : Nat) (pk pa pn : Int) (pkey : ByteArray) (w : World) (hk : pk = 1 ∨ pk = 2) (q0 : ((pl : Int) == 0) = false) (q1 : ((pkey.size : Int) == 0) = false) (q2 : ¬ (pkey.size : Int) > 64) (hb1 : (0 ≤ pa ∧ pa ≤ 4194304)) (hb2 : ¬ (1 ≤ pn ∧ pn ≤ 4194304)) :
    Calls Try.prog 95 #[.agg #[.int .i64 3, .int .u64 0, .int .i64 0, .string ⟨#[]⟩, .string ⟨#[]⟩, .int .u64 (pl : Int), .int .i64 pk, .int .i64 pa, .int .i64 pn, .string pkey, .int .i64 0, .int .i64 0, .int .i64 0, .int .u32 0]] w fun e w' => e = .returned (.int .i64 40) ∧ Below w.heap.size w w' := by
  have hmx : Try.prog.follows .mixedOrders = true := by kernel_rfl
  have n1 := rec0_neq
  have n2 := edg0_neq
  have HK := hd (r4_kindOf pk)
  have H1 := hd (r4_in pa 0 4194304)
  have H2 := hd (r4_in pn 1 4194304)
  rw [decide_eq_true hk] at HK
  rw [decide_eq_true hb1] at H1
  rw [decide_eq_false hb2] at H2
  clear hk hb1 hb2
  go_enter Try.func95, Try.ntmps95
  go_wp2_with fail
  refine Calls.mono (HK.out _) ?_
  rintro e w1 ⟨rfl, rfl⟩
  go_wp2_with fail
  refine Calls.mono (H1.out _) ?_
  rintro e w1 ⟨rfl, rfl⟩
  go_wp2_with fail
  refine Calls.mono (H2.out _) ?_
  rintro e w1 ⟨rfl, rfl⟩
  go_wp2_with fail
  go_ret
  exact ⟨rfl, below_one _ _⟩
set_option maxRecDepth 100000 in
set_option maxHeartbeats 2000000 in
theorem may_hint_4ft (pl : Nat) (pk pa pn : Int) (pkey : ByteArray) (w : World) (hk : pk = 1 ∨ pk = 2) (q0 : ((pl : Int) == 0) = false) (q1 : ((pkey.size : Int) == 0) = false) (q2 : ¬ (pkey.size : Int) > 64) (hb1 : ¬ (0 ≤ pa ∧ pa ≤ 4194304)) :
    Calls Try.prog 95 #[.agg #[.int .i64 3, .int .u64 0, .int .i64 0, .string ⟨#[]⟩, .string ⟨#[]⟩, .int .u64 (pl : Int), .int .i64 pk, .int .i64 pa, .int .i64 pn, .string pkey, .int .i64 0, .int .i64 0, .int .i64 0, .int .u32 0]] w fun e w' => e = .returned (.int .i64 40) ∧ Below w.heap.size w w' := by
  have hmx : Try.prog.follows .mixedOrders = true := by kernel_rfl
  have n1 := rec0_neq
  have n2 := edg0_neq
  have HK := hd (r4_kindOf pk)
  have H1 := hd (r4_in pa 0 4194304)
  have H2 := hd (r4_in pn 1 4194304)
  rw [decide_eq_true hk] at HK
  rw [decide_eq_false hb1] at H1
  generalize decide (1 ≤ pn ∧ pn ≤ 4194304) = b2 at H2
  clear hk hb1
  go_enter Try.func95, Try.ntmps95
  go_wp2_with fail
  refine Calls.mono (HK.out _) ?_
  rintro e w1 ⟨rfl, rfl⟩
  go_wp2_with fail
  refine Calls.mono (H1.out _) ?_
  rintro e w1 ⟨rfl, rfl⟩
  go_wp2_with fail
  refine Calls.mono (H2.out _) ?_
  rintro e w1 ⟨rfl, rfl⟩
  go_wp2_with fail
  go_ret
  exact ⟨rfl, below_one _ _⟩
theorem may_hint (pl : Nat) (pk pa pn : Int) (pkey : ByteArray) (w : World) :
    Calls Try.prog 95 #[.agg #[.int .i64 3, .int .u64 0, .int .i64 0, .string ⟨#[]⟩, .string ⟨#[]⟩, .int .u64 (pl : Int), .int .i64 pk, .int .i64 pa, .int .i64 pn, .string pkey, .int .i64 0, .int .i64 0, .int .i64 0, .int .u32 0]] w fun e w' => e = .returned (.int .i64 (rf (hfrQ ⟨pl, pk, pa, pn, pkey⟩) : Int)) ∧ Below w.heap.size w w' := by
  rw [rf_hint]
  simp only
  by_cases hk : pk = 1 ∨ pk = 2
  · rw [if_neg (by omega)]
    by_cases h0 : pl = 0
    · have q0 : ((pl : Int) == 0) = true := by simp; exact h0
      rw [if_pos h0]
      by_cases hb1 : (0 ≤ pa ∧ pa ≤ 4194304)
      · by_cases hb2 : (1 ≤ pn ∧ pn ≤ 4194304)
        · exact may_hint_0tt pl pk pa pn pkey w hk q0 hb1 hb2
        · exact may_hint_0tf pl pk pa pn pkey w hk q0 hb1 hb2
      · exact may_hint_0ft pl pk pa pn pkey w hk q0 hb1
    · have q0 : ((pl : Int) == 0) = false := by simp; exact h0
      rw [if_neg h0]
      by_cases h1 : pkey.size = 0
      · have q1 : ((pkey.size : Int) == 0) = true := by rw [h1]; rfl
        rw [if_pos (by omega)]
        by_cases hb1 : (0 ≤ pa ∧ pa ≤ 4194304)
        · by_cases hb2 : (1 ≤ pn ∧ pn ≤ 4194304)
          · exact may_hint_1tt pl pk pa pn pkey w hk q0 q1 hb1 hb2
          · exact may_hint_1tf pl pk pa pn pkey w hk q0 q1 hb1 hb2
        · exact may_hint_1ft pl pk pa pn pkey w hk q0 q1 hb1
      · have q1 : ((pkey.size : Int) == 0) = false := by rw [beq_eq_false_iff_ne]; omega
        by_cases h2 : 64 < pkey.size
        · have q2 : (pkey.size : Int) > 64 := by omega
          rw [if_pos (by omega)]
          by_cases hb1 : (0 ≤ pa ∧ pa ≤ 4194304)
          · by_cases hb2 : (1 ≤ pn ∧ pn ≤ 4194304)
            · exact may_hint_2tt pl pk pa pn pkey w hk q0 q1 q2 hb1 hb2
            · exact may_hint_2tf pl pk pa pn pkey w hk q0 q1 q2 hb1 hb2
          · exact may_hint_2ft pl pk pa pn pkey w hk q0 q1 q2 hb1
        · have q2 : ¬ (pkey.size : Int) > 64 := by omega
          rw [if_neg (by omega)]
          by_cases hb1 : (0 ≤ pa ∧ pa ≤ 4194304)
          · by_cases hb2 : (1 ≤ pn ∧ pn ≤ 4194304)
            · rw [if_neg (fun q => q ⟨hb1, hb2⟩)]
              exact may_hint_3tt pl pk pa pn pkey w hk q0 q1 q2 hb1 hb2
            · rw [if_pos (fun q => hb2 q.2)]
              exact may_hint_4tf pl pk pa pn pkey w hk q0 q1 q2 hb1 hb2
          · rw [if_pos (fun q => hb1 q.1)]
            exact may_hint_4ft pl pk pa pn pkey w hk q0 q1 q2 hb1
  · rw [if_pos (by omega)]
    exact may_hint_kind pl pk pa pn pkey w hk
set_option maxRecDepth 100000 in
set_option maxHeartbeats 2000000 in
theorem may_foot_ttt (ec eb ef : Int) (es : Nat) (w : World) (h1 : (0 ≤ ec ∧ ec ≤ 4194304)) (h2 : (0 ≤ eb ∧ eb ≤ 4194304)) (h3 : (0 ≤ ef ∧ ef ≤ 4194304)) :
    Calls Try.prog 95 #[.agg #[.int .i64 4, .int .u64 0, .int .i64 0, .string ⟨#[]⟩, .string ⟨#[]⟩, .int .u64 0, .int .i64 0, .int .i64 0, .int .i64 0, .string ⟨#[]⟩, .int .i64 ec, .int .i64 eb, .int .i64 ef, .int .u32 (es : Int)]] w fun e w' => e = .returned (.int .i64 0) ∧ Below w.heap.size w w' := by
  have hmx : Try.prog.follows .mixedOrders = true := by kernel_rfl
  have n1 := rec0_neq
  have n2 := ptr0_neq
  have H1 := hd (r4_in ec 0 4194304)
  have H2 := hd (r4_in eb 0 4194304)
  have H3 := hd (r4_in ef 0 4194304)
  rw [decide_eq_true h1] at H1
  rw [decide_eq_true h2] at H2
  rw [decide_eq_true h3] at H3
  clear h1 h2 h3
  go_enter Try.func95, Try.ntmps95
  go_wp2_with fail
  refine Calls.mono (H1.out _) ?_
  rintro e w1 ⟨rfl, rfl⟩
  go_wp2_with fail
  refine Calls.mono (H2.out _) ?_
  rintro e w1 ⟨rfl, rfl⟩
  go_wp2_with fail
  refine Calls.mono (H3.out _) ?_
  rintro e w1 ⟨rfl, rfl⟩
  go_wp2_with fail
  go_ret
  exact ⟨rfl, below_one _ _⟩
set_option maxRecDepth 100000 in
set_option maxHeartbeats 2000000 in
theorem may_foot_ttf (ec eb ef : Int) (es : Nat) (w : World) (h1 : (0 ≤ ec ∧ ec ≤ 4194304)) (h2 : (0 ≤ eb ∧ eb ≤ 4194304)) (h3 : ¬ (0 ≤ ef ∧ ef ≤ 4194304)) :
    Calls Try.prog 95 #[.agg #[.int .i64 4, .int .u64 0, .int .i64 0, .string ⟨#[]⟩, .string ⟨#[]⟩, .int .u64 0, .int .i64 0, .int .i64 0, .int .i64 0, .string ⟨#[]⟩, .int .i64 ec, .int .i64 eb, .int .i64 ef, .int .u32 (es : Int)]] w fun e w' => e = .returned (.int .i64 40) ∧ Below w.heap.size w w' := by
  have hmx : Try.prog.follows .mixedOrders = true := by kernel_rfl
  have n1 := rec0_neq
  have n2 := ptr0_neq
  have H1 := hd (r4_in ec 0 4194304)
  have H2 := hd (r4_in eb 0 4194304)
  have H3 := hd (r4_in ef 0 4194304)
  rw [decide_eq_true h1] at H1
  rw [decide_eq_true h2] at H2
  rw [decide_eq_false h3] at H3
  clear h1 h2 h3
  go_enter Try.func95, Try.ntmps95
  go_wp2_with fail
  refine Calls.mono (H1.out _) ?_
  rintro e w1 ⟨rfl, rfl⟩
  go_wp2_with fail
  refine Calls.mono (H2.out _) ?_
  rintro e w1 ⟨rfl, rfl⟩
  go_wp2_with fail
  refine Calls.mono (H3.out _) ?_
  rintro e w1 ⟨rfl, rfl⟩
  go_wp2_with fail
  go_ret
  exact ⟨rfl, below_one _ _⟩
set_option maxRecDepth 100000 in
set_option maxHeartbeats 2000000 in
theorem may_foot_tf (ec eb ef : Int) (es : Nat) (w : World) (h1 : (0 ≤ ec ∧ ec ≤ 4194304)) (h2 : ¬ (0 ≤ eb ∧ eb ≤ 4194304)) :
    Calls Try.prog 95 #[.agg #[.int .i64 4, .int .u64 0, .int .i64 0, .string ⟨#[]⟩, .string ⟨#[]⟩, .int .u64 0, .int .i64 0, .int .i64 0, .int .i64 0, .string ⟨#[]⟩, .int .i64 ec, .int .i64 eb, .int .i64 ef, .int .u32 (es : Int)]] w fun e w' => e = .returned (.int .i64 40) ∧ Below w.heap.size w w' := by
  have hmx : Try.prog.follows .mixedOrders = true := by kernel_rfl
  have n1 := rec0_neq
  have n2 := ptr0_neq
  have H1 := hd (r4_in ec 0 4194304)
  have H2 := hd (r4_in eb 0 4194304)
  have H3 := hd (r4_in ef 0 4194304)
  rw [decide_eq_true h1] at H1
  rw [decide_eq_false h2] at H2
  generalize decide (0 ≤ ef ∧ ef ≤ 4194304) = b3 at H3
  clear h1 h2
  go_enter Try.func95, Try.ntmps95
  go_wp2_with fail
  refine Calls.mono (H1.out _) ?_
  rintro e w1 ⟨rfl, rfl⟩
  go_wp2_with fail
  refine Calls.mono (H2.out _) ?_
  rintro e w1 ⟨rfl, rfl⟩
  go_wp2_with fail
  refine Calls.mono (H3.out _) ?_
  rintro e w1 ⟨rfl, rfl⟩
  go_wp2_with fail
  go_ret
  exact ⟨rfl, below_one _ _⟩
set_option maxRecDepth 100000 in
set_option maxHeartbeats 2000000 in
theorem may_foot_f (ec eb ef : Int) (es : Nat) (w : World) (h1 : ¬ (0 ≤ ec ∧ ec ≤ 4194304)) :
    Calls Try.prog 95 #[.agg #[.int .i64 4, .int .u64 0, .int .i64 0, .string ⟨#[]⟩, .string ⟨#[]⟩, .int .u64 0, .int .i64 0, .int .i64 0, .int .i64 0, .string ⟨#[]⟩, .int .i64 ec, .int .i64 eb, .int .i64 ef, .int .u32 (es : Int)]] w fun e w' => e = .returned (.int .i64 40) ∧ Below w.heap.size w w' := by
  have hmx : Try.prog.follows .mixedOrders = true := by kernel_rfl
  have n1 := rec0_neq
  have n2 := ptr0_neq
  have H1 := hd (r4_in ec 0 4194304)
  have H2 := hd (r4_in eb 0 4194304)
  have H3 := hd (r4_in ef 0 4194304)
  rw [decide_eq_false h1] at H1
  generalize decide (0 ≤ eb ∧ eb ≤ 4194304) = b2 at H2
  generalize decide (0 ≤ ef ∧ ef ≤ 4194304) = b3 at H3
  clear h1
  go_enter Try.func95, Try.ntmps95
  go_wp2_with fail
  refine Calls.mono (H1.out _) ?_
  rintro e w1 ⟨rfl, rfl⟩
  go_wp2_with fail
  refine Calls.mono (H2.out _) ?_
  rintro e w1 ⟨rfl, rfl⟩
  go_wp2_with fail
  refine Calls.mono (H3.out _) ?_
  rintro e w1 ⟨rfl, rfl⟩
  go_wp2_with fail
  go_ret
  exact ⟨rfl, below_one _ _⟩
theorem rf_foot (e : Edg) : rf (ffrQ e) = if (0 ≤ e.count ∧ e.count ≤ 4194304) ∧ (0 ≤ e.bytes ∧ e.bytes ≤ 4194304) ∧ (0 ≤ e.frames ∧ e.frames ≤ 4194304) then 0 else 40 := by
  unfold rf rfE ffrQ onD
  simp only
  rw [if_neg (by omega), if_neg (by omega), if_pos trivial]
  by_cases h : (0 ≤ e.count ∧ e.count ≤ 4194304) ∧ (0 ≤ e.bytes ∧ e.bytes ≤ 4194304) ∧ (0 ≤ e.frames ∧ e.frames ≤ 4194304)
  · rw [if_neg (by omega), if_neg (by simp), if_pos h]
  · rw [if_pos (by omega), if_neg h]
theorem may_foot (ec eb ef : Int) (es : Nat) (w : World) :
    Calls Try.prog 95 #[.agg #[.int .i64 4, .int .u64 0, .int .i64 0, .string ⟨#[]⟩, .string ⟨#[]⟩, .int .u64 0, .int .i64 0, .int .i64 0, .int .i64 0, .string ⟨#[]⟩, .int .i64 ec, .int .i64 eb, .int .i64 ef, .int .u32 (es : Int)]] w fun e w' => e = .returned (.int .i64 (rf (ffrQ ⟨ec, eb, ef, es⟩) : Int)) ∧ Below w.heap.size w w' := by
  rw [rf_foot]
  simp only
  by_cases h1 : (0 ≤ ec ∧ ec ≤ 4194304)
  · by_cases h2 : (0 ≤ eb ∧ eb ≤ 4194304)
    · by_cases h3 : (0 ≤ ef ∧ ef ≤ 4194304)
      · rw [if_pos ⟨h1, h2, h3⟩]; exact may_foot_ttt ec eb ef es w h1 h2 h3
      · rw [if_neg (fun q => h3 q.2.2)]; exact may_foot_ttf ec eb ef es w h1 h2 h3
    · rw [if_neg (fun q => h2 q.2.1)]; exact may_foot_tf ec eb ef es w h1 h2
  · rw [if_neg (fun q => h1 q.1)]; exact may_foot_f ec eb ef es w h1
set_option maxRecDepth 100000 in
theorem may_none (k : Int) (w : World) (q1 : (k == 1) = false) (q2 : (k == 2) = false) (q3 : (k == 3) = false) (q4 : (k == 4) = false) :
    Calls Try.prog 95 #[.agg #[.int .i64 k, .int .u64 0, .int .i64 0, .string ⟨#[]⟩, .string ⟨#[]⟩, .int .u64 0, .int .i64 0, .int .i64 0, .int .i64 0, .string ⟨#[]⟩, .int .i64 0, .int .i64 0, .int .i64 0, .int .u32 0]] w fun e w' => e = .returned (.int .i64 46) ∧ Below w.heap.size w w' := by
  go_enter Try.func95, Try.ntmps95
  go_wp2_with fail
  go_ret
  exact ⟨rfl, below_one _ _⟩
end Vt
end Go.Proofs.Ytlddogigbodilaa
