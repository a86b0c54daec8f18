/-
  THE REFERENCE OF LAYER 4: salvorref4.May of a Put's or a Delete's frame.
-/
import Derived.Test.YtabfgoojhangnaaXebj
namespace Go.Proofs.Ytabfgoojhangnaa
open Go.RowKit
namespace Vt
theorem ba_inj {a b : ByteArray} (e : a.toList = b.toList) : a = b := by
  rw [ByteArray.toList_eq, ByteArray.toList_eq] at e
  exact Go.WideShapes.bytes_inj e
theorem ptr_any (p : Ptr) : ∃ b : Bool, (∀ w, (binOp .neq 47 (.agg #[.int .u64 (p.lsn : Int), .int .i64 p.kind, .int .i64 p.at_, .int .i64 p.len, .string p.key]) (.agg #[.int .u64 0, .int .i64 0, .int .i64 0, .int .i64 0, .string ⟨#[]⟩])).run Try.prog w = .ok (.bool b) w) ∧ (b = false ↔ p = zp) := by
  obtain ⟨a1, a2, a3, a4, a5⟩ := p
  by_cases h : (⟨a1, a2, a3, a4, a5⟩ : Ptr) = zp
  · refine ⟨false, fun w => ?_, by simp [h]⟩
    have h1 : a1 = 0 := congrArg Ptr.lsn h
    have h2 : a2 = 0 := congrArg Ptr.kind h
    have h3 : a3 = 0 := congrArg Ptr.at_ h
    have h4 : a4 = 0 := congrArg Ptr.len h
    have h5 : a5 = ⟨#[]⟩ := congrArg Ptr.key h
    subst h1 h2 h3 h4 h5
    rw [run_neq_struct]
    simp [go_sem, Op.eqFields]
  · refine ⟨true, fun w => ?_, by simp [h]⟩
    rw [run_neq_struct]
    have : (Op.equalIn 10000 47 (.agg #[.int .u64 (a1 : Int), .int .i64 a2, .int .i64 a3, .int .i64 a4, .string a5]) (.agg #[.int .u64 0, .int .i64 0, .int .i64 0, .int .i64 0, .string ⟨#[]⟩])).run Try.prog w = .ok false w := by
      simp [go_sem, Op.eqFields]
      intro h1 h2 h3 h4 h5
      apply h
      unfold zp
      rw [show a1 = 0 by omega, h2, h3, h4, show a5 = ByteArray.empty from ba_inj (h5.trans (by simp [ByteArray.toList_eq]))]
    rw [this]; rfl
theorem edg_any (p : Edg) : ∃ b : Bool, (∀ w, (binOp .neq 52 (.agg #[.int .i64 p.count, .int .i64 p.bytes, .int .i64 p.frames, .int .u32 (p.sum : Int)]) (.agg #[.int .i64 0, .int .i64 0, .int .i64 0, .int .u32 0])).run Try.prog w = .ok (.bool b) w) ∧ (b = false ↔ p = ze) := by
  obtain ⟨a1, a2, a3, a4⟩ := p
  by_cases h : (⟨a1, a2, a3, a4⟩ : Edg) = ze
  · refine ⟨false, fun w => ?_, by simp [h]⟩
    have h1 : a1 = 0 := congrArg Edg.count h
    have h2 : a2 = 0 := congrArg Edg.bytes h
    have h3 : a3 = 0 := congrArg Edg.frames h
    have h4 : a4 = 0 := congrArg Edg.sum h
    subst h1 h2 h3 h4
    rw [run_neq_struct]
    simp [go_sem, Op.eqFields]
  · refine ⟨true, fun w => ?_, by simp [h]⟩
    rw [run_neq_struct]
    have : (Op.equalIn 10000 52 (.agg #[.int .i64 a1, .int .i64 a2, .int .i64 a3, .int .u32 (a4 : Int)]) (.agg #[.int .i64 0, .int .i64 0, .int .i64 0, .int .u32 0])).run Try.prog w = .ok false w := by
      simp [go_sem, Op.eqFields]
      intro h1 h2 h3 h4
      apply h
      unfold ze
      rw [h1, h2, h3, show a4 = 0 by omega]
    rw [this]; rfl
theorem below_one (w : World) (A : Obj) : Below w.heap.size w (w.alloc A) := (Below.refl _ _).alloc (Nat.le_refl _) _
set_option maxRecDepth 100000 in
set_option maxHeartbeats 4000000 in
theorem may_46 (k : Int) (rl : Nat) (rk : Int) (rkey rval : ByteArray) (pl : Nat) (pk pa pn : Int) (pkey : ByteArray) (ec eb ef : Int) (es : Nat) (w : World) (hk : k = 1 ∨ k = 2) (q : (rk != k) = true) :
    Calls Try.prog 54 #[.agg #[.int .i64 k, .int .u64 (rl : Int), .int .i64 rk, .string rkey, .string rval, .int .u64 (pl : Int), .int .i64 pk, .int .i64 pa, .int .i64 pn, .string pkey, .int .i64 ec, .int .i64 eb, .int .i64 ef, .int .u32 (es : Int)]] w fun e w' => e = .returned (.int .i64 46) ∧ Below w.heap.size w w' := by
  rcases hk with rfl | rfl
  all_goals (
    go_enter Try.func54, Try.ntmps54
    go_wp2_with fail
    go_ret
    exact ⟨rfl, below_one _ _⟩)
set_option maxRecDepth 100000 in
set_option maxHeartbeats 4000000 in
theorem may_put (rl : Nat) (rkey rval : ByteArray) (pl : Nat) (pk pa pn : Int) (pkey : ByteArray) (ec eb ef : Int) (es : Nat) (w : World) (b1 b2 : Bool)
    (hp : ∀ w, (binOp .neq 47 (.agg #[.int .u64 (pl : Int), .int .i64 pk, .int .i64 pa, .int .i64 pn, .string pkey]) (.agg #[.int .u64 0, .int .i64 0, .int .i64 0, .int .i64 0, .string ⟨#[]⟩])).run Try.prog w = .ok (.bool b1) w)
    (he : ∀ w, (binOp .neq 52 (.agg #[.int .i64 ec, .int .i64 eb, .int .i64 ef, .int .u32 (es : Int)]) (.agg #[.int .i64 0, .int .i64 0, .int .i64 0, .int .u32 0])).run Try.prog w = .ok (.bool b2) w)
    (x0 x1 x2 x3 : Bool) (q0 : (((rl : Nat) : Int) == 0) = x0) (q1 : (((rkey.size : Nat) : Int) == 0) = x1) (q2 : decide ((64 : Int) < ((rkey.size : Nat) : Int)) = x2) (q3 : decide ((2048 : Int) < ((rval.size : Nat) : Int)) = x3) :
    Calls Try.prog 54 #[.agg #[.int .i64 1, .int .u64 (rl : Int), .int .i64 1, .string rkey, .string rval, .int .u64 (pl : Int), .int .i64 pk, .int .i64 pa, .int .i64 pn, .string pkey, .int .i64 ec, .int .i64 eb, .int .i64 ef, .int .u32 (es : Int)]] w fun e w' => e = .returned (.int .i64 (if x0 then 47 else if x1 || x2 then 48 else if x3 then 49 else if b1 || b2 then 40 else 0)) ∧ Below w.heap.size w w' := by
  cases b1
  · cases b2
    all_goals (
      go_enter Try.func54, Try.ntmps54
      go_wp2_with fail
      cases x0 <;> cases x1 <;> cases x2 <;> cases x3
      all_goals go_wp2_with fail
      all_goals go_ret
      all_goals exact ⟨rfl, below_one _ _⟩)
  · go_enter Try.func54, Try.ntmps54
    go_wp2_with fail
    cases x0 <;> cases x1 <;> cases x2 <;> cases x3
    all_goals go_wp2_with fail
    all_goals go_ret
    all_goals exact ⟨rfl, below_one _ _⟩
end Vt
end Go.Proofs.Ytabfgoojhangnaa
