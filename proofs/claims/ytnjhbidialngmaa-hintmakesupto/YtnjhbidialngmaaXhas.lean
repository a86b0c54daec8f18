/-
  THE REFERENCE OF LAYER 4: May of a pointer's frame, of an ending's frame, of a frame of no kind.
-/
import Derived.Test.YtnjhbidialngmaaXhaq
namespace Go.Proofs.Ytnjhbidialngmaa
open Go.RowKit
namespace Vt
/-- the frame of a pointer, of an ending (as the hint chapter has them) -/
def hfrQ (p : Ptr) : Fr := ⟨3, zr, p, ze⟩
def ffrQ (e : Edg) : Fr := ⟨4, zr, zp, e⟩
theorem rec0_neq (w : World) : (binOp .neq 25 (.agg #[.int .u64 0, .int .i64 0, .string ⟨#[]⟩, .string ⟨#[]⟩]) (.agg #[.int .u64 0, .int .i64 0, .string ⟨#[]⟩, .string ⟨#[]⟩])).run Try.prog w = .ok (.bool false) w := by kernel_rfl
theorem ptr0_neq (w : World) : (binOp .neq 27 (.agg #[.int .u64 0, .int .i64 0, .int .i64 0, .int .i64 0, .string ⟨#[]⟩]) (.agg #[.int .u64 0, .int .i64 0, .int .i64 0, .int .i64 0, .string ⟨#[]⟩])).run Try.prog w = .ok (.bool false) w := by kernel_rfl
theorem edg0_neq (w : World) : (binOp .neq 32 (.agg #[.int .i64 0, .int .i64 0, .int .i64 0, .int .u32 0]) (.agg #[.int .i64 0, .int .i64 0, .int .i64 0, .int .u32 0])).run Try.prog w = .ok (.bool false) w := by kernel_rfl
theorem rf_hint (p : Ptr) : rf (hfrQ p) = if p.kind ≠ 1 ∧ p.kind ≠ 2 then 46 else if p.lsn = 0 then 47 else if ¬ (1 ≤ p.key.size ∧ p.key.size ≤ 64) then 48 else if ¬ ((0 ≤ p.at_ ∧ p.at_ ≤ 4194304) ∧ 1 ≤ p.len ∧ p.len ≤ 4194304) then 40 else 0 := by
  unfold rf rfP hfrQ mayKey onD
  simp only
  rw [if_neg (by omega), if_pos trivial]
  by_cases h1 : p.kind ≠ 1 ∧ p.kind ≠ 2
  · rw [if_pos h1, if_pos h1]
  · rw [if_neg h1, if_neg h1]
    by_cases h2 : p.lsn = 0
    · rw [if_pos h2, if_pos h2]
    · rw [if_neg h2, if_neg h2]
      by_cases h3 : ¬ (1 ≤ p.key.size ∧ p.key.size ≤ 64)
      · rw [if_pos h3, if_pos h3]
      · rw [if_neg h3, if_neg h3]
        by_cases h4 : (0 ≤ p.at_ ∧ p.at_ ≤ 4194304) ∧ 1 ≤ p.len ∧ p.len ≤ 4194304
        · rw [if_neg (by omega), if_neg (by simp), if_neg (fun q => q h4)]
        · rw [if_pos (by omega), if_pos h4]
--WALKS
attribute [local go_sem] Oper.semAt_some
set_option maxRecDepth 100000 in
set_option maxHeartbeats 2000000 in
theorem may_hint_kind (pl : Nat) (pk pa pn : Int) (pkey : ByteArray) (w : World) (hk : ¬ (pk = 1 ∨ pk = 2)) :
    Calls Try.prog 29 #[.agg #[.int .i64 3, .int .u64 0, .int .i64 0, .string ⟨#[]⟩, .string ⟨#[]⟩, .int .u64 (pl : Int), .int .i64 pk, .int .i64 pa, .int .i64 pn, .string pkey, .int .i64 0, .int .i64 0, .int .i64 0, .int .u32 0]] w fun e w' => e = .returned (.int .i64 46) ∧ Below w.heap.size w w' := by
  have hmx : Try.prog.follows .mixedOrders = true := by kernel_rfl
  have n1 := rec0_neq
  have n2 := edg0_neq
  have HK := hd (r4_kindOf pk)
  have H1 := hd (r4_in pa 0 4194304)
  have H2 := hd (r4_in pn 1 4194304)
  rw [decide_eq_false hk] at HK
  clear hk
  go_enter Try.func29, Try.ntmps29
  go_wp2_with fail
  refine Calls.mono (HK.out _) ?_
  rintro e w1 ⟨rfl, rfl⟩
  go_wp2_with fail
  go_ret
  exact ⟨rfl, below_one _ _⟩
set_option maxRecDepth 100000 in
set_option maxHeartbeats 2000000 in
theorem may_hint_0tt (pl : Nat) (pk pa pn : Int) (pkey : ByteArray) (w : World) (hk : pk = 1 ∨ pk = 2) (q0 : ((pl : Int) == 0) = true) (hb1 : (0 ≤ pa ∧ pa ≤ 4194304)) (hb2 : (1 ≤ pn ∧ pn ≤ 4194304)) :
    Calls Try.prog 29 #[.agg #[.int .i64 3, .int .u64 0, .int .i64 0, .string ⟨#[]⟩, .string ⟨#[]⟩, .int .u64 (pl : Int), .int .i64 pk, .int .i64 pa, .int .i64 pn, .string pkey, .int .i64 0, .int .i64 0, .int .i64 0, .int .u32 0]] w fun e w' => e = .returned (.int .i64 47) ∧ Below w.heap.size w w' := by
  have hmx : Try.prog.follows .mixedOrders = true := by kernel_rfl
  have n1 := rec0_neq
  have n2 := edg0_neq
  have HK := hd (r4_kindOf pk)
  have H1 := hd (r4_in pa 0 4194304)
  have H2 := hd (r4_in pn 1 4194304)
  rw [decide_eq_true hk] at HK
  rw [decide_eq_true hb1] at H1
  rw [decide_eq_true hb2] at H2
  clear hk hb1 hb2
  go_enter Try.func29, Try.ntmps29
  go_wp2_with fail
  refine Calls.mono (HK.out _) ?_
  rintro e w1 ⟨rfl, rfl⟩
  go_wp2_with fail
  refine Calls.mono (H1.out _) ?_
  rintro e w1 ⟨rfl, rfl⟩
  go_wp2_with fail
  refine Calls.mono (H2.out _) ?_
  rintro e w1 ⟨rfl, rfl⟩
  go_wp2_with fail
  go_ret
  exact ⟨rfl, below_one _ _⟩
set_option maxRecDepth 100000 in
set_option maxHeartbeats 2000000 in
theorem may_hint_0tf (pl : Nat) (pk pa pn : Int) (pkey : ByteArray) (w : World) (hk : pk = 1 ∨ pk = 2) (q0 : ((pl : Int) == 0) = true) (hb1 : (0 ≤ pa ∧ pa ≤ 4194304)) (hb2 : ¬ (1 ≤ pn ∧ pn ≤ 4194304)) :
    Calls Try.prog 29 #[.agg #[.int .i64 3, .int .u64 0, .int .i64 0, .string ⟨#[]⟩, .string ⟨#[]⟩, .int .u64 (pl : Int), .int .i64 pk, .int .i64 pa, .int .i64 pn, .string pkey, .int .i64 0, .int .i64 0, .int .i64 0, .int .u32 0]] w fun e w' => e = .returned (.int .i64 47) ∧ Below w.heap.size w w' := by
  have hmx : Try.prog.follows .mixedOrders = true := by kernel_rfl
  have n1 := rec0_neq
  have n2 := edg0_neq
  have HK := hd (r4_kindOf pk)
  have H1 := hd (r4_in pa 0 4194304)
  have H2 := hd (r4_in pn 1 4194304)
  rw [decide_eq_true hk] at HK
  rw [decide_eq_true hb1] at H1
  rw [decide_eq_false hb2] at H2
  clear hk hb1 hb2
  go_enter Try.func29, Try.ntmps29
  go_wp2_with fail
  refine Calls.mono (HK.out _) ?_
  rintro e w1 ⟨rfl, rfl⟩
  go_wp2_with fail
  refine Calls.mono (H1.out _) ?_
  rintro e w1 ⟨rfl, rfl⟩
  go_wp2_with fail
  refine Calls.mono (H2.out _) ?_
  rintro e w1 ⟨rfl, rfl⟩
  go_wp2_with fail
  go_ret
  exact ⟨rfl, below_one _ _⟩
set_option maxRecDepth 100000 in
set_option maxHeartbeats 2000000 in
theorem may_hint_0ft (pl : Nat) (pk pa pn : Int) (pkey : ByteArray) (w : World) (hk : pk = 1 ∨ pk = 2) (q0 : ((pl : Int) == 0) = true) (hb1 : ¬ (0 ≤ pa ∧ pa ≤ 4194304)) :
    Calls Try.prog 29 #[.agg #[.int .i64 3, .int .u64 0, .int .i64 0, .string ⟨#[]⟩, .string ⟨#[]⟩, .int .u64 (pl : Int), .int .i64 pk, .int .i64 pa, .int .i64 pn, .string pkey, .int .i64 0, .int .i64 0, .int .i64 0, .int .u32 0]] w fun e w' => e = .returned (.int .i64 47) ∧ Below w.heap.size w w' := by
  have hmx : Try.prog.follows .mixedOrders = true := by kernel_rfl
  have n1 := rec0_neq
  have n2 := edg0_neq
  have HK := hd (r4_kindOf pk)
  have H1 := hd (r4_in pa 0 4194304)
  have H2 := hd (r4_in pn 1 4194304)
  rw [decide_eq_true hk] at HK
  rw [decide_eq_false hb1] at H1
  generalize decide (1 ≤ pn ∧ pn ≤ 4194304) = b2 at H2
  clear hk hb1
  go_enter Try.func29, Try.ntmps29
  go_wp2_with fail
  refine Calls.mono (HK.out _) ?_
  rintro e w1 ⟨rfl, rfl⟩
  go_wp2_with fail
  refine Calls.mono (H1.out _) ?_
  rintro e w1 ⟨rfl, rfl⟩
  go_wp2_with fail
  refine Calls.mono (H2.out _) ?_
  rintro e w1 ⟨rfl, rfl⟩
  go_wp2_with fail
  go_ret
  exact ⟨rfl, below_one _ _⟩
set_option maxRecDepth 100000 in
set_option maxHeartbeats 2000000 in
theorem may_hint_1tt (pl : Nat) (pk pa pn : Int) (pkey : ByteArray) (w : World) (hk : pk = 1 ∨ pk = 2) (q0 : ((pl : Int) == 0) = false) (q1 : ((pkey.size : Int) == 0) = true) (hb1 : (0 ≤ pa ∧ pa ≤ 4194304)) (hb2 : (1 ≤ pn ∧ pn ≤ 4194304)) :
    Calls Try.prog 29 #[.agg #[.int .i64 3, .int .u64 0, .int .i64 0, .string ⟨#[]⟩, .string ⟨#[]⟩, .int .u64 (pl : Int), .int .i64 pk, .int .i64 pa, .int .i64 pn, .string pkey, .int .i64 0, .int .i64 0, .int .i64 0, .int .u32 0]] w fun e w' => e = .returned (.int .i64 48) ∧ Below w.heap.size w w' := by
  have hmx : Try.prog.follows .mixedOrders = true := by kernel_rfl
  have n1 := rec0_neq
  have n2 := edg0_neq
  have HK := hd (r4_kindOf pk)
  have H1 := hd (r4_in pa 0 4194304)
  have H2 := hd (r4_in pn 1 4194304)
  rw [decide_eq_true hk] at HK
  rw [decide_eq_true hb1] at H1
  rw [decide_eq_true hb2] at H2
  clear hk hb1 hb2
  go_enter Try.func29, Try.ntmps29
  go_wp2_with fail
  refine Calls.mono (HK.out _) ?_
  rintro e w1 ⟨rfl, rfl⟩
  go_wp2_with fail
  refine Calls.mono (H1.out _) ?_
  rintro e w1 ⟨rfl, rfl⟩
  go_wp2_with fail
  refine Calls.mono (H2.out _) ?_
  rintro e w1 ⟨rfl, rfl⟩
  go_wp2_with fail
  go_ret
  exact ⟨rfl, below_one _ _⟩
set_option maxRecDepth 100000 in
set_option maxHeartbeats 2000000 in
theorem may_hint_1tf (pl : Nat) (pk pa pn : Int) (pkey : ByteArray) (w : World) (hk : pk = 1 ∨ pk = 2) (q0 : ((pl : Int) == 0) = false) (q1 : ((pkey.size : Int) == 0) = true) (hb1 : (0 ≤ pa ∧ pa ≤ 4194304)) (hb2 : ¬ (1 ≤ pn ∧ pn ≤ 4194304)) :
    Calls Try.prog 29 #[.agg #[.int .i64 3, .int .u64 0, .int .i64 0, .string ⟨#[]⟩, .string ⟨#[]⟩, .int .u64 (pl : Int), .int .i64 pk, .int .i64 pa, .int .i64 pn, .string pkey, .int .i64 0, .int .i64 0, .int .i64 0, .int .u32 0]] w fun e w' => e = .returned (.int .i64 48) ∧ Below w.heap.size w w' := by
  have hmx : Try.prog.follows .mixedOrders = true := by kernel_rfl
  have n1 := rec0_neq
  have n2 := edg0_neq
  have HK := hd (r4_kindOf pk)
  have H1 := hd (r4_in pa 0 4194304)
  have H2 := hd (r4_in pn 1 4194304)
  rw [decide_eq_true hk] at HK
  rw [decide_eq_true hb1] at H1
  rw [decide_eq_false hb2] at H2
  clear hk hb1 hb2
  go_enter Try.func29, Try.ntmps29
  go_wp2_with fail
  refine Calls.mono (HK.out _) ?_
  rintro e w1 ⟨rfl, rfl⟩
  go_wp2_with fail
  refine Calls.mono (H1.out _) ?_
  rintro e w1 ⟨rfl, rfl⟩
  go_wp2_with fail
  refine Calls.mono (H2.out _) ?_
  rintro e w1 ⟨rfl, rfl⟩
  go_wp2_with fail
  go_ret
  exact ⟨rfl, below_one _ _⟩
set_option maxRecDepth 100000 in
set_option maxHeartbeats 2000000 in
theorem may_hint_1ft (pl : Nat) (pk pa pn : Int) (pkey : ByteArray) (w : World) (hk : pk = 1 ∨ pk = 2) (q0 : ((pl : Int) == 0) = false) (q1 : ((pkey.size : Int) == 0) = true) (hb1 : ¬ (0 ≤ pa ∧ pa ≤ 4194304)) :
    Calls Try.prog 29 #[.agg #[.int .i64 3, .int .u64 0, .int .i64 0, .string ⟨#[]⟩, .string ⟨#[]⟩, .int .u64 (pl : Int), .int .i64 pk, .int .i64 pa, .int .i64 pn, .string pkey, .int .i64 0, .int .i64 0, .int .i64 0, .int .u32 0]] w fun e w' => e = .returned (.int .i64 48) ∧ Below w.heap.size w w' := by
  have hmx : Try.prog.follows .mixedOrders = true := by kernel_rfl
  have n1 := rec0_neq
  have n2 := edg0_neq
  have HK := hd (r4_kindOf pk)
  have H1 := hd (r4_in pa 0 4194304)
  have H2 := hd (r4_in pn 1 4194304)
  rw [decide_eq_true hk] at HK
  rw [decide_eq_false hb1] at H1
  generalize decide (1 ≤ pn ∧ pn ≤ 4194304) = b2 at H2
  clear hk hb1
  go_enter Try.func29, Try.ntmps29
  go_wp2_with fail
  refine Calls.mono (HK.out _) ?_
  rintro e w1 ⟨rfl, rfl⟩
  go_wp2_with fail
  refine Calls.mono (H1.out _) ?_
  rintro e w1 ⟨rfl, rfl⟩
  go_wp2_with fail
  refine Calls.mono (H2.out _) ?_
  rintro e w1 ⟨rfl, rfl⟩
  go_wp2_with fail
  go_ret
  exact ⟨rfl, below_one _ _⟩
set_option maxRecDepth 100000 in
set_option maxHeartbeats 2000000 in
theorem may_hint_2tt (pl : Nat) (pk pa pn : Int) (pkey : ByteArray) (w : World) (hk : pk = 1 ∨ pk = 2) (q0 : ((pl : Int) == 0) = false) (q1 : ((pkey.size : Int) == 0) = false) (q2 : (pkey.size : Int) > 64) (hb1 : (0 ≤ pa ∧ pa ≤ 4194304)) (hb2 : (1 ≤ pn ∧ pn ≤ 4194304)) :
    Calls Try.prog 29 #[.agg #[.int .i64 3, .int .u64 0, .int .i64 0, .string ⟨#[]⟩, .string ⟨#[]⟩, .int .u64 (pl : Int), .int .i64 pk, .int .i64 pa, .int .i64 pn, .string pkey, .int .i64 0, .int .i64 0, .int .i64 0, .int .u32 0]] w fun e w' => e = .returned (.int .i64 48) ∧ Below w.heap.size w w' := by
  have hmx : Try.prog.follows .mixedOrders = true := by kernel_rfl
  have n1 := rec0_neq
  have n2 := edg0_neq
  have HK := hd (r4_kindOf pk)
  have H1 := hd (r4_in pa 0 4194304)
  have H2 := hd (r4_in pn 1 4194304)
  rw [decide_eq_true hk] at HK
  rw [decide_eq_true hb1] at H1
  rw [decide_eq_true hb2] at H2
  clear hk hb1 hb2
  go_enter Try.func29, Try.ntmps29
  go_wp2_with fail
  refine Calls.mono (HK.out _) ?_
  rintro e w1 ⟨rfl, rfl⟩
  go_wp2_with fail
  refine Calls.mono (H1.out _) ?_
  rintro e w1 ⟨rfl, rfl⟩
  go_wp2_with fail
  refine Calls.mono (H2.out _) ?_
  rintro e w1 ⟨rfl, rfl⟩
  go_wp2_with fail
  go_ret
  exact ⟨rfl, below_one _ _⟩
set_option maxRecDepth 100000 in
set_option maxHeartbeats 2000000 in
theorem may_hint_2tf (pl : Nat) (pk pa pn : Int) (pkey : ByteArray) (w : World) (hk : pk = 1 ∨ pk = 2) (q0 : ((pl : Int) == 0) = false) (q1 : ((pkey.size : Int) == 0) = false) (q2 : (pkey.size : Int) > 64) (hb1 : (0 ≤ pa ∧ pa ≤ 4194304)) (hb2 : ¬ (1 ≤ pn ∧ pn ≤ 4194304)) :
    Calls Try.prog 29 #[.agg #[.int .i64 3, .int .u64 0, .int .i64 0, .string ⟨#[]⟩, .string ⟨#[]⟩, .int .u64 (pl : Int), .int .i64 pk, .int .i64 pa, .int .i64 pn, .string pkey, .int .i64 0, .int .i64 0, .int .i64 0, .int .u32 0]] w fun e w' => e = .returned (.int .i64 48) ∧ Below w.heap.size w w' := by
  have hmx : Try.prog.follows .mixedOrders = true := by kernel_rfl
  have n1 := rec0_neq
  have n2 := edg0_neq
  have HK := hd (r4_kindOf pk)
  have H1 := hd (r4_in pa 0 4194304)
  have H2 := hd (r4_in pn 1 4194304)
  rw [decide_eq_true hk] at HK
  rw [decide_eq_true hb1] at H1
  rw [decide_eq_false hb2] at H2
  clear hk hb1 hb2
  go_enter Try.func29, Try.ntmps29
  go_wp2_with fail
  refine Calls.mono (HK.out _) ?_
  rintro e w1 ⟨rfl, rfl⟩
  go_wp2_with fail
  refine Calls.mono (H1.out _) ?_
  rintro e w1 ⟨rfl, rfl⟩
  go_wp2_with fail
  refine Calls.mono (H2.out _) ?_
  rintro e w1 ⟨rfl, rfl⟩
  go_wp2_with fail
  go_ret
  exact ⟨rfl, below_one _ _⟩
set_option maxRecDepth 100000 in
set_option maxHeartbeats 2000000 in
theorem may_hint_2ft (pl : Nat) (pk pa pn : Int) (pkey : ByteArray) (w : World) (hk : pk = 1 ∨ pk = 2) (q0 : ((pl : Int) == 0) = false) (q1 : ((pkey.size : Int) == 0) = false) (q2 : (pkey.size : Int) > 64) (hb1 : ¬ (0 ≤ pa ∧ pa ≤ 4194304)) :
    Calls Try.prog 29 #[.agg #[.int .i64 3, .int .u64 0, .int .i64 0, .string ⟨#[]⟩, .string ⟨#[]⟩, .int .u64 (pl : Int), .int .i64 pk, .int .i64 pa, .int .i64 pn, .string pkey, .int .i64 0, .int .i64 0, .int .i64 0, .int .u32 0]] w fun e w' => e = .returned (.int .i64 48) ∧ Below w.heap.size w w' := by
  have hmx : Try.prog.follows .mixedOrders = true := by kernel_rfl
  have n1 := rec0_neq
  have n2 := edg0_neq
  have HK := hd (r4_kindOf pk)
  have H1 := hd (r4_in pa 0 4194304)
  have H2 := hd (r4_in pn 1 4194304)
  rw [decide_eq_true hk] at HK
  rw [decide_eq_false hb1] at H1
  generalize decide (1 ≤ pn ∧ pn ≤ 4194304) = b2 at H2
  clear hk hb1
  go_enter Try.func29, Try.ntmps29
  go_wp2_with fail
  refine Calls.mono (HK.out _) ?_
  rintro e w1 ⟨rfl, rfl⟩
  go_wp2_with fail
  refine Calls.mono (H1.out _) ?_
  rintro e w1 ⟨rfl, rfl⟩
  go_wp2_with fail
  refine Calls.mono (H2.out _) ?_
  rintro e w1 ⟨rfl, rfl⟩
  go_wp2_with fail
  go_ret
  exact ⟨rfl, below_one _ _⟩
set_option maxRecDepth 100000 in
set_option maxHeartbeats 2000000 in
theorem may_hint_3tt (pl : Nat) (pk pa pn : Int) (pkey : ByteArray) (w : World) (hk : pk = 1 ∨ pk = 2) (q0 : ((pl : Int) == 0) = false) (q1 : ((pkey.size : Int) == 0) = false) (q2 : ¬ (pkey.size : Int) > 64) (hb1 : (0 ≤ pa ∧ pa ≤ 4194304)) (hb2 : (1 ≤ pn ∧ pn ≤ 4194304)) :
    Calls Try.prog 29 #[.agg #[.int .i64 3, .int .u64 0, .int .i64 0, .string ⟨#[]⟩, .string ⟨#[]⟩, .int .u64 (pl : Int), .int .i64 pk, .int .i64 pa, .int .i64 pn, .string pkey, .int .i64 0, .int .i64 0, .int .i64 0, .int .u32 0]] w fun e w' => e = .returned (.int .i64 0) ∧ Below w.heap.size w w' := by
  have hmx : Try.prog.follows .mixedOrders = true := by kernel_rfl
  have n1 := rec0_neq
  have n2 := edg0_neq
  have HK := hd (r4_kindOf pk)
  have H1 := hd (r4_in pa 0 4194304)
  have H2 := hd (r4_in pn 1 4194304)
  rw [decide_eq_true hk] at HK
  rw [decide_eq_true hb1] at H1
  rw [decide_eq_true hb2] at H2
  clear hk hb1 hb2
  go_enter Try.func29, Try.ntmps29
  go_wp2_with fail
  refine Calls.mono (HK.out _) ?_
  rintro e w1 ⟨rfl, rfl⟩
  go_wp2_with fail
  refine Calls.mono (H1.out _) ?_
  rintro e w1 ⟨rfl, rfl⟩
  go_wp2_with fail
  refine Calls.mono (H2.out _) ?_
  rintro e w1 ⟨rfl, rfl⟩
  go_wp2_with fail
  go_ret
  exact ⟨rfl, below_one _ _⟩
set_option maxRecDepth 100000 in
set_option maxHeartbeats 2000000 in
theorem may_hint_4tf (pl : Nat) (pk pa pn : Int) (pkey : ByteArray) (w : World) (hk : pk = 1 ∨ pk = 2) (q0 : ((pl : Int) == 0) = false) (q1 : ((pkey.size : Int) == 0) = false) (q2 : ¬ (pkey.size : Int) > 64) (hb1 : (0 ≤ pa ∧ pa ≤ 4194304)) (hb2 : ¬ (1 ≤ pn ∧ pn ≤ 4194304)) :
    Calls Try.prog 29 #[.agg #[.int .i64 3, .int .u64 0, .int .i64 0, .string ⟨#[]⟩, .string ⟨#[]⟩, .int .u64 (pl : Int), .int .i64 pk, .int .i64 pa, .int .i64 pn, .string pkey, .int .i64 0, .int .i64 0, .int .i64 0, .int .u32 0]] w fun e w' => e = .returned (.int .i64 40) ∧ Below w.heap.size w w' := by
  have hmx : Try.prog.follows .mixedOrders = true := by kernel_rfl
  have n1 := rec0_neq
  have n2 := edg0_neq
  have HK := hd (r4_kindOf pk)
  have H1 := hd (r4_in pa 0 4194304)
  have H2 := hd (r4_in pn 1 4194304)
  rw [decide_eq_true hk] at HK
  rw [decide_eq_true hb1] at H1
  rw [decide_eq_false hb2] at H2
  clear hk hb1 hb2
  go_enter Try.func29, Try.ntmps29
  go_wp2_with fail
  refine Calls.mono (HK.out _) ?_
  rintro e w1 ⟨rfl, rfl⟩
  go_wp2_with fail
  refine Calls.mono (H1.out _) ?_
  rintro e w1 ⟨rfl, rfl⟩
  go_wp2_with fail
  refine Calls.mono (H2.out _) ?_
  rintro e w1 ⟨rfl, rfl⟩
  go_wp2_with fail
  go_ret
  exact ⟨rfl, below_one _ _⟩
set_option maxRecDepth 100000 in
set_option maxHeartbeats 2000000 in
theorem may_hint_4ft (pl : Nat) (pk pa pn : Int) (pkey : ByteArray) (w : World) (hk : pk = 1 ∨ pk = 2) (q0 : ((pl : Int) == 0) = false) (q1 : ((pkey.size : Int) == 0) = false) (q2 : ¬ (pkey.size : Int) > 64) (hb1 : ¬ (0 ≤ pa ∧ pa ≤ 4194304)) :
    Calls Try.prog 29 #[.agg #[.int .i64 3, .int .u64 0, .int .i64 0, .string ⟨#[]⟩, .string ⟨#[]⟩, .int .u64 (pl : Int), .int .i64 pk, .int .i64 pa, .int .i64 pn, .string pkey, .int .i64 0, .int .i64 0, .int .i64 0, .int .u32 0]] w fun e w' => e = .returned (.int .i64 40) ∧ Below w.heap.size w w' := by
  have hmx : Try.prog.follows .mixedOrders = true := by kernel_rfl
  have n1 := rec0_neq
  have n2 := edg0_neq
  have HK := hd (r4_kindOf pk)
  have H1 := hd (r4_in pa 0 4194304)
  have H2 := hd (r4_in pn 1 4194304)
  rw [decide_eq_true hk] at HK
  rw [decide_eq_false hb1] at H1
  generalize decide (1 ≤ pn ∧ pn ≤ 4194304) = b2 at H2
  clear hk hb1
  go_enter Try.func29, Try.ntmps29
  go_wp2_with fail
  refine Calls.mono (HK.out _) ?_
  rintro e w1 ⟨rfl, rfl⟩
  go_wp2_with fail
  refine Calls.mono (H1.out _) ?_
  rintro e w1 ⟨rfl, rfl⟩
  go_wp2_with fail
  refine Calls.mono (H2.out _) ?_
  rintro e w1 ⟨rfl, rfl⟩
  go_wp2_with fail
  go_ret
  exact ⟨rfl, below_one _ _⟩
theorem may_hint (pl : Nat) (pk pa pn : Int) (pkey : ByteArray) (w : World) :
    Calls Try.prog 29 #[.agg #[.int .i64 3, .int .u64 0, .int .i64 0, .string ⟨#[]⟩, .string ⟨#[]⟩, .int .u64 (pl : Int), .int .i64 pk, .int .i64 pa, .int .i64 pn, .string pkey, .int .i64 0, .int .i64 0, .int .i64 0, .int .u32 0]] w fun e w' => e = .returned (.int .i64 (rf (hfrQ ⟨pl, pk, pa, pn, pkey⟩) : Int)) ∧ Below w.heap.size w w' := by
  rw [rf_hint]
  simp only
  by_cases hk : pk = 1 ∨ pk = 2
  · rw [if_neg (by omega)]
    by_cases h0 : pl = 0
    · have q0 : ((pl : Int) == 0) = true := by simp; exact h0
      rw [if_pos h0]
      by_cases hb1 : (0 ≤ pa ∧ pa ≤ 4194304)
      · by_cases hb2 : (1 ≤ pn ∧ pn ≤ 4194304)
        · exact may_hint_0tt pl pk pa pn pkey w hk q0 hb1 hb2
        · exact may_hint_0tf pl pk pa pn pkey w hk q0 hb1 hb2
      · exact may_hint_0ft pl pk pa pn pkey w hk q0 hb1
    · have q0 : ((pl : Int) == 0) = false := by simp; exact h0
      rw [if_neg h0]
      by_cases h1 : pkey.size = 0
      · have q1 : ((pkey.size : Int) == 0) = true := by rw [h1]; rfl
        rw [if_pos (by omega)]
        by_cases hb1 : (0 ≤ pa ∧ pa ≤ 4194304)
        · by_cases hb2 : (1 ≤ pn ∧ pn ≤ 4194304)
          · exact may_hint_1tt pl pk pa pn pkey w hk q0 q1 hb1 hb2
          · exact may_hint_1tf pl pk pa pn pkey w hk q0 q1 hb1 hb2
        · exact may_hint_1ft pl pk pa pn pkey w hk q0 q1 hb1
      · have q1 : ((pkey.size : Int) == 0) = false := by rw [beq_eq_false_iff_ne]; omega
        by_cases h2 : 64 < pkey.size
        · have q2 : (pkey.size : Int) > 64 := by omega
          rw [if_pos (by omega)]
          by_cases hb1 : (0 ≤ pa ∧ pa ≤ 4194304)
          · by_cases hb2 : (1 ≤ pn ∧ pn ≤ 4194304)
            · exact may_hint_2tt pl pk pa pn pkey w hk q0 q1 q2 hb1 hb2
            · exact may_hint_2tf pl pk pa pn pkey w hk q0 q1 q2 hb1 hb2
          · exact may_hint_2ft pl pk pa pn pkey w hk q0 q1 q2 hb1
        · have q2 : ¬ (pkey.size : Int) > 64 := by omega
          rw [if_neg (by omega)]
          by_cases hb1 : (0 ≤ pa ∧ pa ≤ 4194304)
          · by_cases hb2 : (1 ≤ pn ∧ pn ≤ 4194304)
            · rw [if_neg (fun q => q ⟨hb1, hb2⟩)]
              exact may_hint_3tt pl pk pa pn pkey w hk q0 q1 q2 hb1 hb2
            · rw [if_pos (fun q => hb2 q.2)]
              exact may_hint_4tf pl pk pa pn pkey w hk q0 q1 q2 hb1 hb2
          · rw [if_pos (fun q => hb1 q.1)]
            exact may_hint_4ft pl pk pa pn pkey w hk q0 q1 q2 hb1
  · rw [if_pos (by omega)]
    exact may_hint_kind pl pk pa pn pkey w hk
set_option maxRecDepth 100000 in
set_option maxHeartbeats 2000000 in
theorem may_foot_ttt (ec eb ef : Int) (es : Nat) (w : World) (h1 : (0 ≤ ec ∧ ec ≤ 4194304)) (h2 : (0 ≤ eb ∧ eb ≤ 4194304)) (h3 : (0 ≤ ef ∧ ef ≤ 4194304)) :
    Calls Try.prog 29 #[.agg #[.int .i64 4, .int .u64 0, .int .i64 0, .string ⟨#[]⟩, .string ⟨#[]⟩, .int .u64 0, .int .i64 0, .int .i64 0, .int .i64 0, .string ⟨#[]⟩, .int .i64 ec, .int .i64 eb, .int .i64 ef, .int .u32 (es : Int)]] w fun e w' => e = .returned (.int .i64 0) ∧ Below w.heap.size w w' := by
  have hmx : Try.prog.follows .mixedOrders = true := by kernel_rfl
  have n1 := rec0_neq
  have n2 := ptr0_neq
  have H1 := hd (r4_in ec 0 4194304)
  have H2 := hd (r4_in eb 0 4194304)
  have H3 := hd (r4_in ef 0 4194304)
  rw [decide_eq_true h1] at H1
  rw [decide_eq_true h2] at H2
  rw [decide_eq_true h3] at H3
  clear h1 h2 h3
  go_enter Try.func29, Try.ntmps29
  go_wp2_with fail
  refine Calls.mono (H1.out _) ?_
  rintro e w1 ⟨rfl, rfl⟩
  go_wp2_with fail
  refine Calls.mono (H2.out _) ?_
  rintro e w1 ⟨rfl, rfl⟩
  go_wp2_with fail
  refine Calls.mono (H3.out _) ?_
  rintro e w1 ⟨rfl, rfl⟩
  go_wp2_with fail
  go_ret
  exact ⟨rfl, below_one _ _⟩
set_option maxRecDepth 100000 in
set_option maxHeartbeats 2000000 in
theorem may_foot_ttf (ec eb ef : Int) (es : Nat) (w : World) (h1 : (0 ≤ ec ∧ ec ≤ 4194304)) (h2 : (0 ≤ eb ∧ eb ≤ 4194304)) (h3 : ¬ (0 ≤ ef ∧ ef ≤ 4194304)) :
    Calls Try.prog 29 #[.agg #[.int .i64 4, .int .u64 0, .int .i64 0, .string ⟨#[]⟩, .string ⟨#[]⟩, .int .u64 0, .int .i64 0, .int .i64 0, .int .i64 0, .string ⟨#[]⟩, .int .i64 ec, .int .i64 eb, .int .i64 ef, .int .u32 (es : Int)]] w fun e w' => e = .returned (.int .i64 40) ∧ Below w.heap.size w w' := by
  have hmx : Try.prog.follows .mixedOrders = true := by kernel_rfl
  have n1 := rec0_neq
  have n2 := ptr0_neq
  have H1 := hd (r4_in ec 0 4194304)
  have H2 := hd (r4_in eb 0 4194304)
  have H3 := hd (r4_in ef 0 4194304)
  rw [decide_eq_true h1] at H1
  rw [decide_eq_true h2] at H2
  rw [decide_eq_false h3] at H3
  clear h1 h2 h3
  go_enter Try.func29, Try.ntmps29
  go_wp2_with fail
  refine Calls.mono (H1.out _) ?_
  rintro e w1 ⟨rfl, rfl⟩
  go_wp2_with fail
  refine Calls.mono (H2.out _) ?_
  rintro e w1 ⟨rfl, rfl⟩
  go_wp2_with fail
  refine Calls.mono (H3.out _) ?_
  rintro e w1 ⟨rfl, rfl⟩
  go_wp2_with fail
  go_ret
  exact ⟨rfl, below_one _ _⟩
set_option maxRecDepth 100000 in
set_option maxHeartbeats 2000000 in
theorem may_foot_tf (ec eb ef : Int) (es : Nat) (w : World) (h1 : (0 ≤ ec ∧ ec ≤ 4194304)) (h2 : ¬ (0 ≤ eb ∧ eb ≤ 4194304)) :
    Calls Try.prog 29 #[.agg #[.int .i64 4, .int .u64 0, .int .i64 0, .string ⟨#[]⟩, .string ⟨#[]⟩, .int .u64 0, .int .i64 0, .int .i64 0, .int .i64 0, .string ⟨#[]⟩, .int .i64 ec, .int .i64 eb, .int .i64 ef, .int .u32 (es : Int)]] w fun e w' => e = .returned (.int .i64 40) ∧ Below w.heap.size w w' := by
  have hmx : Try.prog.follows .mixedOrders = true := by kernel_rfl
  have n1 := rec0_neq
  have n2 := ptr0_neq
  have H1 := hd (r4_in ec 0 4194304)
  have H2 := hd (r4_in eb 0 4194304)
  have H3 := hd (r4_in ef 0 4194304)
  rw [decide_eq_true h1] at H1
  rw [decide_eq_false h2] at H2
  generalize decide (0 ≤ ef ∧ ef ≤ 4194304) = b3 at H3
  clear h1 h2
  go_enter Try.func29, Try.ntmps29
  go_wp2_with fail
  refine Calls.mono (H1.out _) ?_
  rintro e w1 ⟨rfl, rfl⟩
  go_wp2_with fail
  refine Calls.mono (H2.out _) ?_
  rintro e w1 ⟨rfl, rfl⟩
  go_wp2_with fail
  refine Calls.mono (H3.out _) ?_
  rintro e w1 ⟨rfl, rfl⟩
  go_wp2_with fail
  go_ret
  exact ⟨rfl, below_one _ _⟩
set_option maxRecDepth 100000 in
set_option maxHeartbeats 2000000 in
theorem may_foot_f (ec eb ef : Int) (es : Nat) (w : World) (h1 : ¬ (0 ≤ ec ∧ ec ≤ 4194304)) :
    Calls Try.prog 29 #[.agg #[.int .i64 4, .int .u64 0, .int .i64 0, .string ⟨#[]⟩, .string ⟨#[]⟩, .int .u64 0, .int .i64 0, .int .i64 0, .int .i64 0, .string ⟨#[]⟩, .int .i64 ec, .int .i64 eb, .int .i64 ef, .int .u32 (es : Int)]] w fun e w' => e = .returned (.int .i64 40) ∧ Below w.heap.size w w' := by
  have hmx : Try.prog.follows .mixedOrders = true := by kernel_rfl
  have n1 := rec0_neq
  have n2 := ptr0_neq
  have H1 := hd (r4_in ec 0 4194304)
  have H2 := hd (r4_in eb 0 4194304)
  have H3 := hd (r4_in ef 0 4194304)
  rw [decide_eq_false h1] at H1
  generalize decide (0 ≤ eb ∧ eb ≤ 4194304) = b2 at H2
  generalize decide (0 ≤ ef ∧ ef ≤ 4194304) = b3 at H3
  clear h1
  go_enter Try.func29, Try.ntmps29
  go_wp2_with fail
  refine Calls.mono (H1.out _) ?_
  rintro e w1 ⟨rfl, rfl⟩
  go_wp2_with fail
  refine Calls.mono (H2.out _) ?_
  rintro e w1 ⟨rfl, rfl⟩
  go_wp2_with fail
  refine Calls.mono (H3.out _) ?_
  rintro e w1 ⟨rfl, rfl⟩
  go_wp2_with fail
  go_ret
  exact ⟨rfl, below_one _ _⟩
theorem rf_foot (e : Edg) : rf (ffrQ e) = if (0 ≤ e.count ∧ e.count ≤ 4194304) ∧ (0 ≤ e.bytes ∧ e.bytes ≤ 4194304) ∧ (0 ≤ e.frames ∧ e.frames ≤ 4194304) then 0 else 40 := by
  unfold rf rfE ffrQ onD
  simp only
  rw [if_neg (by omega), if_neg (by omega), if_pos trivial]
  by_cases h : (0 ≤ e.count ∧ e.count ≤ 4194304) ∧ (0 ≤ e.bytes ∧ e.bytes ≤ 4194304) ∧ (0 ≤ e.frames ∧ e.frames ≤ 4194304)
  · rw [if_neg (by omega), if_neg (by simp), if_pos h]
  · rw [if_pos (by omega), if_neg h]
theorem may_foot (ec eb ef : Int) (es : Nat) (w : World) :
    Calls Try.prog 29 #[.agg #[.int .i64 4, .int .u64 0, .int .i64 0, .string ⟨#[]⟩, .string ⟨#[]⟩, .int .u64 0, .int .i64 0, .int .i64 0, .int .i64 0, .string ⟨#[]⟩, .int .i64 ec, .int .i64 eb, .int .i64 ef, .int .u32 (es : Int)]] w fun e w' => e = .returned (.int .i64 (rf (ffrQ ⟨ec, eb, ef, es⟩) : Int)) ∧ Below w.heap.size w w' := by
  rw [rf_foot]
  simp only
  by_cases h1 : (0 ≤ ec ∧ ec ≤ 4194304)
  · by_cases h2 : (0 ≤ eb ∧ eb ≤ 4194304)
    · by_cases h3 : (0 ≤ ef ∧ ef ≤ 4194304)
      · rw [if_pos ⟨h1, h2, h3⟩]; exact may_foot_ttt ec eb ef es w h1 h2 h3
      · rw [if_neg (fun q => h3 q.2.2)]; exact may_foot_ttf ec eb ef es w h1 h2 h3
    · rw [if_neg (fun q => h2 q.2.1)]; exact may_foot_tf ec eb ef es w h1 h2
  · rw [if_neg (fun q => h1 q.1)]; exact may_foot_f ec eb ef es w h1
set_option maxRecDepth 100000 in
theorem may_none (k : Int) (w : World) (q1 : (k == 1) = false) (q2 : (k == 2) = false) (q3 : (k == 3) = false) (q4 : (k == 4) = false) :
    Calls Try.prog 29 #[.agg #[.int .i64 k, .int .u64 0, .int .i64 0, .string ⟨#[]⟩, .string ⟨#[]⟩, .int .u64 0, .int .i64 0, .int .i64 0, .int .i64 0, .string ⟨#[]⟩, .int .i64 0, .int .i64 0, .int .i64 0, .int .u32 0]] w fun e w' => e = .returned (.int .i64 46) ∧ Below w.heap.size w w' := by
  go_enter Try.func29, Try.ntmps29
  go_wp2_with fail
  go_ret
  exact ⟨rfl, below_one _ _⟩
end Vt
end Go.Proofs.Ytnjhbidialngmaa
