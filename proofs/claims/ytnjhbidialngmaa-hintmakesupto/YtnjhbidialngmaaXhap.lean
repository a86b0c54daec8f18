/-
  A FRAME, A RECORD AS AN ARGUMENT: what the form of a call says of its cells.
  THE WALK OF the law's 'same' (are two lists of bytes the same?).
  A frame that is cut short is none.
  A BODY THAT IS FRAMED BY HAND, PLAINLY; rows of the call's own that were written out.
  THE REFERENCE OF LAYER 4: salvorref4.Of, in, kindOf, number.
  THE REFERENCE OF LAYER 4: salvorref4.May of a Put's or a Delete's frame.
-/
import Derived.Test.YtnjhbidialngmaaXhao
import Derived.Test.YtnjhbidialngmaaXhac
import Derived.Test.YtnjhbidialngmaaXhan
import Derived.Test.YtnjhbidialngmaaXhad
namespace Go.Proofs.Ytnjhbidialngmaa
open Go.ChangeShapes Go.WideShapes Go.ChangeAt Go.RowKit
namespace Vt
end Vt
end Go.Proofs.Ytnjhbidialngmaa
namespace Go.Proofs.Ytnjhbidialngmaa
open Go.RowKit
namespace Vt
end Vt
end Go.Proofs.Ytnjhbidialngmaa
namespace Go.Proofs.Ytnjhbidialngmaa
open Go.ChangeShapes Go.WideShapes Go.ChangeAt Go.RowKit
namespace Vt
end Vt
end Go.Proofs.Ytnjhbidialngmaa
namespace Go.Proofs.Ytnjhbidialngmaa
open Go.RowKit
namespace Vt
theorem opF_wr {l : List Nat} (hb : Byt l) {f : Fr} (h : opF (wr l) = some f) : rf f = 0 ∧ f.Wf ∧ bd f = l := by
  unfold opF at h
  split at h
  · rename_i c
    obtain ⟨o1, o2, o3⟩ := c
    rw [plain_wr] at o2 o3 h
    injection h with h
    obtain ⟨q1, q2⟩ := bd_prs hb o3 (by rw [o2]) (by rw [o2])
    rw [h] at o3 q1 q2
    exact ⟨o3, q2, q1⟩
  · cases h
/-- a list that is written out is a row of the call's own -/
theorem jb_lit (w : World) (base : Nat) (l : List Nat) (cs : Array Value) (n g : Nat) (hg : g = w.heap.size) (hcs : cs = (bs l).toArray) (hn : n = l.length) (hb : Byt l) (hm : l.length ≤ maxLen) (hbase : base ≤ w.heap.size) : JB (w.alloc (.cells cs 5)) base (.slice (some ⟨g, 0, none⟩) n n) l := by
  subst hg hcs hn
  refine ⟨hb, by simp [bs], .inr ⟨w.heap.size, l.length, (bs l).toArray, rfl, hbase, ?_, Nat.le_refl _, hm, by simp [bs], by rw [Nat.mul_one]; exact List.take_of_length_le (by simp [bs])⟩⟩
  show (w.heap.push _)[w.heap.size]? = _
  rw [Array.getElem?_push_size]
theorem JB.alloc {w : World} {base : Nat} {v : Value} {l : List Nat} (h : JB w base v l) (o : Obj) : JB (w.alloc o) base v l := h.keepAll ((Below.refl _ _).alloc (Nat.le_refl _) _)
end Vt
end Go.Proofs.Ytnjhbidialngmaa
namespace Go.Proofs.Ytnjhbidialngmaa
open Go.RowKit
namespace Vt
set_option maxHeartbeats 400000 in
theorem r4_in (n lo hi : Int) (w : World) : Calls Try.prog 62 #[.int .i64 n, .int .i64 lo, .int .i64 hi] w fun e w' => e = .returned (.bool (decide (lo ≤ n ∧ n ≤ hi))) ∧ w' = w := by
  by_cases h1 : lo ≤ n
  · by_cases h2 : n ≤ hi
    · rw [decide_eq_true (⟨h1, h2⟩ : lo ≤ n ∧ n ≤ hi)]
      have e : decide (n ≤ hi) = true := by simp; omega
      go_enter Try.func62, Try.ntmps62
      go_wp2
      go_ret
      exact ⟨rfl, rfl⟩
    · rw [decide_eq_false (show ¬ (lo ≤ n ∧ n ≤ hi) from fun q => h2 q.2)]
      have e : decide (n ≤ hi) = false := by simp; omega
      go_enter Try.func62, Try.ntmps62
      go_wp2
      go_ret
      exact ⟨rfl, rfl⟩
  · rw [decide_eq_false (show ¬ (lo ≤ n ∧ n ≤ hi) from fun q => h1 q.1)]
    go_enter Try.func62, Try.ntmps62
    go_wp2
    go_ret
    exact ⟨rfl, rfl⟩
set_option maxHeartbeats 400000 in
theorem r4_kindOf (k : Int) (w : World) : Calls Try.prog 61 #[.int .i64 k] w fun e w' => e = .returned (.bool (decide (k = 1 ∨ k = 2))) ∧ w' = w := by
  by_cases h1 : k = 1
  · subst h1
    go_enter Try.func61, Try.ntmps61
    go_wp2
    go_ret
    exact ⟨rfl, rfl⟩
  · by_cases h2 : k = 2
    · subst h2
      go_enter Try.func61, Try.ntmps61
      go_wp2
      go_ret
      exact ⟨rfl, rfl⟩
    · rw [decide_eq_false (show ¬ (k = 1 ∨ k = 2) by omega)]
      have e1 : (k == 1) = false := by simp; omega
      have e2 : (k == 2) = false := by simp; omega
      go_enter Try.func61, Try.ntmps61
      go_wp2
      go_ret
      exact ⟨rfl, rfl⟩
set_option maxRecDepth 100000 in
set_option maxHeartbeats 1000000 in
theorem r4_number (n : Nat) (w : World) (hn : n < 18446744073709551616) : Calls Try.prog 30 #[.int .u64 (n : Int)] w fun e w' => ∃ u, e = .returned u ∧ JB w' w.heap.size u (vrt n) ∧ Below w.heap.size w w' := by
  have HT := hd (vrt_ten hn)
  go_enter Try.func30, Try.ntmps30
  go_wp2_with fail
  go_loopw [0, 3] (fun y v wi => ∃ (m : Nat) (pre : List Nat), m < 18446744073709551616 ∧ y = .int .u64 (m : Int) ∧ vrt n = pre ++ vrt m ∧ JB wi w.heap.size v pre ∧ Below w.heap.size w wi) (fun y _ _ => (intOf y).toNat)
  case atStart => exact ⟨n, [], hn, rfl, rfl, jb_nil _ _, Below.refl _ _⟩
  case round =>
    obtain ⟨m, pre, hm2, rfl, hv, hJ, hB⟩ := hrel
    have HJ := hd hJ
    have HB := hd hB
    have HV := hd hv
    have hsz := hB.size
    have hfit : pre.length + 1 ≤ 10 := by
      have h1 := HT.out
      have h2 := vrt_len m
      rw [hv, List.length_append] at h1
      omega
    clear hJ hB hv
    by_cases h128 : 128 ≤ m
    · have q : decide ((127 : Int) < (m : Int)) = true := by simp; omega
      go_wp2_with (at_builtin; refine wpList_append_jb _ rfl _ _ rfl w.heap.size _ _ _ [m % 128 + 128] rfl rfl (HJ.out.alloc _) (lit_isK .u8 256 _ _ 5 [m % 128 + 128] 1 rfl (by simp) (by intro y hy; simp at hy; omega) (by simp [maxLen])) (pre.length + 1) rfl _ rfl (by omega) (by rw [World.size_alloc]; omega) ?_; intro a2 cap2 w2 hJ2 hg2 hc2)
      have HJ2 := hd hJ2
      have HB2 := hd ((HJ.out.alloc _).grown (HB.out.alloc hsz _) (Nat.le_refl _) (by rw [World.size_alloc]; omega) hg2)
      clear hJ2 hg2
      go_roundw
      case rel =>
        refine ⟨m / 128, pre ++ [m % 128 + 128], by omega, by go_num, ?_, HJ2.out, HB2.out⟩
        rw [HV.out, vrt_big h128, List.append_assoc]; rfl
      case measure => simp [intOf]; omega
    · have q : decide ((127 : Int) < (m : Int)) = false := by simp; omega
      go_wp2_with (at_builtin; refine wpList_append_jb _ rfl _ _ rfl w.heap.size _ _ _ [m] rfl rfl (HJ.out.alloc _) (lit_isK .u8 256 _ _ 5 [m] 1 rfl (by simp) (by intro y hy; simp at hy; omega) (by simp [maxLen])) (pre.length + 1) rfl _ rfl (by omega) (by rw [World.size_alloc]; omega) ?_; intro a2 cap2 w2 hJ2 hg2 hc2)
      have HJ2 := hd hJ2
      have HB2 := hd ((HJ.out.alloc _).grown (HB.out.alloc hsz _) (Nat.le_refl _) (by rw [World.size_alloc]; omega) hg2)
      clear hJ2 hg2
      have HF : Hid (vrt n = pre ++ [m]) := by
        show vrt n = pre ++ [m]
        rw [HV.out, vrt_small (by omega)]
      rw [HF.out]
      go_ret
      exact ⟨_, rfl, HJ2.out, HB2.out⟩
end Vt
end Go.Proofs.Ytnjhbidialngmaa
namespace Go.Proofs.Ytnjhbidialngmaa
open Go.RowKit
namespace Vt
theorem below_one (w : World) (A : Obj) : Below w.heap.size w (w.alloc A) := (Below.refl _ _).alloc (Nat.le_refl _) _
set_option maxRecDepth 100000 in
set_option maxHeartbeats 4000000 in
theorem may_put (rl : Nat) (rkey rval : ByteArray) (pl : Nat) (pk pa pn : Int) (pkey : ByteArray) (ec eb ef : Int) (es : Nat) (w : World) (b1 b2 : Bool)
    (hp : ∀ w, (binOp .neq 27 (.agg #[.int .u64 (pl : Int), .int .i64 pk, .int .i64 pa, .int .i64 pn, .string pkey]) (.agg #[.int .u64 0, .int .i64 0, .int .i64 0, .int .i64 0, .string ⟨#[]⟩])).run Try.prog w = .ok (.bool b1) w)
    (he : ∀ w, (binOp .neq 32 (.agg #[.int .i64 ec, .int .i64 eb, .int .i64 ef, .int .u32 (es : Int)]) (.agg #[.int .i64 0, .int .i64 0, .int .i64 0, .int .u32 0])).run Try.prog w = .ok (.bool b2) w)
    (x0 x1 x2 x3 : Bool) (q0 : (((rl : Nat) : Int) == 0) = x0) (q1 : (((rkey.size : Nat) : Int) == 0) = x1) (q2 : decide ((64 : Int) < ((rkey.size : Nat) : Int)) = x2) (q3 : decide ((2048 : Int) < ((rval.size : Nat) : Int)) = x3) :
    Calls Try.prog 29 #[.agg #[.int .i64 1, .int .u64 (rl : Int), .int .i64 1, .string rkey, .string rval, .int .u64 (pl : Int), .int .i64 pk, .int .i64 pa, .int .i64 pn, .string pkey, .int .i64 ec, .int .i64 eb, .int .i64 ef, .int .u32 (es : Int)]] w fun e w' => e = .returned (.int .i64 (if x0 then 47 else if x1 || x2 then 48 else if x3 then 49 else if b1 || b2 then 40 else 0)) ∧ Below w.heap.size w w' := by
  cases b1
  · cases b2
    all_goals (
      go_enter Try.func29, Try.ntmps29
      go_wp2_with fail
      cases x0 <;> cases x1 <;> cases x2 <;> cases x3
      all_goals go_wp2_with fail
      all_goals go_ret
      all_goals exact ⟨rfl, below_one _ _⟩)
  · go_enter Try.func29, Try.ntmps29
    go_wp2_with fail
    cases x0 <;> cases x1 <;> cases x2 <;> cases x3
    all_goals go_wp2_with fail
    all_goals go_ret
    all_goals exact ⟨rfl, below_one _ _⟩
end Vt
end Go.Proofs.Ytnjhbidialngmaa
