/-
  A BODY THAT IS FRAMED BY HAND, PLAINLY; rows of the call's own that were written out.
  THE REFERENCE OF LAYER 4: salvorref4.Of, in, kindOf, number.
-/
import Derived.Test.YtlddogigbodilaaQbi
import Derived.Test.YtlddogigbodilaaQah
import Derived.Test.YtlddogigbodilaaQae
import Derived.Test.YtlddogigbodilaaQat
namespace Go.Proofs.Ytlddogigbodilaa
open Go.RowKit
namespace Vt
theorem dcd_raw (W : List Nat) (S : Nat) (hno : ∀ x ∈ W, x ≠ 167) (hl : W.length < 2097152) (hSS : Crc.go 0 (dg 3 W.length ++ W) = S) : decF (167 :: (dg 3 W.length ++ (W ++ dg 5 S))) 0 = match opF W with | none => (zf, 0, 45) | some f => (f, W.length + 9, 0) := by
  have hS := Crc.go_lt 0 (dg 3 W.length ++ W)
  rw [hSS] at hS
  have hN3 : nm (dg 3 W.length) = W.length := by rw [nm_dg, p3]; omega
  have hS5 : nm (dg 5 S) = S := by rw [nm_dg, p5]; omega
  have d3 := dg_len 3 W.length
  have d5 := dg_len 5 S
  have hdig : dig (167 :: (dg 3 W.length ++ (W ++ dg 5 S))) = dg 3 W.length := by
    unfold dig
    rw [List.drop_succ_cons, List.drop_zero, List.take_append_of_le_length (by omega), List.take_of_length_le (by omega)]
  have hlen : (167 :: (dg 3 W.length ++ (W ++ dg 5 S))).length = W.length + 9 := by simp [d3, d5]; omega
  have hrl : rl (167 :: (dg 3 W.length ++ (W ++ dg 5 S))) = (W.length, 0) := by
    have := rl_0 (l := 167 :: (dg 3 W.length ++ (W ++ dg 5 S))) rfl (by rw [hdig]; exact dg_lt _ _) (by rw [hlen]; omega) (by rw [hdig, hN3, hlen]; omega)
    rw [this, hdig, hN3]
  have h4 : (167 :: (dg 3 W.length ++ (W ++ dg 5 S))).drop 4 = W ++ dg 5 S := by
    rw [show (4 : Nat) = 3 + 1 by omega, List.drop_succ_cons, List.drop_left' d3]
  have hE : ((167 :: (dg 3 W.length ++ (W ++ dg 5 S))).drop 4).take W.length = W := by rw [h4, List.take_left]
  have hT : ((167 :: (dg 3 W.length ++ (W ++ dg 5 S))).drop (4 + W.length)).take 5 = dg 5 S := by
    rw [← List.drop_drop, h4, List.drop_left, List.take_of_length_le (by omega)]
  have hM : ((167 :: (dg 3 W.length ++ (W ++ dg 5 S))).drop 1).take (3 + W.length) = dg 3 W.length ++ W := by
    rw [List.drop_succ_cons, List.drop_zero, ← List.append_assoc, List.take_left' (by rw [List.length_append, d3])]
  unfold decF
  rw [if_neg (by rw [hlen]; omega), show (0 : Int).toNat = 0 from rfl, List.drop_zero]
  unfold dcd
  rw [hrl]
  simp only
  rw [hE, hT, hM, if_neg (by simp), if_neg (by rw [nx_none hno]; omega), if_neg (fun q => q ⟨dg_lt _ _, by rw [hS5, hSS]⟩)]
  cases opF W <;> rfl
theorem opF_wr {l : List Nat} (hb : Byt l) {f : Fr} (h : opF (wr l) = some f) : rf f = 0 ∧ f.Wf ∧ bd f = l := by
  unfold opF at h
  split at h
  · rename_i c
    obtain ⟨o1, o2, o3⟩ := c
    rw [plain_wr] at o2 o3 h
    injection h with h
    obtain ⟨q1, q2⟩ := bd_prs hb o3 (by rw [o2]) (by rw [o2])
    rw [h] at o3 q1 q2
    exact ⟨o3, q2, q1⟩
  · cases h
/-- a list that is written out is a row of the call's own -/
theorem jb_lit (w : World) (base : Nat) (l : List Nat) (cs : Array Value) (n g : Nat) (hg : g = w.heap.size) (hcs : cs = (bs l).toArray) (hn : n = l.length) (hb : Byt l) (hm : l.length ≤ maxLen) (hbase : base ≤ w.heap.size) : JB (w.alloc (.cells cs 5)) base (.slice (some ⟨g, 0, none⟩) n n) l := by
  subst hg hcs hn
  refine ⟨hb, by simp [bs], .inr ⟨w.heap.size, l.length, (bs l).toArray, rfl, hbase, ?_, Nat.le_refl _, hm, by simp [bs], by rw [Nat.mul_one]; exact List.take_of_length_le (by simp [bs])⟩⟩
  show (w.heap.push _)[w.heap.size]? = _
  rw [Array.getElem?_push_size]
theorem dg3_eq (N : Nat) (h : N < 2097152) : dg 3 N = [N / 16384, N / 128 % 128, N % 128] := by
  simp only [dg]
  simp
  omega
theorem dg5_eq (S : Nat) (h : S < 4294967296) : dg 5 S = [S / 268435456, S / 2097152 % 128, S / 16384 % 128, S / 128 % 128, S % 128] := by
  simp only [dg]
  simp
  omega
theorem JB.alloc {w : World} {base : Nat} {v : Value} {l : List Nat} (h : JB w base v l) (o : Obj) : JB (w.alloc o) base v l := h.keepAll ((Below.refl _ _).alloc (Nat.le_refl _) _)
end Vt
end Go.Proofs.Ytlddogigbodilaa
namespace Go.Proofs.Ytlddogigbodilaa
open Go.RowKit
namespace Vt
set_option maxHeartbeats 400000 in
theorem r4_in (n lo hi : Int) (w : World) : Calls Try.prog 110 #[.int .i64 n, .int .i64 lo, .int .i64 hi] w fun e w' => e = .returned (.bool (decide (lo ≤ n ∧ n ≤ hi))) ∧ w' = w := by
  by_cases h1 : lo ≤ n
  · by_cases h2 : n ≤ hi
    · rw [decide_eq_true (⟨h1, h2⟩ : lo ≤ n ∧ n ≤ hi)]
      have e : decide (n ≤ hi) = true := by simp; omega
      go_enter Try.func110, Try.ntmps110
      go_wp2
      go_ret
      exact ⟨rfl, rfl⟩
    · rw [decide_eq_false (show ¬ (lo ≤ n ∧ n ≤ hi) from fun q => h2 q.2)]
      have e : decide (n ≤ hi) = false := by simp; omega
      go_enter Try.func110, Try.ntmps110
      go_wp2
      go_ret
      exact ⟨rfl, rfl⟩
  · rw [decide_eq_false (show ¬ (lo ≤ n ∧ n ≤ hi) from fun q => h1 q.1)]
    go_enter Try.func110, Try.ntmps110
    go_wp2
    go_ret
    exact ⟨rfl, rfl⟩
set_option maxHeartbeats 400000 in
theorem r4_kindOf (k : Int) (w : World) : Calls Try.prog 109 #[.int .i64 k] w fun e w' => e = .returned (.bool (decide (k = 1 ∨ k = 2))) ∧ w' = w := by
  by_cases h1 : k = 1
  · subst h1
    go_enter Try.func109, Try.ntmps109
    go_wp2
    go_ret
    exact ⟨rfl, rfl⟩
  · by_cases h2 : k = 2
    · subst h2
      go_enter Try.func109, Try.ntmps109
      go_wp2
      go_ret
      exact ⟨rfl, rfl⟩
    · rw [decide_eq_false (show ¬ (k = 1 ∨ k = 2) by omega)]
      have e1 : (k == 1) = false := by simp; omega
      have e2 : (k == 2) = false := by simp; omega
      go_enter Try.func109, Try.ntmps109
      go_wp2
      go_ret
      exact ⟨rfl, rfl⟩
end Vt
end Go.Proofs.Ytlddogigbodilaa
