/-
  THE WALK OF the law's 'same' (are two lists of bytes the same?).
  THE LAW's lent AND kept (stage 10): bytes of one's own with two marked places behind them.
-/
import Derived.Test.YtnjhbidialngmaaXhac
import Derived.Test.YtnjhbidialngmaaXhaa
namespace Go.Proofs.Ytnjhbidialngmaa
open Go.RowKit
namespace Vt
set_option maxRecDepth 100000 in
set_option maxHeartbeats 400000 in
theorem hsame_row (ba oa ca bb ob cb : Nat) (la lb : List Nat) (w : World) (hl : la.length = lb.length) (hA : Row w ba oa la) (hB : Row w bb ob lb) (hm : la.length ≤ maxLen) :
    Calls Try.prog 20 #[.slice (some ⟨ba, oa, none⟩) la.length ca, .slice (some ⟨bb, ob, none⟩) la.length cb] w fun e w' => e = .returned (.bool (decide (la = lb))) ∧ ∃ n, w' = w.drewN n := by
  unfold maxLen at hm
  have HA := hd hA
  have HB := hd hB
  have HL := hd hl
  clear hA hB hl
  go_enter Try.func20, Try.ntmps20
  go_wp2
  go_loopw [4, 5] (fun o i wr => ∃ k n : Nat, k ≤ la.length ∧ o = .bool false ∧ i = .int .i64 (k : Int) ∧ wr = w.drewN n ∧ ∀ j, j < k → la.getD j 0 = lb.getD j 0) (fun _ i _ => la.length - (intOf i).toNat)
  case atStart => exact ⟨0, 0, by omega, rfl, rfl, rfl, by intro j hj; omega⟩
  case round =>
    obtain ⟨k, n, hk, rfl, rfl, rfl, he⟩ := hrel
    have HE := hd he
    clear he
    by_cases hlt : k < la.length
    · have ha := HA.out k hlt
      have hb := HB.out k (by rw [← HL.out]; exact hlt)
      by_cases hq : la.getD k 0 = lb.getD k 0
      · have HE2 : Hid (∀ j, j < k + 1 → la.getD j 0 = lb.getD j 0) := by
          intro j hj
          rcases Nat.lt_or_ge j k with h | h
          · exact HE.out j h
          · rw [show j = k by omega]; exact hq
        rw [← hq] at hb
        generalize la.getD k 0 = p at ha hb
        clear hq
        go_wp2
        go_quiet (fail)
        go_wp2
        go_roundw
        case rel => exact ⟨k + 1, _, by omega, rfl, by go_num, rfl, HE2.out⟩
        case measure => simp [intOf]; omega
      · have HNE : Hid (decide (la = lb) = false) := by
          show decide (la = lb) = false
          rw [decide_eq_false_iff_not]; intro e; rw [e] at hq; exact hq rfl
        generalize la.getD k 0 = p at ha hq
        generalize lb.getD k 0 = q at hb hq
        have hpq : ((p : Int) != (q : Int)) = true := by simp; omega
        go_wp2
        go_quiet (fail)
        go_wp2
        go_ret
        exact ⟨by rw [HNE.out]; rfl, drewN2 _ _ _⟩
    · obtain rfl : k = la.length := by omega
      have hy : decide (la = lb) = true := by rw [decide_eq_true_iff]; exact ext_getD HL.out HE.out
      have HY := hd hy
      clear hy
      go_wp2
      go_ret
      exact ⟨by rw [HY.out]; rfl, n, rfl⟩
set_option maxRecDepth 100000 in
set_option maxHeartbeats 400000 in
theorem hsame_nil (a : Option Addr) (c : Nat) (b : Option Addr) (c2 : Nat) (w : World) :
    Calls Try.prog 20 #[.slice a 0 c, .slice b 0 c2] w fun e w' => e = .returned (.bool true) ∧ w' = w := by
  go_enter Try.func20, Try.ntmps20
  go_wp2
  go_loopw [4, 5] (fun o i wr => o = .bool false ∧ i = .int .i64 0 ∧ wr = w) (fun _ _ _ => 0)
  case atStart => exact ⟨rfl, rfl, rfl⟩
  case round =>
    obtain ⟨rfl, rfl, rfl⟩ := hrel
    go_wp2
    go_ret
    exact ⟨rfl, rfl⟩
set_option maxRecDepth 100000 in
set_option maxHeartbeats 400000 in
theorem hsame_unlike (a : Option Addr) (c : Nat) (b : Option Addr) (c2 n m : Nat) (w : World) (h : n ≠ m) :
    Calls Try.prog 20 #[.slice a n c, .slice b m c2] w fun e w' => e = .returned (.bool false) ∧ w' = w := by
  have hne : ((n : Int) != (m : Int)) = true := by simp; omega
  go_enter Try.func20, Try.ntmps20
  go_wp2
  go_ret
  exact ⟨rfl, rfl⟩
theorem hsame_is (va vb : Value) (la lb : List Nat) (w : World) (hA : IsB w va la) (hB : IsB w vb lb) :
    Calls Try.prog 20 #[va, vb] w fun e w' => e = .returned (.bool (decide (la = lb))) ∧ ∃ n, w' = w.drewN n := by
  by_cases hl : la.length = lb.length
  · by_cases h0 : la.length = 0
    · obtain rfl : la = [] := List.length_eq_zero_iff.1 h0
      obtain rfl : lb = [] := List.length_eq_zero_iff.1 (by omega)
      obtain ⟨a, ca, rfl⟩ := hA.shape
      obtain ⟨b, cb, rfl⟩ := hB.shape
      refine (hsame_nil a ca b cb w).mono ?_
      rintro e w' ⟨rfl, rfl⟩
      exact ⟨rfl, 0, rfl⟩
    · obtain ⟨_, hm, ⟨rfl, _⟩ | ⟨ba, oa, ca, rfl, _, _, _, hr⟩⟩ := hA
      · simp at h0
      · obtain ⟨_, _, ⟨rfl, _⟩ | ⟨bb, ob, cb, rfl, _, _, _, hs⟩⟩ := hB
        · simp at hl; simp [hl] at h0
        · rw [← hl]; exact hsame_row ba oa ca bb ob cb la lb w hl hr hs hm
  · obtain ⟨a, ca, rfl⟩ := hA.shape
    obtain ⟨b, cb, rfl⟩ := hB.shape
    refine (hsame_unlike a ca b cb _ _ w hl).mono ?_
    rintro e w' ⟨rfl, rfl⟩
    exact ⟨by rw [decide_eq_false]; intro e; exact hl (by rw [e]), 0, rfl⟩
end Vt
end Go.Proofs.Ytnjhbidialngmaa
namespace Go.Proofs.Ytnjhbidialngmaa
open Go.RowKit
namespace Vt
attribute [local go_sem] Oper.semAt_some
theorem jbK_alloc {w : World} {base : Nat} {v : Value} {l : List Nat} (h : JB w base v l) (o : Obj) : JB (w.alloc o) base v l := h.keepAll ((Below.refl _ _).alloc (Nat.le_refl _) o)
theorem jb_some {w : World} {base n cap : Nat} {a : Option Addr} {l : List Nat} (h : JB w base (.slice a n cap) l) (hl : l ≠ []) : ∃ g, a = some ⟨g, 0, none⟩ := by
  rcases h.2.2 with ⟨e, h0⟩ | ⟨g', cap', cur, e, _⟩
  · exact absurd (List.length_eq_zero_iff.1 h0) hl
  · injection e with e1; exact ⟨g', e1⟩
set_option maxRecDepth 100000 in
set_option maxHeartbeats 1000000 in
theorem hlent_is (v : Value) (l : List Nat) (w : World) (hI : IsB w v l) (hm : l.length ≤ 140737488351232) :
    Calls Try.prog 16 #[v] w fun e w' => ∃ g c, e = .returned (.slice (some ⟨g, 0, none⟩) l.length c) ∧ JB w' w.heap.size (.slice (some ⟨g, 0, none⟩) (l.length + 2) c) (l ++ [167, 90]) ∧ Below w.heap.size w w' := by
  obtain ⟨a, c, rfl⟩ := hI.shape
  have HI := hd hI
  clear hI
  go_enter Try.func16, Try.ntmps16
  go_wp2_with (first
    | (at_builtin; refine wpList_append_jb _ rfl _ _ rfl w.heap.size _ _ [] l rfl rfl (jb_nil _ _) HI.out l.length (by simp) l (by simp) (by omega) (Nat.le_refl _) ?_; intro a3 c3 w3 hJ3 hg3 hc3; have HJ3 := hd hJ3; have HG3 := hd ((jb_nil w w.heap.size).grown (Below.refl _ _) (Nat.le_refl _) (Nat.le_refl _) hg3); clear hJ3 hg3; have hs3 := HG3.out.size)
    | (at_builtin; refine wpList_append_jb _ rfl _ _ rfl w.heap.size _ _ l [167, 90] rfl rfl (jbK_alloc HJ3.out _) (lit_isK .u8 256 _ _ 5 [167, 90] 2 rfl (by simp) (by intro y hy; simp at hy; omega) (by simp [maxLen])) (l.length + 2) (by simp) (l ++ [167, 90]) rfl (by omega) (by simp; omega) ?_; intro a4 c4 w4 hJ4 hg4 hc4; have HG4 := hd ((jbK_alloc HJ3.out (.cells #[.int .u8 167, .int .u8 90] 5)).grown (HG3.out.alloc hs3 _) (Nat.le_refl _) (by simp; omega) hg4); obtain ⟨g, rfl⟩ := jb_some hJ4 (by simp); have HJ4 := hd hJ4; clear hJ4 hg4))
  go_ret
  exact ⟨_, _, rfl, HJ4.out, HG4.out⟩
theorem lent2_isB {w : World} {base g c : Nat} {l : List Nat} (h : JB w base (.slice (some ⟨g, 0, none⟩) (l.length + 2) c) (l ++ [167, 90])) : IsB w (.slice (some ⟨g, 0, none⟩) l.length c) l := by
  have h1 := IsK.take h.isB l.length (by simp)
  rwa [List.take_left] at h1
set_option maxRecDepth 100000 in
set_option maxHeartbeats 1000000 in
theorem hkept_is (g c base : Nat) (l : List Nat) (v : Value) (w : World) (hJ : JB w base (.slice (some ⟨g, 0, none⟩) (l.length + 2) c) (l ++ [167, 90])) (hI : IsB w v l) (hm : l.length ≤ 140737488351232) :
    Calls Try.prog 19 #[.slice (some ⟨g, 0, none⟩) l.length c, v] w fun e w' => e = .returned (.bool true) ∧ Below w.heap.size w w' := by
  obtain ⟨a, cv, rfl⟩ := hI.shape
  have hI2 := lent2_isB hJ
  have r0 := hJ.isB.row l.length (by simp)
  have r1 := hJ.isB.row (l.length + 1) (by simp)
  have hcap : l.length + 2 ≤ c := by
    obtain ⟨a', c', e, h⟩ := hJ.shape
    injection e with e1 e2 e3
    rw [List.length_append, List.length_cons, List.length_cons, List.length_nil] at h
    omega
  have e0 : (l ++ [167, 90]).getD l.length 0 = 167 := by rw [List.getD_eq_getElem?_getD, List.getElem?_append_right (Nat.le_refl _)]; simp
  have e1 : (l ++ [167, 90]).getD (l.length + 1) 0 = 90 := by rw [List.getD_eq_getElem?_getD, List.getElem?_append_right (by omega)]; simp
  rw [e0, Nat.zero_add] at r0
  rw [e1, Nat.zero_add] at r1
  simp only [Int.cast_ofNat_Int] at r0 r1
  have HSA := hd (hsame_is _ _ l l w hI2 hI)
  have HY : Hid (decide (l = l) = true) := by simp [Hid]
  clear hI hI2 hJ e0 e1
  go_enter Try.func19, Try.ntmps19
  go_wp2_with fail
  refine Calls.mono HSA.out ?_
  rintro e w2 ⟨rfl, n, rfl⟩
  rw [HY.out]
  go_wp2_with fail
  go_ret
  exact ⟨rfl, below_drewN (Below.refl _ _) _⟩
end Vt
end Go.Proofs.Ytnjhbidialngmaa
