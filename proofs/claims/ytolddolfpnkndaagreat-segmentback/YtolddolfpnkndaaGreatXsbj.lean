/-
  THE WALKS OF THE LAW'S pick, record, fresh.
-/
import Derived.Test.YtolddolfpnkndaaGreatXsbi
namespace Go.Proofs.YtolddolfpnkndaaGreat
open Go.RowKit Go.Maps Go.Sort
namespace Sg
open Vt Dk
def pk (c : Int) (n : Nat) : Nat := (if c < 0 then (-(c + 1)).toNat else c.toNat) % n
theorem pk_lt (c : Int) {n : Nat} (h : 0 < n) : pk c n < n := Nat.mod_lt _ h
set_option maxRecDepth 100000 in
theorem pick9_is (c : Int) (n : Nat) (w : World) (h1 : -9223372036854775808 ≤ c) (h2 : c ≤ 9223372036854775807) (hn : 0 < n) (hn2 : n ≤ 9223372036854775807) :
    Calls Tryz.prog 8 #[.int .i64 c, .int .i64 (n : Int)] w fun e w' => e = .returned (.int .i64 ((pk c n : Nat) : Int)) ∧ w' = w := by
  have hnz : (((n : Nat) : Int) == 0) = false := by simp; omega
  have hne : ¬ ((n : Nat) : Int) = 0 := by omega
  by_cases h : c < 0
  · obtain ⟨k, hk⟩ : ∃ k : Nat, c = -((k : Int) + 1) := ⟨(-(c + 1)).toNat, by omega⟩
    have HS : Hid (pk c n = k % n) := by
      show pk c n = k % n
      unfold pk; rw [if_pos h, hk]
      congr 1
      omega
    rw [HS.out]
    go_enter Tryz.func8, Tryz.ntmps8
    go_wp2
    go_ret
    have e : (-((k : Int) + 1) + 1) = -(k : Int) := by omega
    refine ⟨?_, rfl⟩
    show Ending.returned (Value.int IntKind.i64 (-((-((k : Int) + 1) + 1).tmod (n : Int)))) = _
    rw [e, Int.neg_tmod, Int.neg_neg]
    rfl
  · obtain ⟨k, rfl⟩ : ∃ k : Nat, c = (k : Int) := ⟨c.toNat, by omega⟩
    have HS : Hid (pk (k : Int) n = k % n) := by
      show pk (k : Int) n = k % n
      unfold pk; rw [if_neg h, Int.toNat_natCast]
    rw [HS.out]
    go_enter Tryz.func8, Tryz.ntmps8
    go_wp2
    go_ret
    exact ⟨rfl, rfl⟩
def cutS (n : Nat) (s : ByteArray) : ByteArray := if n < s.size then s.extract 0 n else s
structure Ln where
  key : ByteArray
  val : ByteArray
  gone : Bool
  syn : Bool
def lnv (l : Ln) : List Value := [.string l.key, .string l.val, .bool l.gone, .bool l.syn]
def kS : ByteArray := ⟨#[107]⟩
def lnR (l : Ln) (i : Nat) : Rec := ⟨i + 1, if l.gone then 2 else 1, cutS 64 (kS ++ l.key), if l.gone then ByteArray.empty else cutS 300 l.val⟩
theorem heap_mid (w : World) (A B C : Obj) : (((w.alloc A).alloc B).alloc C).heap[w.heap.size + 1]? = some B := ((MapKept.heap_alloc _ C).2 _ (by rw [alloc_size, alloc_size]; omega)).trans (heap_two w A B)
theorem kS_size (k : ByteArray) : (kS ++ k).size = 1 + k.size := by rw [ByteArray.size_append]; rfl
set_option maxRecDepth 100000 in
set_option maxHeartbeats 1000000 in
theorem record_is (l : Ln) (i : Nat) (w : World) (hk : l.key.size ≤ 140737488355328) (hv : l.val.size ≤ maxLen) (hi : i < 1000000) :
    Calls Tryz.prog 10 #[.agg #[.string l.key, .string l.val, .bool l.gone, .bool l.syn], .int .i64 (i : Int)] w fun e w' => e = .returned (.agg (rv (lnR l i))) ∧ Below w.heap.size w w' := by
  obtain ⟨key, val, gone, syn⟩ := l
  simp only at hk hv ⊢
  obtain ⟨R, hR⟩ : ∃ R, R = rv (lnR ⟨key, val, gone, syn⟩ i) := ⟨_, rfl⟩
  have hcast : (((i + 1 : Nat) : Nat) : Int) = (i : Int) + 1 := by omega
  rw [← hR]
  by_cases a : 64 < 1 + key.size
  · by_cases b : 300 < val.size
    · cases gone
      · have HR : Hid (R = #[.int .u64 ((i : Int) + 1), .int .i64 1, .string ((⟨#[107]⟩ ++ key).extract 0 64), .string (val.extract 0 300)]) := by
          show R = _
          rw [hR]
          unfold rv lnR
          simp only [hcast, Bool.false_eq_true, if_false]
          rw [show cutS 64 (kS ++ key) = (⟨#[107]⟩ ++ key).extract 0 64 from if_pos (by rw [kS_size]; omega)]
          rw [show cutS 300 val = val.extract 0 300 from if_pos (by omega)]
        have a1 : (64 : Int) < 1 + (key.size : Int) := by omega
        have b1 : (300 : Int) < (val.size : Int) := by omega
        clear hR a b
        go_enter Tryz.func10, Tryz.ntmps10
        go_wp2_with fail
        refine bodyPost_ret (results_cell_row rfl _ _ (w.heap.size + 1) 38 _ (0, 0) _ rfl (heap_mid w _ _ _) Tryz.underlying38 rfl (by kernel_rfl)) rfl ?_
        exact ⟨by rw [HR.out], (below_two w _ _).alloc (by simp; omega) _⟩
      · have HR : Hid (R = #[.int .u64 ((i : Int) + 1), .int .i64 2, .string ((⟨#[107]⟩ ++ key).extract 0 64), .string (⟨#[]⟩)]) := by
          show R = _
          rw [hR]
          unfold rv lnR
          simp only [hcast, if_true]
          rw [show cutS 64 (kS ++ key) = (⟨#[107]⟩ ++ key).extract 0 64 from if_pos (by rw [kS_size]; omega)]
          rfl
        have a1 : (64 : Int) < 1 + (key.size : Int) := by omega
        have b1 : (300 : Int) < (val.size : Int) := by omega
        clear hR a b
        go_enter Tryz.func10, Tryz.ntmps10
        go_wp2_with fail
        refine bodyPost_ret (results_cell_row rfl _ _ (w.heap.size + 1) 38 _ (0, 0) _ rfl (heap_mid w _ _ _) Tryz.underlying38 rfl (by kernel_rfl)) rfl ?_
        exact ⟨by rw [HR.out], (below_two w _ _).alloc (by simp; omega) _⟩
    · cases gone
      · have HR : Hid (R = #[.int .u64 ((i : Int) + 1), .int .i64 1, .string ((⟨#[107]⟩ ++ key).extract 0 64), .string (val)]) := by
          show R = _
          rw [hR]
          unfold rv lnR
          simp only [hcast, Bool.false_eq_true, if_false]
          rw [show cutS 64 (kS ++ key) = (⟨#[107]⟩ ++ key).extract 0 64 from if_pos (by rw [kS_size]; omega)]
          rw [show cutS 300 val = val from if_neg (by omega)]
        have a1 : (64 : Int) < 1 + (key.size : Int) := by omega
        have b1 : ¬ ((300 : Int) < (val.size : Int)) := by omega
        clear hR a b
        go_enter Tryz.func10, Tryz.ntmps10
        go_wp2_with fail
        refine bodyPost_ret (results_cell_row rfl _ _ (w.heap.size + 1) 38 _ (0, 0) _ rfl (heap_mid w _ _ _) Tryz.underlying38 rfl (by kernel_rfl)) rfl ?_
        exact ⟨by rw [HR.out], (below_two w _ _).alloc (by simp; omega) _⟩
      · have HR : Hid (R = #[.int .u64 ((i : Int) + 1), .int .i64 2, .string ((⟨#[107]⟩ ++ key).extract 0 64), .string (⟨#[]⟩)]) := by
          show R = _
          rw [hR]
          unfold rv lnR
          simp only [hcast, if_true]
          rw [show cutS 64 (kS ++ key) = (⟨#[107]⟩ ++ key).extract 0 64 from if_pos (by rw [kS_size]; omega)]
          rfl
        have a1 : (64 : Int) < 1 + (key.size : Int) := by omega
        have b1 : ¬ ((300 : Int) < (val.size : Int)) := by omega
        clear hR a b
        go_enter Tryz.func10, Tryz.ntmps10
        go_wp2_with fail
        refine bodyPost_ret (results_cell_row rfl _ _ (w.heap.size + 1) 38 _ (0, 0) _ rfl (heap_mid w _ _ _) Tryz.underlying38 rfl (by kernel_rfl)) rfl ?_
        exact ⟨by rw [HR.out], (below_two w _ _).alloc (by simp; omega) _⟩
  · by_cases b : 300 < val.size
    · cases gone
      · have HR : Hid (R = #[.int .u64 ((i : Int) + 1), .int .i64 1, .string (⟨#[107]⟩ ++ key), .string (val.extract 0 300)]) := by
          show R = _
          rw [hR]
          unfold rv lnR
          simp only [hcast, Bool.false_eq_true, if_false]
          rw [show cutS 64 (kS ++ key) = ⟨#[107]⟩ ++ key from if_neg (by rw [kS_size]; omega)]
          rw [show cutS 300 val = val.extract 0 300 from if_pos (by omega)]
        have a1 : ¬ ((64 : Int) < 1 + (key.size : Int)) := by omega
        have b1 : (300 : Int) < (val.size : Int) := by omega
        clear hR a b
        go_enter Tryz.func10, Tryz.ntmps10
        go_wp2_with fail
        refine bodyPost_ret (results_cell_row rfl _ _ (w.heap.size + 1) 38 _ (0, 0) _ rfl (heap_mid w _ _ _) Tryz.underlying38 rfl (by kernel_rfl)) rfl ?_
        exact ⟨by rw [HR.out], (below_two w _ _).alloc (by simp; omega) _⟩
      · have HR : Hid (R = #[.int .u64 ((i : Int) + 1), .int .i64 2, .string (⟨#[107]⟩ ++ key), .string (⟨#[]⟩)]) := by
          show R = _
          rw [hR]
          unfold rv lnR
          simp only [hcast, if_true]
          rw [show cutS 64 (kS ++ key) = ⟨#[107]⟩ ++ key from if_neg (by rw [kS_size]; omega)]
          rfl
        have a1 : ¬ ((64 : Int) < 1 + (key.size : Int)) := by omega
        have b1 : (300 : Int) < (val.size : Int) := by omega
        clear hR a b
        go_enter Tryz.func10, Tryz.ntmps10
        go_wp2_with fail
        refine bodyPost_ret (results_cell_row rfl _ _ (w.heap.size + 1) 38 _ (0, 0) _ rfl (heap_mid w _ _ _) Tryz.underlying38 rfl (by kernel_rfl)) rfl ?_
        exact ⟨by rw [HR.out], (below_two w _ _).alloc (by simp; omega) _⟩
    · cases gone
      · have HR : Hid (R = #[.int .u64 ((i : Int) + 1), .int .i64 1, .string (⟨#[107]⟩ ++ key), .string (val)]) := by
          show R = _
          rw [hR]
          unfold rv lnR
          simp only [hcast, Bool.false_eq_true, if_false]
          rw [show cutS 64 (kS ++ key) = ⟨#[107]⟩ ++ key from if_neg (by rw [kS_size]; omega)]
          rw [show cutS 300 val = val from if_neg (by omega)]
        have a1 : ¬ ((64 : Int) < 1 + (key.size : Int)) := by omega
        have b1 : ¬ ((300 : Int) < (val.size : Int)) := by omega
        clear hR a b
        go_enter Tryz.func10, Tryz.ntmps10
        go_wp2_with fail
        refine bodyPost_ret (results_cell_row rfl _ _ (w.heap.size + 1) 38 _ (0, 0) _ rfl (heap_mid w _ _ _) Tryz.underlying38 rfl (by kernel_rfl)) rfl ?_
        exact ⟨by rw [HR.out], (below_two w _ _).alloc (by simp; omega) _⟩
      · have HR : Hid (R = #[.int .u64 ((i : Int) + 1), .int .i64 2, .string (⟨#[107]⟩ ++ key), .string (⟨#[]⟩)]) := by
          show R = _
          rw [hR]
          unfold rv lnR
          simp only [hcast, if_true]
          rw [show cutS 64 (kS ++ key) = ⟨#[107]⟩ ++ key from if_neg (by rw [kS_size]; omega)]
          rfl
        have a1 : ¬ ((64 : Int) < 1 + (key.size : Int)) := by omega
        have b1 : ¬ ((300 : Int) < (val.size : Int)) := by omega
        clear hR a b
        go_enter Tryz.func10, Tryz.ntmps10
        go_wp2_with fail
        refine bodyPost_ret (results_cell_row rfl _ _ (w.heap.size + 1) 38 _ (0, 0) _ rfl (heap_mid w _ _ _) Tryz.underlying38 rfl (by kernel_rfl)) rfl ?_
        exact ⟨by rw [HR.out], (below_two w _ _).alloc (by simp; omega) _⟩
def w0S (lim evy : Int) : Ws := ⟨64 + pk lim 400, pk evy 6, true, 0, 0, 0⟩
set_option maxRecDepth 100000 in
set_option maxHeartbeats 1000000 in
theorem fresh_is (lim evy : Int) (w : World) (h1 : -9223372036854775808 ≤ lim) (h2 : lim ≤ 9223372036854775807) (h3 : -9223372036854775808 ≤ evy) (h4 : evy ≤ 9223372036854775807) :
    Calls Tryz.prog 6 #[.int .i64 lim, .int .i64 evy] w fun e w' => ∃ d b O, e = .returned (.tuple #[.pointer (some ⟨d, 0, none⟩), .pointer (some ⟨b, 0, none⟩)]) ∧ WK w' b d O (w0S lim evy) (ds0 1000000) ∧ Below w.heap.size w w' ∧ w.heap.size ≤ b ∧ ∀ x, O x → w.heap.size ≤ x := by
  have p1 := pk_lt lim (n := 400) (by omega)
  have p2 := pk_lt evy (n := 6) (by omega)
  have HP1 : Hid (∀ w, Calls Tryz.prog 8 #[.int .i64 lim, .int .i64 400] w fun e w' => e = .returned (.int .i64 ((pk lim 400 : Nat) : Int)) ∧ w' = w) := fun w => pick9_is lim 400 w h1 h2 (by omega) (by omega)
  have HP2 : Hid (∀ w, Calls Tryz.prog 8 #[.int .i64 evy, .int .i64 6] w fun e w' => e = .returned (.int .i64 ((pk evy 6 : Nat) : Int)) ∧ w' = w) := fun w => pick9_is evy 6 w h3 h4 (by omega) (by omega)
  have HW : Hid (w0S lim evy = ⟨64 + pk lim 400, pk evy 6, true, 0, 0, 0⟩) := rfl
  generalize w0S lim evy = W0 at *
  generalize pk lim 400 = a at *
  generalize pk evy 6 = b at *
  have HST : Hid (∀ (w : World) (d : Nat), Calls Tryz.prog 25 #[.pointer (some ⟨d, 0, none⟩), .int .i64 (64 + (a : Int)), .int .i64 (b : Int)] w fun e w' => e = .returned (.tuple #[.pointer (some ⟨w.heap.size, 0, none⟩), .int .i64 0]) ∧ Blk w' w.heap.size TW (wcs d W0) ∧ Below w.heap.size w w') := by
    intro w d
    have := start_is w d (64 + a) b (by omega) (by omega) (by omega)
    rw [show (((64 + a : Nat) : Nat) : Int) = 64 + (a : Int) by omega, ← HW.out] at this
    exact this
  go_enter Tryz.func6, Tryz.ntmps6
  go_wp2_with fail
  refine Calls.mono (new0_is w 1000000 (by omega)) ?_
  rintro e w1 ⟨d, O, rfl, hK, hT, hO⟩
  have HK := hd hK
  have HT := hd hT
  have HO := hd hO
  clear hK hT hO
  go_wp2_with fail
  refine Calls.mono (HP1.out _) ?_
  rintro e w2 ⟨rfl, rfl⟩
  go_wp2_with fail
  refine Calls.mono (HP2.out _) ?_
  rintro e w1 ⟨rfl, rfl⟩
  go_wp2_with fail
  refine Calls.mono (HST.out _ d) ?_
  rintro e w2 ⟨rfl, hB, hb⟩
  have HB := hd hB
  have Hb := hd hb
  clear hB hb
  go_wp2_with fail
  go_ret2
  exact ⟨d, w1.heap.size, O, rfl, ⟨HK.out.aside (Tr.ofB Hb.out (fun _ => False)) (fun _ _ q => q), HB.out, fun q => by have := HK.out.olt _ q; omega⟩, (HT.out.below (fun k q => q.elim) (Nat.le_refl _)).trans (Hb.out.mono HT.out.size), HT.out.size, HO.out⟩
end Sg
end Go.Proofs.YtolddolfpnkndaaGreat
