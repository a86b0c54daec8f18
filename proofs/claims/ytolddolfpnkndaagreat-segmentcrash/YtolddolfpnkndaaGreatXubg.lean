/-
  THE WALKS OF THE LAW'S pick, record, fresh.
  A LAW'S LINES PUT ONE BEHIND THE OTHER, PLAINLY: each frame is small; nothing is refused; where the places stand.
-/
import Derived.Test.YtolddolfpnkndaaGreatXubf
namespace Go.Proofs.YtolddolfpnkndaaGreat
open Go.RowKit Go.Maps Go.Sort
namespace Sg
open Vt Dk
def pk (c : Int) (n : Nat) : Nat := (if c < 0 then (-(c + 1)).toNat else c.toNat) % n
theorem pk_lt (c : Int) {n : Nat} (h : 0 < n) : pk c n < n := Nat.mod_lt _ h
set_option maxRecDepth 100000 in
theorem pick9_is (c : Int) (n : Nat) (w : World) (h1 : -9223372036854775808 ≤ c) (h2 : c ≤ 9223372036854775807) (hn : 0 < n) (hn2 : n ≤ 9223372036854775807) :
    Calls Tryz.prog 8 #[.int .i64 c, .int .i64 (n : Int)] w fun e w' => e = .returned (.int .i64 ((pk c n : Nat) : Int)) ∧ w' = w := by
  have hnz : (((n : Nat) : Int) == 0) = false := by simp; omega
  have hne : ¬ ((n : Nat) : Int) = 0 := by omega
  by_cases h : c < 0
  · obtain ⟨k, hk⟩ : ∃ k : Nat, c = -((k : Int) + 1) := ⟨(-(c + 1)).toNat, by omega⟩
    have HS : Hid (pk c n = k % n) := by
      show pk c n = k % n
      unfold pk; rw [if_pos h, hk]
      congr 1
      omega
    rw [HS.out]
    go_enter Tryz.func8, Tryz.ntmps8
    go_wp2
    go_ret
    have e : (-((k : Int) + 1) + 1) = -(k : Int) := by omega
    refine ⟨?_, rfl⟩
    show Ending.returned (Value.int IntKind.i64 (-((-((k : Int) + 1) + 1).tmod (n : Int)))) = _
    rw [e, Int.neg_tmod, Int.neg_neg]
    rfl
  · obtain ⟨k, rfl⟩ : ∃ k : Nat, c = (k : Int) := ⟨c.toNat, by omega⟩
    have HS : Hid (pk (k : Int) n = k % n) := by
      show pk (k : Int) n = k % n
      unfold pk; rw [if_neg h, Int.toNat_natCast]
    rw [HS.out]
    go_enter Tryz.func8, Tryz.ntmps8
    go_wp2
    go_ret
    exact ⟨rfl, rfl⟩
def cutS (n : Nat) (s : ByteArray) : ByteArray := if n < s.size then s.extract 0 n else s
structure Ln where
  key : ByteArray
  val : ByteArray
  gone : Bool
  syn : Bool
def lnv (l : Ln) : List Value := [.string l.key, .string l.val, .bool l.gone, .bool l.syn]
def kS : ByteArray := ⟨#[107]⟩
def lnR (l : Ln) (i : Nat) : Rec := ⟨i + 1, if l.gone then 2 else 1, cutS 64 (kS ++ l.key), if l.gone then ByteArray.empty else cutS 300 l.val⟩
theorem heap_mid (w : World) (A B C : Obj) : (((w.alloc A).alloc B).alloc C).heap[w.heap.size + 1]? = some B := ((MapKept.heap_alloc _ C).2 _ (by rw [alloc_size, alloc_size]; omega)).trans (heap_two w A B)
theorem kS_size (k : ByteArray) : (kS ++ k).size = 1 + k.size := by rw [ByteArray.size_append]; rfl
set_option maxRecDepth 100000 in
set_option maxHeartbeats 1000000 in
theorem record_is (l : Ln) (i : Nat) (w : World) (hk : l.key.size ≤ 140737488355328) (hv : l.val.size ≤ maxLen) (hi : i < 1000000) :
    Calls Tryz.prog 10 #[.agg #[.string l.key, .string l.val, .bool l.gone, .bool l.syn], .int .i64 (i : Int)] w fun e w' => e = .returned (.agg (rv (lnR l i))) ∧ Below w.heap.size w w' := by
  obtain ⟨key, val, gone, syn⟩ := l
  simp only at hk hv ⊢
  obtain ⟨R, hR⟩ : ∃ R, R = rv (lnR ⟨key, val, gone, syn⟩ i) := ⟨_, rfl⟩
  have hcast : (((i + 1 : Nat) : Nat) : Int) = (i : Int) + 1 := by omega
  rw [← hR]
  by_cases a : 64 < 1 + key.size
  · by_cases b : 300 < val.size
    · cases gone
      · have HR : Hid (R = #[.int .u64 ((i : Int) + 1), .int .i64 1, .string ((⟨#[107]⟩ ++ key).extract 0 64), .string (val.extract 0 300)]) := by
          show R = _
          rw [hR]
          unfold rv lnR
          simp only [hcast, Bool.false_eq_true, if_false]
          rw [show cutS 64 (kS ++ key) = (⟨#[107]⟩ ++ key).extract 0 64 from if_pos (by rw [kS_size]; omega)]
          rw [show cutS 300 val = val.extract 0 300 from if_pos (by omega)]
        have a1 : (64 : Int) < 1 + (key.size : Int) := by omega
        have b1 : (300 : Int) < (val.size : Int) := by omega
        clear hR a b
        go_enter Tryz.func10, Tryz.ntmps10
        go_wp2_with fail
        refine bodyPost_ret (results_cell_row rfl _ _ (w.heap.size + 1) 38 _ (0, 0) _ rfl (heap_mid w _ _ _) Tryz.underlying38 rfl (by kernel_rfl)) rfl ?_
        exact ⟨by rw [HR.out], (below_two w _ _).alloc (by simp; omega) _⟩
      · have HR : Hid (R = #[.int .u64 ((i : Int) + 1), .int .i64 2, .string ((⟨#[107]⟩ ++ key).extract 0 64), .string (⟨#[]⟩)]) := by
          show R = _
          rw [hR]
          unfold rv lnR
          simp only [hcast, if_true]
          rw [show cutS 64 (kS ++ key) = (⟨#[107]⟩ ++ key).extract 0 64 from if_pos (by rw [kS_size]; omega)]
          rfl
        have a1 : (64 : Int) < 1 + (key.size : Int) := by omega
        have b1 : (300 : Int) < (val.size : Int) := by omega
        clear hR a b
        go_enter Tryz.func10, Tryz.ntmps10
        go_wp2_with fail
        refine bodyPost_ret (results_cell_row rfl _ _ (w.heap.size + 1) 38 _ (0, 0) _ rfl (heap_mid w _ _ _) Tryz.underlying38 rfl (by kernel_rfl)) rfl ?_
        exact ⟨by rw [HR.out], (below_two w _ _).alloc (by simp; omega) _⟩
    · cases gone
      · have HR : Hid (R = #[.int .u64 ((i : Int) + 1), .int .i64 1, .string ((⟨#[107]⟩ ++ key).extract 0 64), .string (val)]) := by
          show R = _
          rw [hR]
          unfold rv lnR
          simp only [hcast, Bool.false_eq_true, if_false]
          rw [show cutS 64 (kS ++ key) = (⟨#[107]⟩ ++ key).extract 0 64 from if_pos (by rw [kS_size]; omega)]
          rw [show cutS 300 val = val from if_neg (by omega)]
        have a1 : (64 : Int) < 1 + (key.size : Int) := by omega
        have b1 : ¬ ((300 : Int) < (val.size : Int)) := by omega
        clear hR a b
        go_enter Tryz.func10, Tryz.ntmps10
        go_wp2_with fail
        refine bodyPost_ret (results_cell_row rfl _ _ (w.heap.size + 1) 38 _ (0, 0) _ rfl (heap_mid w _ _ _) Tryz.underlying38 rfl (by kernel_rfl)) rfl ?_
        exact ⟨by rw [HR.out], (below_two w _ _).alloc (by simp; omega) _⟩
      · have HR : Hid (R = #[.int .u64 ((i : Int) + 1), .int .i64 2, .string ((⟨#[107]⟩ ++ key).extract 0 64), .string (⟨#[]⟩)]) := by
          show R = _
          rw [hR]
          unfold rv lnR
          simp only [hcast, if_true]
          rw [show cutS 64 (kS ++ key) = (⟨#[107]⟩ ++ key).extract 0 64 from if_pos (by rw [kS_size]; omega)]
          rfl
        have a1 : (64 : Int) < 1 + (key.size : Int) := by omega
        have b1 : ¬ ((300 : Int) < (val.size : Int)) := by omega
        clear hR a b
        go_enter Tryz.func10, Tryz.ntmps10
        go_wp2_with fail
        refine bodyPost_ret (results_cell_row rfl _ _ (w.heap.size + 1) 38 _ (0, 0) _ rfl (heap_mid w _ _ _) Tryz.underlying38 rfl (by kernel_rfl)) rfl ?_
        exact ⟨by rw [HR.out], (below_two w _ _).alloc (by simp; omega) _⟩
  · by_cases b : 300 < val.size
    · cases gone
      · have HR : Hid (R = #[.int .u64 ((i : Int) + 1), .int .i64 1, .string (⟨#[107]⟩ ++ key), .string (val.extract 0 300)]) := by
          show R = _
          rw [hR]
          unfold rv lnR
          simp only [hcast, Bool.false_eq_true, if_false]
          rw [show cutS 64 (kS ++ key) = ⟨#[107]⟩ ++ key from if_neg (by rw [kS_size]; omega)]
          rw [show cutS 300 val = val.extract 0 300 from if_pos (by omega)]
        have a1 : ¬ ((64 : Int) < 1 + (key.size : Int)) := by omega
        have b1 : (300 : Int) < (val.size : Int) := by omega
        clear hR a b
        go_enter Tryz.func10, Tryz.ntmps10
        go_wp2_with fail
        refine bodyPost_ret (results_cell_row rfl _ _ (w.heap.size + 1) 38 _ (0, 0) _ rfl (heap_mid w _ _ _) Tryz.underlying38 rfl (by kernel_rfl)) rfl ?_
        exact ⟨by rw [HR.out], (below_two w _ _).alloc (by simp; omega) _⟩
      · have HR : Hid (R = #[.int .u64 ((i : Int) + 1), .int .i64 2, .string (⟨#[107]⟩ ++ key), .string (⟨#[]⟩)]) := by
          show R = _
          rw [hR]
          unfold rv lnR
          simp only [hcast, if_true]
          rw [show cutS 64 (kS ++ key) = ⟨#[107]⟩ ++ key from if_neg (by rw [kS_size]; omega)]
          rfl
        have a1 : ¬ ((64 : Int) < 1 + (key.size : Int)) := by omega
        have b1 : (300 : Int) < (val.size : Int) := by omega
        clear hR a b
        go_enter Tryz.func10, Tryz.ntmps10
        go_wp2_with fail
        refine bodyPost_ret (results_cell_row rfl _ _ (w.heap.size + 1) 38 _ (0, 0) _ rfl (heap_mid w _ _ _) Tryz.underlying38 rfl (by kernel_rfl)) rfl ?_
        exact ⟨by rw [HR.out], (below_two w _ _).alloc (by simp; omega) _⟩
    · cases gone
      · have HR : Hid (R = #[.int .u64 ((i : Int) + 1), .int .i64 1, .string (⟨#[107]⟩ ++ key), .string (val)]) := by
          show R = _
          rw [hR]
          unfold rv lnR
          simp only [hcast, Bool.false_eq_true, if_false]
          rw [show cutS 64 (kS ++ key) = ⟨#[107]⟩ ++ key from if_neg (by rw [kS_size]; omega)]
          rw [show cutS 300 val = val from if_neg (by omega)]
        have a1 : ¬ ((64 : Int) < 1 + (key.size : Int)) := by omega
        have b1 : ¬ ((300 : Int) < (val.size : Int)) := by omega
        clear hR a b
        go_enter Tryz.func10, Tryz.ntmps10
        go_wp2_with fail
        refine bodyPost_ret (results_cell_row rfl _ _ (w.heap.size + 1) 38 _ (0, 0) _ rfl (heap_mid w _ _ _) Tryz.underlying38 rfl (by kernel_rfl)) rfl ?_
        exact ⟨by rw [HR.out], (below_two w _ _).alloc (by simp; omega) _⟩
      · have HR : Hid (R = #[.int .u64 ((i : Int) + 1), .int .i64 2, .string (⟨#[107]⟩ ++ key), .string (⟨#[]⟩)]) := by
          show R = _
          rw [hR]
          unfold rv lnR
          simp only [hcast, if_true]
          rw [show cutS 64 (kS ++ key) = ⟨#[107]⟩ ++ key from if_neg (by rw [kS_size]; omega)]
          rfl
        have a1 : ¬ ((64 : Int) < 1 + (key.size : Int)) := by omega
        have b1 : ¬ ((300 : Int) < (val.size : Int)) := by omega
        clear hR a b
        go_enter Tryz.func10, Tryz.ntmps10
        go_wp2_with fail
        refine bodyPost_ret (results_cell_row rfl _ _ (w.heap.size + 1) 38 _ (0, 0) _ rfl (heap_mid w _ _ _) Tryz.underlying38 rfl (by kernel_rfl)) rfl ?_
        exact ⟨by rw [HR.out], (below_two w _ _).alloc (by simp; omega) _⟩
def w0S (lim evy : Int) : Ws := ⟨64 + pk lim 400, pk evy 6, true, 0, 0, 0⟩
set_option maxRecDepth 100000 in
set_option maxHeartbeats 1000000 in
theorem fresh_is (lim evy : Int) (w : World) (h1 : -9223372036854775808 ≤ lim) (h2 : lim ≤ 9223372036854775807) (h3 : -9223372036854775808 ≤ evy) (h4 : evy ≤ 9223372036854775807) :
    Calls Tryz.prog 6 #[.int .i64 lim, .int .i64 evy] w fun e w' => ∃ d b O, e = .returned (.tuple #[.pointer (some ⟨d, 0, none⟩), .pointer (some ⟨b, 0, none⟩)]) ∧ WK w' b d O (w0S lim evy) (ds0 1000000) ∧ Below w.heap.size w w' ∧ w.heap.size ≤ b ∧ ∀ x, O x → w.heap.size ≤ x := by
  have p1 := pk_lt lim (n := 400) (by omega)
  have p2 := pk_lt evy (n := 6) (by omega)
  have HP1 : Hid (∀ w, Calls Tryz.prog 8 #[.int .i64 lim, .int .i64 400] w fun e w' => e = .returned (.int .i64 ((pk lim 400 : Nat) : Int)) ∧ w' = w) := fun w => pick9_is lim 400 w h1 h2 (by omega) (by omega)
  have HP2 : Hid (∀ w, Calls Tryz.prog 8 #[.int .i64 evy, .int .i64 6] w fun e w' => e = .returned (.int .i64 ((pk evy 6 : Nat) : Int)) ∧ w' = w) := fun w => pick9_is evy 6 w h3 h4 (by omega) (by omega)
  have HW : Hid (w0S lim evy = ⟨64 + pk lim 400, pk evy 6, true, 0, 0, 0⟩) := rfl
  generalize w0S lim evy = W0 at *
  generalize pk lim 400 = a at *
  generalize pk evy 6 = b at *
  have HST : Hid (∀ (w : World) (d : Nat), Calls Tryz.prog 25 #[.pointer (some ⟨d, 0, none⟩), .int .i64 (64 + (a : Int)), .int .i64 (b : Int)] w fun e w' => e = .returned (.tuple #[.pointer (some ⟨w.heap.size, 0, none⟩), .int .i64 0]) ∧ Blk w' w.heap.size TW (wcs d W0) ∧ Below w.heap.size w w') := by
    intro w d
    have := start_is w d (64 + a) b (by omega) (by omega) (by omega)
    rw [show (((64 + a : Nat) : Nat) : Int) = 64 + (a : Int) by omega, ← HW.out] at this
    exact this
  go_enter Tryz.func6, Tryz.ntmps6
  go_wp2_with fail
  refine Calls.mono (new0_is w 1000000 (by omega)) ?_
  rintro e w1 ⟨d, O, rfl, hK, hT, hO⟩
  have HK := hd hK
  have HT := hd hT
  have HO := hd hO
  clear hK hT hO
  go_wp2_with fail
  refine Calls.mono (HP1.out _) ?_
  rintro e w2 ⟨rfl, rfl⟩
  go_wp2_with fail
  refine Calls.mono (HP2.out _) ?_
  rintro e w1 ⟨rfl, rfl⟩
  go_wp2_with fail
  refine Calls.mono (HST.out _ d) ?_
  rintro e w2 ⟨rfl, hB, hb⟩
  have HB := hd hB
  have Hb := hd hb
  clear hB hb
  go_wp2_with fail
  go_ret2
  exact ⟨d, w1.heap.size, O, rfl, ⟨HK.out.aside (Tr.ofB Hb.out (fun _ => False)) (fun _ _ q => q), HB.out, fun q => by have := HK.out.olt _ q; omega⟩, (HT.out.below (fun k q => q.elim) (Nat.le_refl _)).trans (Hb.out.mono HT.out.size), HT.out.size, HO.out⟩
end Sg
end Go.Proofs.YtolddolfpnkndaaGreat
namespace Go.Proofs.YtolddolfpnkndaaGreat
open Go.RowKit
namespace Sg
open Vt Dk
theorem cutS_le (n : Nat) (s : ByteArray) : (cutS n s).size ≤ n ∧ (cutS n s).size ≤ s.size := by
  unfold cutS
  split
  · rw [ByteArray.size_extract]; omega
  · omega
theorem cutS_pos {n : Nat} {s : ByteArray} (hn : 0 < n) (hs : 0 < s.size) : 0 < (cutS n s).size := by
  unfold cutS
  split
  · rw [ByteArray.size_extract]; omega
  · exact hs
theorem lnR_rf (l : Ln) (i : Nat) : rf (ofR (lnR l i)) = 0 := by
  have hk : mayKey (lnR l i).key := by
    show 1 ≤ (cutS 64 (kS ++ l.key)).size ∧ (cutS 64 (kS ++ l.key)).size ≤ 64
    exact ⟨cutS_pos (by omega) (by rw [kS_size]; omega), (cutS_le 64 _).1⟩
  have hv : (lnR l i).val.size ≤ (if (lnR l i).kind = 2 then 0 else 2048) := by
    unfold lnR
    cases l.gone
    · simp only [Bool.false_eq_true, if_false]
      have := (cutS_le 300 l.val).1
      rw [if_neg (by omega)]; omega
    · simp only [if_true]; exact Nat.le_refl _
  have hkd : (lnR l i).kind = 1 ∨ (lnR l i).kind = 2 := by unfold lnR; cases l.gone <;> simp
  unfold rf
  rw [if_pos (show (ofR (lnR l i)).kind = 1 ∨ (ofR (lnR l i)).kind = 2 from hkd)]
  unfold rfR
  rw [if_neg (fun q => q rfl), if_neg (show ¬ (ofR (lnR l i)).r.lsn = 0 from Nat.succ_ne_zero _), if_neg (fun q => q hk), if_neg (show ¬ ((if (ofR (lnR l i)).r.kind = 2 then 0 else 2048) < (ofR (lnR l i)).r.val.size) from Nat.not_lt.2 hv), if_neg (fun q => q rfl)]
theorem lnR_wf (l : Ln) (i : Nat) (hi : i < 1000000) : (ofR (lnR l i)).Wf := ⟨by show i + 1 < _; omega, by show (0 : Nat) < _; omega, by show (0 : Nat) < _; omega⟩
theorem lnR_len (l : Ln) (i : Nat) (hi : i < 100) : (en (ofR (lnR l i))).length ≤ 1000 := by
  rw [en_len]
  have h1 := (wr_len (bd (ofR (lnR l i)))).2
  have hk := (cutS_le 64 (kS ++ l.key)).1
  have hv := (cutS_le 300 l.val).1
  have hb : (bd (ofR (lnR l i))).length ≤ 400 := by
    have h2 : (vrt (i + 1)).length ≤ 10 := by rw [vrt_small (by omega)]; simp
    have h3 : (vrt (cutS 64 (kS ++ l.key)).size).length ≤ 10 := by rw [vrt_small (by omega)]; simp
    unfold bd bp vs
    cases hg : l.gone
    · rw [if_pos (by show (lnR l i).kind = 1; unfold lnR; rw [hg]; rfl)]
      have e : (lnR l i).val = cutS 300 l.val := by unfold lnR; rw [hg]; rfl
      show (List.flatten [[1], (List.map vrt [i + 1, (cutS 64 (kS ++ l.key)).size]).flatten, bl (cutS 64 (kS ++ l.key)), bl (lnR l i).val]).length ≤ 400
      rw [e]
      simp [bl_len]
      omega
    · rw [if_neg (by show ¬ (lnR l i).kind = 1; unfold lnR; rw [hg]; simp), if_pos (by show (lnR l i).kind = 2; unfold lnR; rw [hg]; rfl)]
      show (List.flatten [[2], (List.map vrt [i + 1]).flatten, bl (cutS 64 (kS ++ l.key))]).length ≤ 400
      simp [bl_len]
      omega
  omega
def zl : Ln := ⟨ByteArray.empty, ByteArray.empty, false, false⟩
/-- the frame of the i-th line -/
noncomputable def fB (l : Ln) (i : Nat) : List Nat := en (ofR (lnR l i))
noncomputable def stp (l : Ln) (i : Nat) (X : Ws × Ds) : Ws × Ds := if l.syn then (syR (pt X.1 X.2 (fB l i)).2.1 (pt X.1 X.2 (fB l i)).2.2).2 else (pt X.1 X.2 (fB l i)).2
noncomputable def sat (ls : List Ln) (X : Ws × Ds) : Nat → Ws × Ds
  | 0 => X
  | k + 1 => stp (ls.getD k zl) k (sat ls X k)
noncomputable def plc (l : Ln) (i : Nat) (X : Ws × Ds) : Nat × Nat × Nat := ((pre X.1 X.2 (fB l i).length).2.1.num, (pre X.1 X.2 (fB l i).length).2.1.laid, (fB l i).length)
noncomputable def pls (ls : List Ln) (X : Ws × Ds) : Nat → List (Nat × Nat × Nat)
  | 0 => []
  | k + 1 => pls ls X k ++ [plc (ls.getD k zl) k (sat ls X k)]
theorem pls_len (ls : List Ln) (X : Ws × Ds) (k : Nat) : (pls ls X k).length = k := by
  induction k with
  | zero => rfl
  | succ k ih => show (pls ls X k ++ [_]).length = _; rw [List.length_append, ih]; rfl
/-- what holds behind k lines, at least one -/
structure Ok (lim evy : Nat) (k : Nat) (X : Ws × Ds) : Prop where
  lim : X.1.lim = lim
  evy : X.1.evy = evy
  cap : X.2.cap = 1000000
  used : X.2.used ≤ 1000 * k
  acts : X.2.acts ≤ 5 * k
  uns : X.1.uns ≤ k
  at_ : (k = 0 ∧ Iv0 X.1 X.2) ∨ (0 < k ∧ ∃ old cur las, Iv X.1 X.2 old cur las ∧ old.length < k ∧ cur.length ≤ 1000 * k ∧ 0 < cur.length)
theorem ok0 (lim evy : Int) : Ok (64 + pk lim 400) (pk evy 6) 0 (w0S lim evy, ds0 1000000) :=
  ⟨rfl, rfl, rfl, Nat.zero_le _, Nat.le_refl _, Nat.le_refl _, .inl ⟨rfl, rfl, rfl, rfl, rfl, rfl, ⟨rfl, rfl, rfl⟩, good0 (by omega)⟩⟩
/-- one line more: what is answered, where it stands, what holds then -/
theorem Ok.step {lim evy k : Nat} {X : Ws × Ds} (h : Ok lim evy k X) (hk : k < 60) (l : Ln) :
    (pt X.1 X.2 (fB l k)).1 = 0 ∧ (syR (pt X.1 X.2 (fB l k)).2.1 (pt X.1 X.2 (fB l k)).2.2).1 = 0 ∧ Ok lim evy (k + 1) (stp l k X) ∧ (pt X.1 X.2 (fB l k)).2.1.op = true ∧ (pt X.1 X.2 (fB l k)).2.2.acts ≤ 5 * k + 4 ∧ Nam.Nu (pt X.1 X.2 (fB l k)).2.1.num ∧
    ∃ old cur0 las, Iv (stp l k X).1 (stp l k X).2 old (cur0 ++ fB l k) las ∧ plc l k X = (old.length + 1, cur0.length, (fB l k).length) ∧ (l.syn = true → las = (cur0 ++ fB l k).length) ∧
      ((k = 0 ∧ old = [] ∧ cur0 = []) ∨ ∃ o c s, Iv X.1 X.2 o c s ∧ ((fit X.1 (fB l k).length = true ∧ old = o ∧ cur0 = c) ∨ (fit X.1 (fB l k).length = false ∧ old = o ++ [c] ∧ cur0 = []))) := by
  have hfl : (fB l k).length ≤ 1000 := lnR_len l k (by omega)
  have hroom : X.2.used + (fB l k).length ≤ X.2.cap := by rw [h.cap]; have := h.used; omega
  have main : ∀ {old cur0 : List _} {las0 uns0 las' : Nat}, (pt X.1 X.2 (fB l k)).1 = 0 → Pu X.1 (pt X.1 X.2 (fB l k)).2.1 X.2 (pt X.1 X.2 (fB l k)).2.2 old cur0 (fB l k) las0 uns0 las' → uns0 ≤ k → old.length ≤ k → cur0.length ≤ 1000 * k →
      (syR (pt X.1 X.2 (fB l k)).2.1 (pt X.1 X.2 (fB l k)).2.2).1 = 0 ∧ Ok lim evy (k + 1) (stp l k X) ∧ (pt X.1 X.2 (fB l k)).2.1.op = true ∧ (pt X.1 X.2 (fB l k)).2.2.acts ≤ 5 * k + 4 ∧ Nam.Nu (pt X.1 X.2 (fB l k)).2.1.num ∧ ∃ las, Iv (stp l k X).1 (stp l k X).2 old (cur0 ++ fB l k) las ∧ (l.syn = true → las = (cur0 ++ fB l k).length) := by
    intro old cur0 las0 uns0 las' h0 hp hu ho hc
    obtain ⟨s1, s2, s3, s4⟩ := sy_iv hp.iv
    have ha := hp.st.acts
    have hus := hp.st.used
    have hcp := hp.st.cap
    have h1 := h.acts
    have h2 := h.used
    have hun : (pt X.1 X.2 (fB l k)).2.1.uns ≤ k + 1 := by rcases hp.las with ⟨_, q, _⟩ | ⟨_, q⟩ <;> omega
    have hcl : (cur0 ++ fB l k).length ≤ 1000 * (k + 1) := by rw [List.length_append]; omega
    have hcp0 : 0 < (cur0 ++ fB l k).length := by rw [List.length_append]; unfold fB; rw [en_len]; omega
    refine ⟨s1, ?_, hp.iv.op, by omega, by rw [hp.iv.num]; exact ⟨by omega, by omega⟩, ?_⟩
    · unfold stp
      by_cases hs : l.syn = true
      · rw [if_pos hs]
        have a4 := s4.acts
        have u4 := s4.used
        refine ⟨?_, ?_, by rw [s4.cap, hcp, h.cap], by omega, by omega, ?_, .inr ⟨by omega, old, cur0 ++ fB l k, (cur0 ++ fB l k).length, ?_, by omega, hcl, hcp0⟩⟩
        · rw [s2]; exact hp.lim.trans h.lim
        · rw [s2]; exact hp.evy.trans h.evy
        · rw [s2]; exact Nat.zero_le _
        · rw [s2]; exact s3
      · rw [if_neg hs]
        exact ⟨hp.lim.trans h.lim, hp.evy.trans h.evy, by rw [hcp, h.cap], by omega, by omega, hun, .inr ⟨by omega, old, _, _, hp.iv, by omega, hcl, hcp0⟩⟩
    · unfold stp
      by_cases hs : l.syn = true
      · rw [if_pos hs, s2]
        exact ⟨_, s3, fun _ => rfl⟩
      · rw [if_neg hs]
        exact ⟨_, hp.iv, fun q => absurd q hs⟩
  rcases h.at_ with ⟨rfl, hi⟩ | ⟨hk0, o, c, s, hi, ho, hc, _⟩
  · obtain ⟨p1, p2, p3, las', p4⟩ := pt_iv0 hi (fB l 0) hroom
    obtain ⟨m1, m2, m3, m4, m5, las, m6, m7⟩ := main p1 p4 (Nat.le_refl _) (Nat.le_refl _) (Nat.le_refl _)
    exact ⟨p1, m1, m2, m3, m4, m5, [], [], las, m6, by unfold plc; rw [p2, p3]; rfl, m7, .inl ⟨rfl, rfl, rfl⟩⟩
  · obtain ⟨p1, las', ⟨f1, p2, p3, p4⟩ | ⟨f1, p2, p3, p4⟩⟩ := pt_iv hi (fB l k) hroom (by omega)
    · obtain ⟨m1, m2, m3, m4, m5, las, m6, m7⟩ := main p1 p4 h.uns (by omega) hc
      exact ⟨p1, m1, m2, m3, m4, m5, o, c, las, m6, by unfold plc; rw [p2, p3], m7, .inr ⟨o, c, s, hi, .inl ⟨f1, rfl, rfl⟩⟩⟩
    · obtain ⟨m1, m2, m3, m4, m5, las, m6, m7⟩ := main p1 p4 (Nat.zero_le _) (by rw [List.length_append]; simp; omega) (Nat.zero_le _)
      exact ⟨p1, m1, m2, m3, m4, m5, o ++ [c], [], las, m6, by unfold plc; rw [p2, p3]; simp, m7, .inr ⟨o, c, s, hi, .inr ⟨f1, rfl, rfl⟩⟩⟩
theorem sat_ok (lim evy : Int) (ls : List Ln) : ∀ k, k ≤ 60 → Ok (64 + pk lim 400) (pk evy 6) k (sat ls (w0S lim evy, ds0 1000000) k)
  | 0, _ => ok0 lim evy
  | k + 1, h => ((sat_ok lim evy ls k (by omega)).step (by omega) (ls.getD k zl)).2.2.1
end Sg
end Go.Proofs.YtolddolfpnkndaaGreat
