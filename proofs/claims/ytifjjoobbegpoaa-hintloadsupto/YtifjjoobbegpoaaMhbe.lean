/-
  THE REFERENCE OF LAYER 4: Decode.
  WHAT A SCAN FINDS, PLAINLY: the list 'locs' of all frames among some bytes, with their places (every place is asked); from lead byte to lead byte; frames laid down and found again; what is between.
-/
import Derived.Test.YtifjjoobbegpoaaMhbd
import Derived.Test.YtifjjoobbegpoaaMhal
import Derived.Test.YtifjjoobbegpoaaMhao
namespace Go.Proofs.Ytifjjoobbegpoaa
open Go.RowKit
namespace Vt
attribute [local go_sem] Oper.semAt_some
set_option maxRecDepth 100000 in
theorem r1_sum (v : Value) (l : List Nat) (w : World) (h : Go.Proofs.Ytifjjoobbegpoaa.IsB w v l) (hn : l.length ≤ 140737488351232) : Calls Try.prog 62 #[v] w fun e w' => e = .returned (.int .u32 ((Crc.go 0 l : Nat) : Int)) ∧ w' = w := by
  have HG := hd (goOn_is 0 v l w (by decide) h hn)
  clear h
  go_enter Try.func62, Try.ntmps62
  go_wp2_with fail
  refine Calls.mono HG.out ?_
  rintro e w1 ⟨rfl, rfl⟩
  go_wp2_with fail
  go_ret
  exact ⟨rfl, rfl⟩
set_option maxRecDepth 100000 in
set_option maxHeartbeats 1000000 in
theorem r4dec_arg (v : Value) (l : List Nat) (z : Int) (w : World) (hI : IsB w v l) (h : z < 0 ∨ (l.length : Int) ≤ z) :
    Calls Try.prog 46 #[v, .int .i64 z] w fun e w' => e = .returned (dval (zf, 0, 40)) ∧ Below w.heap.size w w' := by
  obtain ⟨a, c, rfl⟩ := hI.shape
  clear hI
  by_cases h0 : z < 0
  · go_enter Try.func46, Try.ntmps46
    go_wp2_with fail
    refine bodyPost_ret (results_cell3 rfl _ _ w.heap.size 41 #[.int .i64 0, .int .u64 0, .int .i64 0, .string ⟨#[]⟩, .string ⟨#[]⟩, .int .u64 0, .int .i64 0, .int .i64 0, .int .i64 0, .string ⟨#[]⟩, .int .i64 0, .int .i64 0, .int .i64 0, .int .u32 0] (0, 0) _ rfl (Blk.new w 41 [.int .i64 0, .int .u64 0, .int .i64 0, .string ⟨#[]⟩, .string ⟨#[]⟩, .int .u64 0, .int .i64 0, .int .i64 0, .int .i64 0, .string ⟨#[]⟩, .int .i64 0, .int .i64 0, .int .i64 0, .int .u32 0]) Try.underlying41 rfl (by kernel_rfl)) rfl ?_
    exact ⟨rfl, (Below.refl _ w).alloc (Nat.le_refl _) _⟩
  · have h1 : z ≥ (l.length : Int) := by omega
    go_enter Try.func46, Try.ntmps46
    go_wp2_with fail
    refine bodyPost_ret (results_cell3 rfl _ _ w.heap.size 41 #[.int .i64 0, .int .u64 0, .int .i64 0, .string ⟨#[]⟩, .string ⟨#[]⟩, .int .u64 0, .int .i64 0, .int .i64 0, .int .i64 0, .string ⟨#[]⟩, .int .i64 0, .int .i64 0, .int .i64 0, .int .u32 0] (0, 0) _ rfl (Blk.new w 41 [.int .i64 0, .int .u64 0, .int .i64 0, .string ⟨#[]⟩, .string ⟨#[]⟩, .int .u64 0, .int .i64 0, .int .i64 0, .int .i64 0, .string ⟨#[]⟩, .int .i64 0, .int .i64 0, .int .i64 0, .int .u32 0]) Try.underlying41 rfl (by kernel_rfl)) rfl ?_
    exact ⟨rfl, (Below.refl _ w).alloc (Nat.le_refl _) _⟩
set_option maxRecDepth 100000 in
set_option maxHeartbeats 1000000 in
theorem r4dec_lead (b off c a : Nat) (l : List Nat) (w : World) (hI : IsB w (.slice (some ⟨b, off, none⟩) l.length c) l) (ha : a < l.length) (h : l.getD a 0 ≠ 167) :
    Calls Try.prog 46 #[.slice (some ⟨b, off, none⟩) l.length c, .int .i64 (a : Int)] w fun e w' => e = .returned (dval (zf, 0, 41)) ∧ Below w.heap.size w w' := by
  have r0 := hI.row a ha
  have hb : (((l.getD a 0 : Nat) : Int) != 167) = true := by rw [bne_iff_ne]; omega
  have hbw : b < w.heap.size := lt_of_cell r0
  have n1 : ¬ b = w.heap.size := by omega
  have n2 : ¬ w.heap.size = b := by omega
  have h1 : ¬ (a : Int) ≥ (l.length : Int) := by omega
  generalize l.getD a 0 = x at *
  clear hI h
  go_enter Try.func46, Try.ntmps46
  go_wp2_with fail
  refine bodyPost_ret (results_cell3 rfl _ _ w.heap.size 41 #[.int .i64 0, .int .u64 0, .int .i64 0, .string ⟨#[]⟩, .string ⟨#[]⟩, .int .u64 0, .int .i64 0, .int .i64 0, .int .i64 0, .string ⟨#[]⟩, .int .i64 0, .int .i64 0, .int .i64 0, .int .u32 0] (0, 0) _ rfl (Blk.new w 41 [.int .i64 0, .int .u64 0, .int .i64 0, .string ⟨#[]⟩, .string ⟨#[]⟩, .int .u64 0, .int .i64 0, .int .i64 0, .int .i64 0, .string ⟨#[]⟩, .int .i64 0, .int .i64 0, .int .i64 0, .int .u32 0]) Try.underlying41 rfl (by kernel_rfl)) rfl ?_
  exact ⟨rfl, (Below.refl _ w).alloc (Nat.le_refl _) _⟩
set_option maxRecDepth 100000 in
set_option maxHeartbeats 1000000 in
theorem r4dec_len (b off c a : Nat) (l : List Nat) (w : World) (hI : IsB w (.slice (some ⟨b, off, none⟩) l.length c) l) (ha : a < l.length) (hm : l.length ≤ 9223372036854775000) (h7 : l.getD a 0 = 167) (e : Nat) (he : lnR (l.drop a) = (0, e)) (he0 : e ≠ 0) :
    Calls Try.prog 46 #[.slice (some ⟨b, off, none⟩) l.length c, .int .i64 (a : Int)] w fun e' w' => e' = .returned (dval (zf, 0, e)) ∧ Below w.heap.size w w' := by
  have r0 := hI.row a ha
  rw [h7] at r0
  have hbw : b < w.heap.size := lt_of_cell r0
  have n1 : ¬ b = w.heap.size := by omega
  have n2 : ¬ w.heap.size = b := by omega
  have h1 : ¬ (a : Int) ≥ (l.length : Int) := by omega
  have HLE := hd (fun o => r4_length b off c a l (w.alloc o) (hI.below ((Below.refl _ w).alloc (Nat.le_refl _) o)) ha hm)
  rw [he] at HLE
  have hb : ((e : Int) != 0) = true := by rw [bne_iff_ne]; omega
  clear hI he h7
  go_enter Try.func46, Try.ntmps46
  go_wp2_with fail
  refine Calls.mono (HLE.out _) ?_
  rintro e' w1 ⟨rfl, rfl⟩
  go_wp2_with fail
  refine bodyPost_ret (results_cell3 rfl _ _ w.heap.size 41 #[.int .i64 0, .int .u64 0, .int .i64 0, .string ⟨#[]⟩, .string ⟨#[]⟩, .int .u64 0, .int .i64 0, .int .i64 0, .int .i64 0, .string ⟨#[]⟩, .int .i64 0, .int .i64 0, .int .i64 0, .int .u32 0] (0, 0) _ rfl (Blk.new w 41 [.int .i64 0, .int .u64 0, .int .i64 0, .string ⟨#[]⟩, .string ⟨#[]⟩, .int .u64 0, .int .i64 0, .int .i64 0, .int .i64 0, .string ⟨#[]⟩, .int .i64 0, .int .i64 0, .int .i64 0, .int .u32 0]) Try.underlying41 rfl (by kernel_rfl)) rfl ?_
  exact ⟨rfl, (Below.refl _ w).alloc (Nat.le_refl _) _⟩
set_option maxRecDepth 100000 in
set_option maxHeartbeats 1000000 in
theorem r4dec_short (b off c a : Nat) (l : List Nat) (w : World) (hI : IsB w (.slice (some ⟨b, off, none⟩) l.length c) l) (ha : a < l.length) (hm : l.length ≤ 9223372036854775000) (h7 : l.getD a 0 = 167) (n : Nat) (hn : lnR (l.drop a) = (n, 0)) (hn2 : n < 2097152) (hs : l.length < a + n + 9) :
    Calls Try.prog 46 #[.slice (some ⟨b, off, none⟩) l.length c, .int .i64 (a : Int)] w fun e' w' => e' = .returned (dval (zf, 0, 43)) ∧ Below w.heap.size w w' := by
  have r0 := hI.row a ha
  rw [h7] at r0
  have hbw : b < w.heap.size := lt_of_cell r0
  have n1 : ¬ b = w.heap.size := by omega
  have n2 : ¬ w.heap.size = b := by omega
  have h1 : ¬ (a : Int) ≥ (l.length : Int) := by omega
  have HLE := hd (fun o => r4_length b off c a l (w.alloc o) (hI.below ((Below.refl _ w).alloc (Nat.le_refl _) o)) ha hm)
  rw [hn] at HLE
  have hb : (l.length : Int) - ((a : Int) + 4) < (n : Int) + 5 := by omega
  clear hI hn h7
  go_enter Try.func46, Try.ntmps46
  go_wp2_with fail
  refine Calls.mono (HLE.out _) ?_
  rintro e' w1 ⟨rfl, rfl⟩
  go_wp2_with fail
  refine bodyPost_ret (results_cell3 rfl _ _ w.heap.size 41 #[.int .i64 0, .int .u64 0, .int .i64 0, .string ⟨#[]⟩, .string ⟨#[]⟩, .int .u64 0, .int .i64 0, .int .i64 0, .int .i64 0, .string ⟨#[]⟩, .int .i64 0, .int .i64 0, .int .i64 0, .int .u32 0] (0, 0) _ rfl (Blk.new w 41 [.int .i64 0, .int .u64 0, .int .i64 0, .string ⟨#[]⟩, .string ⟨#[]⟩, .int .u64 0, .int .i64 0, .int .i64 0, .int .i64 0, .string ⟨#[]⟩, .int .i64 0, .int .i64 0, .int .i64 0, .int .u32 0]) Try.underlying41 rfl (by kernel_rfl)) rfl ?_
  exact ⟨rfl, (Below.refl _ w).alloc (Nat.le_refl _) _⟩
end Vt
end Go.Proofs.Ytifjjoobbegpoaa
namespace Go.Proofs.Ytifjjoobbegpoaa
namespace Vt
theorem dcd_lead {m : List Nat} (hb : Byt m) (h : (dcd m).2.2 = 0) : m.getD 0 0 = 167 ∧ m ≠ [] := by
  obtain ⟨_, _, e3, e4, e5⟩ := en_dcd hb h
  have hp := en_pos (dcd m).1
  have e := congrArg (fun q => q.getD 0 0) e5
  rw [en_head] at e
  constructor
  · rw [← e, List.getD_eq_getElem?_getD, List.getD_eq_getElem?_getD, List.getElem?_take, if_pos (by omega)]
  · rintro rfl; simp at e4; omega
/-- within a frame there is no lead byte -/
theorem dcd_in {m : List Nat} (hb : Byt m) (h : (dcd m).2.2 = 0) {j : Nat} (h1 : 1 ≤ j) (h2 : j < (dcd m).2.1) : m.getD j 0 ≠ 167 := by
  obtain ⟨_, _, e3, e4, e5⟩ := en_dcd hb h
  have e := congrArg (fun q => q.getD j 0) e5
  have h3 := en_no (f := (dcd m).1) (j := j) h1 (by omega)
  rw [← e, List.getD_eq_getElem?_getD, List.getElem?_take, if_pos h2, ← List.getD_eq_getElem?_getD] at h3
  exact h3
theorem getD_drop0 (l : List Nat) (i : Nat) : (l.drop i).getD 0 0 = l.getD i 0 := by
  rw [List.getD_eq_getElem?_getD, List.getD_eq_getElem?_getD, List.getElem?_drop, Nat.add_zero]
/-- a frame's place, its length, the frame -/
abbrev Lc := Nat × Nat × Fr
open Classical in
/-- all frames of the bytes l, the first of which stands at at_: every place is asked -/
noncomputable def locs (at_ : Nat) : List Nat → List Lc
  | [] => []
  | x :: r => if (dcd (x :: r)).2.2 = 0 then (at_, (dcd (x :: r)).2.1, (dcd (x :: r)).1) :: locs (at_ + 1) r else locs (at_ + 1) r
theorem locs_nil (at_ : Nat) : locs at_ [] = [] := rfl
theorem locs_err {at_ : Nat} {l : List Nat} (h : (dcd l).2.2 ≠ 0) : locs at_ l = locs (at_ + 1) (l.drop 1) := by
  cases l with
  | nil => rfl
  | cons x r => rw [locs, if_neg h]; rfl
theorem locs_skip (j : Nat) : ∀ (at_ : Nat) (l : List Nat), (∀ i, i < j → (dcd (l.drop i)).2.2 ≠ 0) → locs at_ l = locs (at_ + j) (l.drop j) := by
  induction j with
  | zero => intro at_ l _; rw [List.drop_zero, Nat.add_zero]
  | succ j ih =>
    intro at_ l h
    have h0 := h 0 (by omega)
    rw [List.drop_zero] at h0
    rw [locs_err h0, ih (at_ + 1) (l.drop 1) (fun i hi => by rw [List.drop_drop]; have := h (1 + i) (by omega); exact this), List.drop_drop]
    rw [show at_ + 1 + j = at_ + (j + 1) by omega, show 1 + j = j + 1 by omega]
theorem nx_lt {l : List Nat} {i : Nat} (h : i < nx l) : l.getD i 0 ≠ 167 := by
  have hl := nx_le l
  have h2 := List.not_of_lt_findIdx h
  rw [List.getD_eq_getElem?_getD, List.getElem?_eq_getElem (by omega)]
  simpa using h2
theorem nx_at {l : List Nat} (h : nx l < l.length) : l.getD (nx l) 0 = 167 := by
  have h2 := List.findIdx_getElem (xs := l) (p := (· == 167)) (w := h)
  rw [List.getD_eq_getElem?_getD, List.getElem?_eq_getElem h]
  exact eq_of_beq h2
theorem locs_next {l : List Nat} (hb : Byt l) (at_ : Nat) : locs at_ l = locs (at_ + nx l) (l.drop (nx l)) := by
  refine locs_skip _ _ _ fun i hi h => ?_
  have h1 := (dcd_lead (byt_drop hb i) h).1
  rw [getD_drop0] at h1
  exact nx_lt hi h1
theorem locs_ok {l : List Nat} (hb : Byt l) (at_ : Nat) (h : (dcd l).2.2 = 0) : locs at_ l = (at_, (dcd l).2.1, (dcd l).1) :: locs (at_ + (dcd l).2.1) (l.drop (dcd l).2.1) := by
  obtain ⟨_, _, e3, e4, e5⟩ := en_dcd hb h
  have hp := en_pos (dcd l).1
  cases l with
  | nil => simp at e4; omega
  | cons x r =>
    rw [locs, if_pos h]
    congr 1
    have := locs_skip ((dcd (x :: r)).2.1 - 1) (at_ + 1) r (fun i hi hc => by
      have h1 := (dcd_lead (byt_drop (l := r) (fun y hy => hb y (List.mem_cons_of_mem _ hy)) i) hc).1
      rw [getD_drop0] at h1
      have h2 := dcd_in hb h (j := i + 1) (by omega) (by omega)
      rw [List.getD_cons_succ] at h2
      exact h2 h1)
    rw [this, show at_ + 1 + ((dcd (x :: r)).2.1 - 1) = at_ + (dcd (x :: r)).2.1 by omega]
    congr 1
    obtain ⟨m, hm⟩ : ∃ m, (dcd (x :: r)).2.1 = m + 1 := ⟨(dcd (x :: r)).2.1 - 1, by omega⟩
    rw [hm, List.drop_succ_cons, Nat.add_sub_cancel]
/-- what is laid down is found -/
theorem locs_en {f : Fr} (hw : f.Wf) (h : rf f = 0) {r : List Nat} (hb : Byt (en f ++ r)) (at_ : Nat) : locs at_ (en f ++ r) = (at_, (en f).length, f) :: locs (at_ + (en f).length) r := by
  have e := dcd_en hw h r
  have := locs_ok hb at_ (by rw [e])
  rw [this, e]
  simp only
  rw [List.drop_left' rfl]
/-- junk without the lead byte is passed by -/
theorem locs_junk {j : List Nat} (hj : ∀ x ∈ j, x ≠ 167) {r : List Nat} (hb : Byt (j ++ r)) (at_ : Nat) : locs at_ (j ++ r) = locs (at_ + j.length) r := by
  have := locs_skip j.length at_ (j ++ r) (fun i hi hc => by
    have h1 := (dcd_lead (byt_drop hb i) hc).1
    rw [getD_drop0, List.getD_eq_getElem?_getD, List.getElem?_append_left hi, List.getElem?_eq_getElem hi] at h1
    exact hj _ (List.getElem_mem hi) h1)
  rw [this, List.drop_left' rfl]
theorem locs_shift (l : List Nat) : ∀ (q at_ : Nat), locs (q + at_) l = (locs at_ l).map fun x => (q + x.1, x.2) := by
  induction l with
  | nil => intro q at_; rfl
  | cons x r ih =>
    intro q at_
    rw [locs, locs, Nat.add_assoc, ih q (at_ + 1)]
    split
    · rw [List.map_cons]
    · rfl
/-- a found frame stands in the bytes -/
theorem locs_mem {l : List Nat} (hb : Byt l) : ∀ (at_ : Nat) (x : Lc), x ∈ locs at_ l → at_ ≤ x.1 ∧ x.1 + x.2.1 ≤ at_ + l.length ∧ dcd (l.drop (x.1 - at_)) = (x.2.2, x.2.1, 0) ∧ 9 ≤ x.2.1 ∧ rf x.2.2 = 0 ∧ x.2.2.Wf := by
  induction l with
  | nil => intro at_ x hx; rw [locs] at hx; cases hx
  | cons y r ih =>
    intro at_ x hx
    have hbr : Byt r := fun z hz => hb z (List.mem_cons_of_mem _ hz)
    have go : x ∈ locs (at_ + 1) r → at_ ≤ x.1 ∧ x.1 + x.2.1 ≤ at_ + (y :: r).length ∧ dcd ((y :: r).drop (x.1 - at_)) = (x.2.2, x.2.1, 0) ∧ 9 ≤ x.2.1 ∧ rf x.2.2 = 0 ∧ x.2.2.Wf := by
      intro hx
      obtain ⟨h1, h2, h3, h4⟩ := ih hbr (at_ + 1) x hx
      refine ⟨by omega, by rw [List.length_cons]; omega, ?_, h4⟩
      rw [show x.1 - at_ = (x.1 - (at_ + 1)) + 1 by omega, List.drop_succ_cons]; exact h3
    rw [locs] at hx
    split at hx
    · rename_i h
      rcases List.mem_cons.1 hx with rfl | hx
      · obtain ⟨e1, e2, e3, e4, e5⟩ := en_dcd hb h
        have hp := en_pos (dcd (y :: r)).1
        refine ⟨Nat.le_refl _, by simp only; omega, ?_, by simp only; omega, e1, e2⟩
        simp only
        rw [Nat.sub_self, List.drop_zero]
        exact Prod.ext rfl (Prod.ext rfl h)
      · exact go hx
    · exact go hx
/-- .. and whatever stands there is found -/
theorem locs_has {l : List Nat} : ∀ (at_ k : Nat), k < l.length → (dcd (l.drop k)).2.2 = 0 → (at_ + k, (dcd (l.drop k)).2.1, (dcd (l.drop k)).1) ∈ locs at_ l := by
  induction l with
  | nil => intro at_ k hk; simp at hk
  | cons y r ih =>
    intro at_ k hk h
    cases k with
    | zero =>
      rw [List.drop_zero] at h ⊢
      rw [locs, if_pos h]
      exact List.mem_cons_self
    | succ k =>
      rw [List.drop_succ_cons] at h ⊢
      have := ih (at_ + 1) k (by simpa using hk) h
      rw [show at_ + 1 + k = at_ + (k + 1) by omega] at this
      rw [locs]
      split
      · exact List.mem_cons_of_mem _ this
      · exact this
/-- an extent: junk or not, the place, the length -/
abbrev Ex := Bool × Int × Int
/-- a run of junk, unless it is empty -/
def jk1 (a b : Nat) : List Ex := if a = b then [] else [(true, (a : Int), (b : Int) - (a : Int))]
/-- one more frame -/
def exS (s : List Ex × Nat) (x : Lc) : List Ex × Nat := (s.1 ++ jk1 s.2 x.1 ++ [(false, (x.1 : Int), (x.2.1 : Int))], x.1 + x.2.1)
def exF (pre : List Lc) : List Ex × Nat := pre.foldl exS ([], 0)
theorem exF_snoc (pre : List Lc) (x : Lc) : exF (pre ++ [x]) = exS (exF pre) x := by unfold exF; rw [List.foldl_append]; rfl
/-- the extents of some bytes -/
noncomputable def exts (l : List Nat) : List Ex := (exF (locs 0 l)).1 ++ jk1 (exF (locs 0 l)).2 l.length
/-- the extents from a place on -/
def exR : Nat → List Lc → Nat → List Ex
  | e, [], N => jk1 e N
  | e, x :: r, N => jk1 e x.1 ++ (false, (x.1 : Int), (x.2.1 : Int)) :: exR (x.1 + x.2.1) r N
theorem exF_go (pre : List Lc) (N : Nat) : ∀ s : List Ex × Nat, (pre.foldl exS s).1 ++ jk1 (pre.foldl exS s).2 N = s.1 ++ exR s.2 pre N := by
  induction pre with
  | nil => intro s; rfl
  | cons x r ih => intro s; rw [List.foldl_cons, ih]; simp [exS, exR, List.append_assoc]
theorem exts_eq (l : List Nat) : exts l = exR 0 (locs 0 l) l.length := by
  have := exF_go (locs 0 l) l.length ([], 0)
  rw [List.nil_append] at this
  exact this
/-- the frames alone -/
def cln (l : List Nat) (pre : List Lc) : List Nat := (pre.map fun x => (l.drop x.1).take x.2.1).flatten
theorem cln_snoc (l : List Nat) (pre : List Lc) (x : Lc) : cln l (pre ++ [x]) = cln l pre ++ (l.drop x.1).take x.2.1 := by simp [cln]
theorem jk1_len (a b : Nat) : (jk1 a b).length ≤ 1 := by unfold jk1; split <;> simp
theorem exF_len (pre : List Lc) : (exF pre).1.length ≤ 2 * pre.length := by
  have key : ∀ (q : List Lc) (s : List Ex × Nat), (q.foldl exS s).1.length ≤ s.1.length + 2 * q.length := by
    intro q
    induction q with
    | nil => intro s; simp
    | cons x r ih =>
      intro s
      rw [List.foldl_cons]
      have h1 := ih (exS s x)
      have h2 := jk1_len s.2 x.1
      simp only [exS, List.length_append, List.length_cons, List.length_nil] at h1 ⊢
      omega
  have := key pre ([], 0)
  simpa [exF] using this
theorem locs_len {l : List Nat} (hb : Byt l) : ∀ n, l.length ≤ n → ∀ at_, 9 * (locs at_ l).length ≤ l.length := by
  intro n
  induction n generalizing l with
  | zero =>
    intro h at_
    obtain rfl : l = [] := List.length_eq_zero_iff.1 (by omega)
    simp [locs]
  | succ n ih =>
    intro h at_
    by_cases hne : l = []
    · subst hne; simp [locs]
    · have hlen : 1 ≤ l.length := by cases l with
        | nil => exact absurd rfl hne
        | cons x r => simp
      by_cases he : (dcd l).2.2 = 0
      · obtain ⟨_, _, e3, e4, _⟩ := en_dcd hb he
        have hp := en_pos (dcd l).1
        rw [locs_ok hb at_ he, List.length_cons]
        have := ih (l := l.drop (dcd l).2.1) (byt_drop hb _) (by rw [List.length_drop]; omega) (at_ + (dcd l).2.1)
        rw [List.length_drop] at this
        omega
      · rw [locs_err he]
        have := ih (l := l.drop 1) (byt_drop hb _) (by rw [List.length_drop]; omega) (at_ + 1)
        rw [List.length_drop] at this
        omega
end Vt
end Go.Proofs.Ytifjjoobbegpoaa
