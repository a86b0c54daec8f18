/-
  THE REFERENCE OF LAYER 4: Decode.
  THE REFERENCE OF LAYER 4: salvorref4.Encode, where Body gives the body, and where it gives none.
  WHAT A SCAN FINDS, PLAINLY: the list 'locs' of all frames among some bytes, with their places (every place is asked); from lead byte to lead byte; frames laid down and found again; what is between.
-/
import Derived.Test.YtnjhbidialngmaaXhbc
import Derived.Test.YtnjhbidialngmaaXhbd
import Derived.Test.YtnjhbidialngmaaXhak
import Derived.Test.YtnjhbidialngmaaXhau
import Derived.Test.YtnjhbidialngmaaXham
import Derived.Test.YtnjhbidialngmaaXhan
namespace Go.Proofs.Ytnjhbidialngmaa
open Go.RowKit
namespace Vt
attribute [local go_sem] Oper.semAt_some
set_option maxRecDepth 100000 in
theorem r1_sum (v : Value) (l : List Nat) (w : World) (h : Go.Proofs.Ytnjhbidialngmaa.IsB w v l) (hn : l.length ≤ 140737488351232) : Calls Try.prog 33 #[v] w fun e w' => e = .returned (.int .u32 ((Crc.go 0 l : Nat) : Int)) ∧ w' = w := by
  have HG := hd (goOn_is 0 v l w (by decide) h hn)
  clear h
  go_enter Try.func33, Try.ntmps33
  go_wp2_with fail
  refine Calls.mono HG.out ?_
  rintro e w1 ⟨rfl, rfl⟩
  go_wp2_with fail
  go_ret
  exact ⟨rfl, rfl⟩
set_option maxRecDepth 100000 in
set_option maxHeartbeats 1000000 in
theorem r4dec_arg (v : Value) (l : List Nat) (z : Int) (w : World) (hI : IsB w v l) (h : z < 0 ∨ (l.length : Int) ≤ z) :
    Calls Try.prog 67 #[v, .int .i64 z] w fun e w' => e = .returned (dval (zf, 0, 40)) ∧ Below w.heap.size w w' := by
  obtain ⟨a, c, rfl⟩ := hI.shape
  clear hI
  by_cases h0 : z < 0
  · go_enter Try.func67, Try.ntmps67
    go_wp2_with fail
    refine bodyPost_ret (results_cell3 rfl _ _ w.heap.size 34 #[.int .i64 0, .int .u64 0, .int .i64 0, .string ⟨#[]⟩, .string ⟨#[]⟩, .int .u64 0, .int .i64 0, .int .i64 0, .int .i64 0, .string ⟨#[]⟩, .int .i64 0, .int .i64 0, .int .i64 0, .int .u32 0] (0, 0) _ rfl (Blk.new w 34 [.int .i64 0, .int .u64 0, .int .i64 0, .string ⟨#[]⟩, .string ⟨#[]⟩, .int .u64 0, .int .i64 0, .int .i64 0, .int .i64 0, .string ⟨#[]⟩, .int .i64 0, .int .i64 0, .int .i64 0, .int .u32 0]) Try.underlying34 rfl (by kernel_rfl)) rfl ?_
    exact ⟨rfl, (Below.refl _ w).alloc (Nat.le_refl _) _⟩
  · have h1 : z ≥ (l.length : Int) := by omega
    go_enter Try.func67, Try.ntmps67
    go_wp2_with fail
    refine bodyPost_ret (results_cell3 rfl _ _ w.heap.size 34 #[.int .i64 0, .int .u64 0, .int .i64 0, .string ⟨#[]⟩, .string ⟨#[]⟩, .int .u64 0, .int .i64 0, .int .i64 0, .int .i64 0, .string ⟨#[]⟩, .int .i64 0, .int .i64 0, .int .i64 0, .int .u32 0] (0, 0) _ rfl (Blk.new w 34 [.int .i64 0, .int .u64 0, .int .i64 0, .string ⟨#[]⟩, .string ⟨#[]⟩, .int .u64 0, .int .i64 0, .int .i64 0, .int .i64 0, .string ⟨#[]⟩, .int .i64 0, .int .i64 0, .int .i64 0, .int .u32 0]) Try.underlying34 rfl (by kernel_rfl)) rfl ?_
    exact ⟨rfl, (Below.refl _ w).alloc (Nat.le_refl _) _⟩
set_option maxRecDepth 100000 in
set_option maxHeartbeats 1000000 in
theorem r4dec_lead (b off c a : Nat) (l : List Nat) (w : World) (hI : IsB w (.slice (some ⟨b, off, none⟩) l.length c) l) (ha : a < l.length) (h : l.getD a 0 ≠ 167) :
    Calls Try.prog 67 #[.slice (some ⟨b, off, none⟩) l.length c, .int .i64 (a : Int)] w fun e w' => e = .returned (dval (zf, 0, 41)) ∧ Below w.heap.size w w' := by
  have r0 := hI.row a ha
  have hb : (((l.getD a 0 : Nat) : Int) != 167) = true := by rw [bne_iff_ne]; omega
  have hbw : b < w.heap.size := lt_of_cell r0
  have n1 : ¬ b = w.heap.size := by omega
  have n2 : ¬ w.heap.size = b := by omega
  have h1 : ¬ (a : Int) ≥ (l.length : Int) := by omega
  generalize l.getD a 0 = x at *
  clear hI h
  go_enter Try.func67, Try.ntmps67
  go_wp2_with fail
  refine bodyPost_ret (results_cell3 rfl _ _ w.heap.size 34 #[.int .i64 0, .int .u64 0, .int .i64 0, .string ⟨#[]⟩, .string ⟨#[]⟩, .int .u64 0, .int .i64 0, .int .i64 0, .int .i64 0, .string ⟨#[]⟩, .int .i64 0, .int .i64 0, .int .i64 0, .int .u32 0] (0, 0) _ rfl (Blk.new w 34 [.int .i64 0, .int .u64 0, .int .i64 0, .string ⟨#[]⟩, .string ⟨#[]⟩, .int .u64 0, .int .i64 0, .int .i64 0, .int .i64 0, .string ⟨#[]⟩, .int .i64 0, .int .i64 0, .int .i64 0, .int .u32 0]) Try.underlying34 rfl (by kernel_rfl)) rfl ?_
  exact ⟨rfl, (Below.refl _ w).alloc (Nat.le_refl _) _⟩
set_option maxRecDepth 100000 in
set_option maxHeartbeats 1000000 in
theorem r4dec_len (b off c a : Nat) (l : List Nat) (w : World) (hI : IsB w (.slice (some ⟨b, off, none⟩) l.length c) l) (ha : a < l.length) (hm : l.length ≤ 9223372036854775000) (h7 : l.getD a 0 = 167) (e : Nat) (he : lnR (l.drop a) = (0, e)) (he0 : e ≠ 0) :
    Calls Try.prog 67 #[.slice (some ⟨b, off, none⟩) l.length c, .int .i64 (a : Int)] w fun e' w' => e' = .returned (dval (zf, 0, e)) ∧ Below w.heap.size w w' := by
  have r0 := hI.row a ha
  rw [h7] at r0
  have hbw : b < w.heap.size := lt_of_cell r0
  have n1 : ¬ b = w.heap.size := by omega
  have n2 : ¬ w.heap.size = b := by omega
  have h1 : ¬ (a : Int) ≥ (l.length : Int) := by omega
  have HLE := hd (fun o => r4_length b off c a l (w.alloc o) (hI.below ((Below.refl _ w).alloc (Nat.le_refl _) o)) ha hm)
  rw [he] at HLE
  have hb : ((e : Int) != 0) = true := by rw [bne_iff_ne]; omega
  clear hI he h7
  go_enter Try.func67, Try.ntmps67
  go_wp2_with fail
  refine Calls.mono (HLE.out _) ?_
  rintro e' w1 ⟨rfl, rfl⟩
  go_wp2_with fail
  refine bodyPost_ret (results_cell3 rfl _ _ w.heap.size 34 #[.int .i64 0, .int .u64 0, .int .i64 0, .string ⟨#[]⟩, .string ⟨#[]⟩, .int .u64 0, .int .i64 0, .int .i64 0, .int .i64 0, .string ⟨#[]⟩, .int .i64 0, .int .i64 0, .int .i64 0, .int .u32 0] (0, 0) _ rfl (Blk.new w 34 [.int .i64 0, .int .u64 0, .int .i64 0, .string ⟨#[]⟩, .string ⟨#[]⟩, .int .u64 0, .int .i64 0, .int .i64 0, .int .i64 0, .string ⟨#[]⟩, .int .i64 0, .int .i64 0, .int .i64 0, .int .u32 0]) Try.underlying34 rfl (by kernel_rfl)) rfl ?_
  exact ⟨rfl, (Below.refl _ w).alloc (Nat.le_refl _) _⟩
set_option maxRecDepth 100000 in
set_option maxHeartbeats 1000000 in
theorem r4dec_short (b off c a : Nat) (l : List Nat) (w : World) (hI : IsB w (.slice (some ⟨b, off, none⟩) l.length c) l) (ha : a < l.length) (hm : l.length ≤ 9223372036854775000) (h7 : l.getD a 0 = 167) (n : Nat) (hn : lnR (l.drop a) = (n, 0)) (hn2 : n < 2097152) (hs : l.length < a + n + 9) :
    Calls Try.prog 67 #[.slice (some ⟨b, off, none⟩) l.length c, .int .i64 (a : Int)] w fun e' w' => e' = .returned (dval (zf, 0, 43)) ∧ Below w.heap.size w w' := by
  have r0 := hI.row a ha
  rw [h7] at r0
  have hbw : b < w.heap.size := lt_of_cell r0
  have n1 : ¬ b = w.heap.size := by omega
  have n2 : ¬ w.heap.size = b := by omega
  have h1 : ¬ (a : Int) ≥ (l.length : Int) := by omega
  have HLE := hd (fun o => r4_length b off c a l (w.alloc o) (hI.below ((Below.refl _ w).alloc (Nat.le_refl _) o)) ha hm)
  rw [hn] at HLE
  have hb : (l.length : Int) - ((a : Int) + 4) < (n : Int) + 5 := by omega
  clear hI hn h7
  go_enter Try.func67, Try.ntmps67
  go_wp2_with fail
  refine Calls.mono (HLE.out _) ?_
  rintro e' w1 ⟨rfl, rfl⟩
  go_wp2_with fail
  refine bodyPost_ret (results_cell3 rfl _ _ w.heap.size 34 #[.int .i64 0, .int .u64 0, .int .i64 0, .string ⟨#[]⟩, .string ⟨#[]⟩, .int .u64 0, .int .i64 0, .int .i64 0, .int .i64 0, .string ⟨#[]⟩, .int .i64 0, .int .i64 0, .int .i64 0, .int .u32 0] (0, 0) _ rfl (Blk.new w 34 [.int .i64 0, .int .u64 0, .int .i64 0, .string ⟨#[]⟩, .string ⟨#[]⟩, .int .u64 0, .int .i64 0, .int .i64 0, .int .i64 0, .string ⟨#[]⟩, .int .i64 0, .int .i64 0, .int .i64 0, .int .u32 0]) Try.underlying34 rfl (by kernel_rfl)) rfl ?_
  exact ⟨rfl, (Below.refl _ w).alloc (Nat.le_refl _) _⟩
end Vt
end Go.Proofs.Ytnjhbidialngmaa
namespace Go.Proofs.Ytnjhbidialngmaa
open Go.RowKit
namespace Vt
def RBodyOk (f : Fr) : Prop := ∀ w, Calls Try.prog 9 #[.agg (fv f)] w fun e w' => ∃ u, e = .returned (.tuple #[u, .int .i64 0]) ∧ JB w' w.heap.size u (bd f) ∧ Below w.heap.size w w'
def RBodyNo (f : Fr) : Prop := ∀ w, Calls Try.prog 9 #[.agg (fv f)] w fun e w' => e = .returned (.tuple #[.slice none 0 0, .int .i64 (rf f : Int)]) ∧ Below w.heap.size w w'
set_option maxRecDepth 100000 in
set_option maxHeartbeats 4000000 in
theorem r4_encode_ok (f : Fr) (w : World) (hl : (bd f).length ≤ 1000000) (hB : RBodyOk f) : Calls Try.prog 10 #[.agg (fv f)] w fun e w' => ∃ u, e = .returned (.tuple #[u, .int .i64 0]) ∧ JB w' w.heap.size u (en f) ∧ Below w.heap.size w w' := by
  have hlen := (wr_len (bd f)).2
  have HEN : Hid (en f = [167] ++ (dg 3 (wr (bd f)).length ++ wr (bd f)) ++ dg 5 (Crc.go 0 (dg 3 (wr (bd f)).length ++ wr (bd f)))) := by
    show en f = _
    unfold en ep; simp
  unfold RBodyOk at hB
  have HC := hd hB
  have hcr := Crc.go_lt 0 (dg 3 (wr (bd f)).length ++ wr (bd f))
  clear hB
  obtain ⟨R, hR⟩ : ∃ R, R = en f := ⟨_, rfl⟩
  rw [← hR] at HEN ⊢
  clear hR
  generalize hs : Crc.go 0 (dg 3 (wr (bd f)).length ++ wr (bd f)) = S at *
  have HS := hd hs
  generalize bd f = b at *
  clear hs
  obtain ⟨k, ⟨rl, rk, rkey, rval⟩, ⟨pl, pk, pa, pn, pkey⟩, ⟨ec, eb, ef, es⟩⟩ := f
  simp only [fv] at *
  go_enter Try.func10, Try.ntmps10
  go_wp2_with fail
  refine Calls.mono (HC.out _) ?_
  rintro e w1 ⟨u, rfl, hj, hb⟩
  have HB1 := hd (below_alloc1 hb)
  have HJ1 := hd hj
  clear hj hb HC
  go_wp2_with fail
  refine Calls.mono (r4_escaped u b w1 HJ1.out.isB (by omega)) ?_
  rintro e w2 ⟨⟨a2, k2, rfl, hj⟩, hb⟩
  have HB2 : Hid (Below w.heap.size w w2) := HB1.out.trans (hb.mono HB1.out.size)
  have HJ2 := hd hj
  clear hj hb HJ1 HB1
  go_wp2_with fail
  refine Calls.mono (r4_digits (wr b).length 3 w2 (by omega) (by omega) (by omega)) ?_
  rintro e w3 ⟨⟨k3, rfl, hj⟩, hb⟩
  have HB3 : Hid (Below w.heap.size w w3) := HB2.out.trans (hb.mono HB2.out.size)
  have HI3 := hd (HJ2.out.isB.below hb)
  have HD3 := hd (hj.base HB2.out.size)
  clear hj hb HJ2 HB2
  have hs3 := HB3.out.size
  have hdl : (dg 3 (wr b).length).length = 3 := dg_len _ _
  obtain ⟨D3, hD3⟩ : ∃ D3, dg 3 (wr b).length = D3 := ⟨_, rfl⟩
  rw [hD3] at HD3 HS hdl HEN
  have HDL := hd hdl
  clear hD3 hdl
  obtain ⟨I, hI⟩ : ∃ I, D3 ++ wr b = I := ⟨_, rfl⟩
  rw [hI] at HS HEN
  have HIE := hd hI
  have HIL : Hid (I.length = 3 + (wr b).length) := by show _ = _; rw [← hI, List.length_append, HDL.out]
  clear hI
  go_wp2_with (at_builtin; refine wpList_append_jb _ rfl _ _ rfl w.heap.size _ _ D3 (wr b) rfl rfl HD3.out HI3.out (3 + (wr b).length) (by rw [HDL.out]) I HIE.out (by omega) hs3 ?_; intro a4 c4 w4 hJ4 hg4 hc4; have HJ4 := hd hJ4; have HB4 := hd (HD3.out.grown HB3.out (Nat.le_refl _) hs3 hg4); clear hJ4 hg4; have hs4 := HB4.out.size)
  refine Calls.mono (r1_sum _ I w4 HJ4.out.isB (by have := HIL.out; omega)) ?_
  rintro e w5 ⟨rfl, rfl⟩
  rw [HS.out]
  have hsz : ((S : Nat) : Int) < 4294967296 := by omega
  go_wp2_with (at_builtin; have HJA : JB (w5.alloc (.cells #[.int .u8 167] 5)) w.heap.size (.slice (some ⟨w5.heap.size, 0, none⟩) 1 1) [167] := jb_lit w5 w.heap.size [167] _ 1 _ rfl rfl rfl (by intro x hx; simp at hx; omega) (by simp [maxLen]) hs4; have HIA := (HJ4.out.alloc (.cells #[.int .u8 167] 5)).isB; have HBA : Below w.heap.size w (w5.alloc (.cells #[.int .u8 167] 5)) := HB4.out.alloc hs4 _; have hsA := HBA.size; refine wpList_append_jb _ rfl _ _ rfl w.heap.size _ _ [167] I rfl rfl HJA HIA (1 + (3 + (wr b).length)) (by rw [HIL.out]; rfl) ([167] ++ I) rfl (by omega) hsA ?_; intro a6 c6 w6 hJ6 hg6 hc6; have HJ6 := hd hJ6; have HB6 := hd (HJA.grown HBA (Nat.le_refl _) hsA hg6); clear hJ6 hg6 HJA HIA HBA hsA; have hs6 := HB6.out.size)
  have hIL := HIL.out
  refine Calls.mono (r4_digits S 5 w6 (by omega) (by omega) (by omega)) ?_
  rintro e w7 ⟨⟨k7, rfl, hj⟩, hb⟩
  have HI7 := hd hj.isB
  have HJ7 := hd (HJ6.out.keepAll hb)
  have HB7 : Hid (Below w.heap.size w w7) := HB6.out.trans (hb.mono hs6)
  have hs7 := HB7.out.size
  have HL1 : Hid (([167] ++ I).length = 1 + (3 + (wr b).length)) := by show _ = _; rw [List.length_append, HIL.out]; rfl
  have HDG : Hid ((dg 5 S).length = 5) := dg_len _ _
  clear hj hb HJ6 HB6 hIL
  go_wp2_with (at_builtin; refine wpList_append_jb _ rfl _ _ rfl w.heap.size _ _ ([167] ++ I) (dg 5 S) rfl rfl HJ7.out HI7.out (1 + (3 + (wr b).length) + 5) (by rw [HL1.out, HDG.out]) R HEN.out.symm (by omega) hs7 ?_; intro a8 c8 w8 hJ8 hg8 hc8; have HJ8 := hd hJ8; have HB8 := hd (HJ7.out.grown HB7.out (Nat.le_refl _) hs7 hg8); clear hJ8 hg8)
  go_ret2
  exact ⟨_, rfl, HJ8.out, HB8.out⟩
end Vt
end Go.Proofs.Ytnjhbidialngmaa
namespace Go.Proofs.Ytnjhbidialngmaa
namespace Vt
theorem dcd_lead {m : List Nat} (hb : Byt m) (h : (dcd m).2.2 = 0) : m.getD 0 0 = 167 ∧ m ≠ [] := by
  obtain ⟨_, _, e3, e4, e5⟩ := en_dcd hb h
  have hp := en_pos (dcd m).1
  have e := congrArg (fun q => q.getD 0 0) e5
  rw [en_head] at e
  constructor
  · rw [← e, List.getD_eq_getElem?_getD, List.getD_eq_getElem?_getD, List.getElem?_take, if_pos (by omega)]
  · rintro rfl; simp at e4; omega
/-- within a frame there is no lead byte -/
theorem dcd_in {m : List Nat} (hb : Byt m) (h : (dcd m).2.2 = 0) {j : Nat} (h1 : 1 ≤ j) (h2 : j < (dcd m).2.1) : m.getD j 0 ≠ 167 := by
  obtain ⟨_, _, e3, e4, e5⟩ := en_dcd hb h
  have e := congrArg (fun q => q.getD j 0) e5
  have h3 := en_no (f := (dcd m).1) (j := j) h1 (by omega)
  rw [← e, List.getD_eq_getElem?_getD, List.getElem?_take, if_pos h2, ← List.getD_eq_getElem?_getD] at h3
  exact h3
theorem getD_drop0 (l : List Nat) (i : Nat) : (l.drop i).getD 0 0 = l.getD i 0 := by
  rw [List.getD_eq_getElem?_getD, List.getD_eq_getElem?_getD, List.getElem?_drop, Nat.add_zero]
/-- a frame's place, its length, the frame -/
abbrev Lc := Nat × Nat × Fr
open Classical in
/-- all frames of the bytes l, the first of which stands at at_: every place is asked -/
noncomputable def locs (at_ : Nat) : List Nat → List Lc
  | [] => []
  | x :: r => if (dcd (x :: r)).2.2 = 0 then (at_, (dcd (x :: r)).2.1, (dcd (x :: r)).1) :: locs (at_ + 1) r else locs (at_ + 1) r
theorem locs_nil (at_ : Nat) : locs at_ [] = [] := rfl
theorem locs_err {at_ : Nat} {l : List Nat} (h : (dcd l).2.2 ≠ 0) : locs at_ l = locs (at_ + 1) (l.drop 1) := by
  cases l with
  | nil => rfl
  | cons x r => rw [locs, if_neg h]; rfl
theorem locs_skip (j : Nat) : ∀ (at_ : Nat) (l : List Nat), (∀ i, i < j → (dcd (l.drop i)).2.2 ≠ 0) → locs at_ l = locs (at_ + j) (l.drop j) := by
  induction j with
  | zero => intro at_ l _; rw [List.drop_zero, Nat.add_zero]
  | succ j ih =>
    intro at_ l h
    have h0 := h 0 (by omega)
    rw [List.drop_zero] at h0
    rw [locs_err h0, ih (at_ + 1) (l.drop 1) (fun i hi => by rw [List.drop_drop]; have := h (1 + i) (by omega); exact this), List.drop_drop]
    rw [show at_ + 1 + j = at_ + (j + 1) by omega, show 1 + j = j + 1 by omega]
theorem nx_lt {l : List Nat} {i : Nat} (h : i < nx l) : l.getD i 0 ≠ 167 := by
  have hl := nx_le l
  have h2 := List.not_of_lt_findIdx h
  rw [List.getD_eq_getElem?_getD, List.getElem?_eq_getElem (by omega)]
  simpa using h2
theorem nx_at {l : List Nat} (h : nx l < l.length) : l.getD (nx l) 0 = 167 := by
  have h2 := List.findIdx_getElem (xs := l) (p := (· == 167)) (w := h)
  rw [List.getD_eq_getElem?_getD, List.getElem?_eq_getElem h]
  exact eq_of_beq h2
theorem locs_next {l : List Nat} (hb : Byt l) (at_ : Nat) : locs at_ l = locs (at_ + nx l) (l.drop (nx l)) := by
  refine locs_skip _ _ _ fun i hi h => ?_
  have h1 := (dcd_lead (byt_drop hb i) h).1
  rw [getD_drop0] at h1
  exact nx_lt hi h1
theorem locs_ok {l : List Nat} (hb : Byt l) (at_ : Nat) (h : (dcd l).2.2 = 0) : locs at_ l = (at_, (dcd l).2.1, (dcd l).1) :: locs (at_ + (dcd l).2.1) (l.drop (dcd l).2.1) := by
  obtain ⟨_, _, e3, e4, e5⟩ := en_dcd hb h
  have hp := en_pos (dcd l).1
  cases l with
  | nil => simp at e4; omega
  | cons x r =>
    rw [locs, if_pos h]
    congr 1
    have := locs_skip ((dcd (x :: r)).2.1 - 1) (at_ + 1) r (fun i hi hc => by
      have h1 := (dcd_lead (byt_drop (l := r) (fun y hy => hb y (List.mem_cons_of_mem _ hy)) i) hc).1
      rw [getD_drop0] at h1
      have h2 := dcd_in hb h (j := i + 1) (by omega) (by omega)
      rw [List.getD_cons_succ] at h2
      exact h2 h1)
    rw [this, show at_ + 1 + ((dcd (x :: r)).2.1 - 1) = at_ + (dcd (x :: r)).2.1 by omega]
    congr 1
    obtain ⟨m, hm⟩ : ∃ m, (dcd (x :: r)).2.1 = m + 1 := ⟨(dcd (x :: r)).2.1 - 1, by omega⟩
    rw [hm, List.drop_succ_cons, Nat.add_sub_cancel]
/-- what is laid down is found -/
theorem locs_en {f : Fr} (hw : f.Wf) (h : rf f = 0) {r : List Nat} (hb : Byt (en f ++ r)) (at_ : Nat) : locs at_ (en f ++ r) = (at_, (en f).length, f) :: locs (at_ + (en f).length) r := by
  have e := dcd_en hw h r
  have := locs_ok hb at_ (by rw [e])
  rw [this, e]
  simp only
  rw [List.drop_left' rfl]
/-- a found frame stands in the bytes -/
theorem locs_mem {l : List Nat} (hb : Byt l) : ∀ (at_ : Nat) (x : Lc), x ∈ locs at_ l → at_ ≤ x.1 ∧ x.1 + x.2.1 ≤ at_ + l.length ∧ dcd (l.drop (x.1 - at_)) = (x.2.2, x.2.1, 0) ∧ 9 ≤ x.2.1 ∧ rf x.2.2 = 0 ∧ x.2.2.Wf := by
  induction l with
  | nil => intro at_ x hx; rw [locs] at hx; cases hx
  | cons y r ih =>
    intro at_ x hx
    have hbr : Byt r := fun z hz => hb z (List.mem_cons_of_mem _ hz)
    have go : x ∈ locs (at_ + 1) r → at_ ≤ x.1 ∧ x.1 + x.2.1 ≤ at_ + (y :: r).length ∧ dcd ((y :: r).drop (x.1 - at_)) = (x.2.2, x.2.1, 0) ∧ 9 ≤ x.2.1 ∧ rf x.2.2 = 0 ∧ x.2.2.Wf := by
      intro hx
      obtain ⟨h1, h2, h3, h4⟩ := ih hbr (at_ + 1) x hx
      refine ⟨by omega, by rw [List.length_cons]; omega, ?_, h4⟩
      rw [show x.1 - at_ = (x.1 - (at_ + 1)) + 1 by omega, List.drop_succ_cons]; exact h3
    rw [locs] at hx
    split at hx
    · rename_i h
      rcases List.mem_cons.1 hx with rfl | hx
      · obtain ⟨e1, e2, e3, e4, e5⟩ := en_dcd hb h
        have hp := en_pos (dcd (y :: r)).1
        refine ⟨Nat.le_refl _, by simp only; omega, ?_, by simp only; omega, e1, e2⟩
        simp only
        rw [Nat.sub_self, List.drop_zero]
        exact Prod.ext rfl (Prod.ext rfl h)
      · exact go hx
    · exact go hx
/-- an extent: junk or not, the place, the length -/
abbrev Ex := Bool × Int × Int
/-- a run of junk, unless it is empty -/
def jk1 (a b : Nat) : List Ex := if a = b then [] else [(true, (a : Int), (b : Int) - (a : Int))]
/-- one more frame -/
def exS (s : List Ex × Nat) (x : Lc) : List Ex × Nat := (s.1 ++ jk1 s.2 x.1 ++ [(false, (x.1 : Int), (x.2.1 : Int))], x.1 + x.2.1)
def exF (pre : List Lc) : List Ex × Nat := pre.foldl exS ([], 0)
/-- the extents of some bytes -/
noncomputable def exts (l : List Nat) : List Ex := (exF (locs 0 l)).1 ++ jk1 (exF (locs 0 l)).2 l.length
/-- the extents from a place on -/
def exR : Nat → List Lc → Nat → List Ex
  | e, [], N => jk1 e N
  | e, x :: r, N => jk1 e x.1 ++ (false, (x.1 : Int), (x.2.1 : Int)) :: exR (x.1 + x.2.1) r N
/-- the frames alone -/
def cln (l : List Nat) (pre : List Lc) : List Nat := (pre.map fun x => (l.drop x.1).take x.2.1).flatten
theorem locs_len {l : List Nat} (hb : Byt l) : ∀ n, l.length ≤ n → ∀ at_, 9 * (locs at_ l).length ≤ l.length := by
  intro n
  induction n generalizing l with
  | zero =>
    intro h at_
    obtain rfl : l = [] := List.length_eq_zero_iff.1 (by omega)
    simp [locs]
  | succ n ih =>
    intro h at_
    by_cases hne : l = []
    · subst hne; simp [locs]
    · have hlen : 1 ≤ l.length := by cases l with
        | nil => exact absurd rfl hne
        | cons x r => simp
      by_cases he : (dcd l).2.2 = 0
      · obtain ⟨_, _, e3, e4, _⟩ := en_dcd hb he
        have hp := en_pos (dcd l).1
        rw [locs_ok hb at_ he, List.length_cons]
        have := ih (l := l.drop (dcd l).2.1) (byt_drop hb _) (by rw [List.length_drop]; omega) (at_ + (dcd l).2.1)
        rw [List.length_drop] at this
        omega
      · rw [locs_err he]
        have := ih (l := l.drop 1) (byt_drop hb _) (by rw [List.length_drop]; omega) (at_ + 1)
        rw [List.length_drop] at this
        omega
end Vt
end Go.Proofs.Ytnjhbidialngmaa
