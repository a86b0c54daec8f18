/-
  THE WALK OF counts; what it looks for, plainly.
-/
import Derived.Test.YtfaoemmkcmijfabFd4
namespace Go.Proofs.Ytfaoemmkcmijfab
open Go.RowKit Go.Maps Go.Sort
namespace Fd
open Vt
theorem rec_eql (f g : Rec) : ∃ b : Bool, (∀ w, (binOp .eql TR (.agg (rv f)) (.agg (rv g))).run Try.prog w = .ok (.bool b) w) ∧ (b = true ↔ f = g) := by
  by_cases h : f = g
  · subst h
    exact ⟨true, fun w => by unfold binOp; simp [Op.equal, show Op.maxDepth = 10000 from rfl, eq_rec f w], by simp⟩
  · exact ⟨false, fun w => by unfold binOp; simp [Op.equal, show Op.maxDepth = 10000 from rfl, ne_rec h w], by simp [h]⟩
theorem kind_ok {x : Rec} (h : rf (ofR x) = 0) : x.kind = 1 ∨ x.kind = 2 := by
  unfold rf at h
  by_cases c : (ofR x).kind = 1 ∨ (ofR x).kind = 2
  · exact c
  · rw [if_neg c] at h
    by_cases c3 : (ofR x).kind = 3
    · rw [if_pos c3] at h
      unfold rfP at h
      rw [if_pos (show (ofR x).p.kind ≠ 1 ∧ (ofR x).p.kind ≠ 2 by show (0 : Int) ≠ 1 ∧ (0 : Int) ≠ 2; decide)] at h
      omega
    · rw [if_neg c3] at h
      by_cases c4 : (ofR x).kind = 4
      · rw [if_pos c4] at h
        unfold rfE at h
        have hne : ofR x ≠ ⟨4, zr, zp, (ofR x).e⟩ := by
          intro e
          have := congrArg (fun f : Fr => f.r.kind) e
          have h0 : x.kind = 0 := this
          have h4 : x.kind = 4 := c4
          omega
        rw [if_pos hne] at h
        split at h <;> omega
      · rw [if_neg c4] at h; omega
/-- what counts of a key, against any record of it -/
theorem top_ways {e r : Rec} (he : rf (ofR e) = 0) (hr : rf (ofR r) = 0) (hle : cp r e ≤ 0) : r.lsn < e.lsn ∨ (e.lsn = r.lsn ∧ (e = r ∨ e.kind = 2 ∨ r.kind = 1)) := by
  rcases cp_ways r e with ⟨q, _⟩ | ⟨q, _⟩ | ⟨_, q, _⟩ | ⟨_, _, q⟩
  · exact absurd hr q
  · exact absurd hr q
  · exact absurd he q
  · rcases q with ⟨q, _⟩ | ⟨_, q⟩ | ⟨q1, q2⟩
    · exact .inl q
    · omega
    · refine .inr ⟨q1.symm, ?_⟩
      rcases kind_ok he with k1 | k1
      · rcases kind_ok hr with k2 | k2
        · exact .inr (.inr k2)
        · exfalso
          rw [q2] at hle
          have e1 : ∃ t, bd (ofR e) = 1 :: t := ⟨_, by unfold bd bp; rw [if_pos (show (ofR e).kind = 1 from k1)]; rfl⟩
          have e2 : ∃ t, bd (ofR r) = 2 :: t := ⟨_, by unfold bd bp; rw [if_neg (show ¬ (ofR r).kind = 1 by show ¬ r.kind = 1; omega), if_pos (show (ofR r).kind = 2 from k2)]; rfl⟩
          obtain ⟨t1, e1⟩ := e1
          obtain ⟨t2, e2⟩ := e2
          rw [e1, e2] at hle
          revert hle
          simp [cb]
      · exact .inr (.inl k1)
/-- which it is -/
theorem first_at {es : List Rec} {k : ByteArray} (h : ∃ e ∈ es, e.key = k) : ∃ (i : Nat) (e : Rec), es[i]? = some e ∧ e.key = k ∧ ∀ (j : Nat) (x : Rec), j < i → es[j]? = some x → x.key ≠ k := by
  induction es with
  | nil => obtain ⟨e, he, _⟩ := h; cases he
  | cons a t ih =>
    by_cases q : a.key = k
    · exact ⟨0, a, rfl, q, fun j x hj => by omega⟩
    · obtain ⟨e, he, hk⟩ := h
      rcases List.mem_cons.1 he with rfl | he
      · exact absurd hk q
      · obtain ⟨i, e', h1, h2, h3⟩ := ih ⟨e, he, hk⟩
        refine ⟨i + 1, e', h1, h2, fun j x hj hx => ?_⟩
        cases j with
        | zero => obtain rfl := Option.some.inj hx; exact q
        | succ j => exact h3 j x (by omega) hx
set_option maxRecDepth 100000 in
set_option maxHeartbeats 1000000 in
theorem counts_is (w : World) (v : Value) (es : List Rec) (r : Rec) (h : IsR w v es) (hl : es.length ≤ 1099511627776) (hx : ∃ e ∈ es, e.key = r.key) (ht : ∀ e ∈ es, e.key = r.key → r.lsn < e.lsn ∨ (e.lsn = r.lsn ∧ (e = r ∨ e.kind = 2 ∨ r.kind = 1))) :
    Calls Try.prog 9 #[v, .agg (rv r)] w fun x w' => x = .returned (.bool true) ∧ Below w.heap.size w w' := by
  obtain ⟨i0, e, hi0, hek, hbf⟩ := first_at hx
  have hte := ht e (List.mem_of_getElem? hi0) hek
  have hil := (List.getElem?_eq_some_iff.1 hi0).1
  obtain ⟨av, cv, rfl⟩ := h.shape
  obtain ⟨W, hW⟩ : ∃ W, W = w.alloc (.cells #[.int .u64 (r.lsn : Int), .int .i64 r.kind, .string r.key, .string r.val] TR) := ⟨_, rfl⟩
  have hb : Below w.heap.size w W := by rw [hW]; exact (Below.refl _ w).alloc (Nat.le_refl _) _
  have hB : Blk W w.heap.size TR (rcl r) := by rw [hW]; exact Blk.new w TR (rcl r)
  have HI := hd (h.below hb); have HB := hd hb; have HBL := hd hB; have HW := hd hW
  have HBF := hd hbf; have HI0 := hd hi0; have HTE := hd hte
  have b0 : W.cell? ⟨w.heap.size, 0, none⟩ = some (.int .u64 (r.lsn : Int)) := hB.cell 0 _ rfl
  have b1 : W.cell? ⟨w.heap.size, 1, none⟩ = some (.int .i64 r.kind) := hB.cell 1 _ rfl
  have b2 : W.cell? ⟨w.heap.size, 2, none⟩ = some (.string r.key) := hB.cell 2 _ rfl
  have b3 : W.cell? ⟨w.heap.size, 3, none⟩ = some (.string r.val) := hB.cell 3 _ rfl
  clear h hb hB hW hbf hi0 hte hx ht
  simp only [rv]
  go_enter Try.func9, Try.ntmps9
  go_wp2_with fail
  rw [← HW.out]
  go_loopw [5] (fun i wr => ∃ k : Nat, k ≤ i0 ∧ i = .int .i64 (k : Int) ∧ ∃ q, wr = W.drewN q) (fun i _ => i0 + 1 - (intOf i).toNat)
  case atStart => exact ⟨0, by omega, rfl, 0, rfl⟩
  case round =>
    obtain ⟨k, hk, rfl, hwr⟩ := hrel
    have HWR := hd hwr
    clear hwr
    have hkl : k < es.length := by omega
    obtain ⟨x, hx⟩ : ∃ x, es[k]? = some x := ⟨_, List.getElem?_eq_getElem hkl⟩
    rcases HI.out.2 with ⟨rfl, _⟩ | ⟨b, off, c, he, hlc, hcm, hbl, hop⟩
    · simp at hkl
    injection he with he1 he2 he3
    subst he1 he3
    have hcx : ∀ (j : Nat) (u : Value), (rcl x)[j]? = some u → wr.cell? ⟨b, off + k * 4 + j, none⟩ = some u := fun j u hu => by
      obtain ⟨q, rfl⟩ := HWR.out
      exact hop k x hx j u hu
    have c0 : wr.cell? ⟨b, off + k * 4, none⟩ = some (.int .u64 (x.lsn : Int)) := hcx 0 _ rfl
    have c1 := hcx 1 _ rfl
    have c2 := hcx 2 _ rfl
    have c3 := hcx 3 _ rfl
    have hW0 : ∀ (j : Nat) (u : Value), W.cell? ⟨w.heap.size, j, none⟩ = some u → wr.cell? ⟨w.heap.size, j, none⟩ = some u := fun j u hu => by
      obtain ⟨q, rfl⟩ := HWR.out
      exact hu
    have d0 := hW0 0 _ b0
    have d1 := hW0 1 _ b1
    have d2 := hW0 2 _ b2
    have d3 := hW0 3 _ b3
    clear hop hcx hW0
    by_cases hki : k < i0
    · have hne := HBF.out k x hki hx
      have hnb : (x.key.toList == r.key.toList) = false := by rw [str_beq]; exact decide_eq_false hne
      go_wp2_with fail
      go_quiet (fail)
      go_wp2_with fail
      go_roundw
      case rel => refine ⟨k + 1, by omega, by go_num, ?_⟩; obtain ⟨q, hq⟩ := HWR.out; subst hq; simp only [World.drewN_drewN]; exact ⟨_, rfl⟩
      case measure => simp [intOf]; omega
    · obtain rfl : k = i0 := by omega
      obtain rfl : e = x := Option.some.inj (HI0.out.symm.trans hx)
      have hyb : (e.key.toList == r.key.toList) = true := by rw [str_beq]; exact decide_eq_true hek
      have HBB : Hid (∀ n, Below w.heap.size w (wr.drewN n)) := fun n => by
        obtain ⟨q, rfl⟩ := HWR.out
        exact ⟨HB.out.os, HB.out.tape, HB.out.output, HB.out.size, HB.out.block⟩
      obtain ⟨bq, hbq, hbi⟩ := rec_eql e r
      simp only [rv] at hbq
      have HBI := hd hbi
      clear hbi hek hx hki hk
      go_wp2_with fail
      go_quiet (fail)
      rcases HTE.out with hgt | ⟨heq, hw3⟩
      · have hgi : (r.lsn : Int) < (e.lsn : Int) := by omega
        clear hgt
        go_wp2_with fail
        go_quiet (fail)
        go_wp2_with fail
        go_ret
        simp only [World.drewN_drewN]
        exact ⟨rfl, HBB.out _⟩
      · have hng : decide (r.lsn < e.lsn) = false := decide_eq_false (by omega)
        have heb1 : (e.lsn == r.lsn) = true := by rw [beq_iff_eq]; omega
        have heb3 : decide (e.lsn = r.lsn) = true := decide_eq_true heq
        have heb : ((e.lsn : Int) == (r.lsn : Int)) = true := by rw [beq_iff_eq]; omega
        clear heq
        rcases Bool.eq_false_or_eq_true bq with hb1 | hb1
        · subst hb1
          go_wp2_with fail
          go_quiet (fail)
          go_wp2_with fail
          go_ret
          simp only [World.drewN_drewN]
          exact ⟨rfl, HBB.out _⟩
        · subst hb1
          by_cases hk2 : e.kind = 2
          · have hkb : (e.kind == 2) = true := by rw [beq_iff_eq]; exact hk2
            clear hk2
            go_wp2_with fail
            go_quiet (fail)
            go_wp2_with fail
            go_ret
            simp only [World.drewN_drewN]
            exact ⟨rfl, HBB.out _⟩
          · have hkb : (e.kind == 2) = false := by rw [beq_eq_false_iff_ne]; exact hk2
            have hrb : (r.kind == 1) = true := by
              rw [beq_iff_eq]
              rcases hw3 with q | q | q
              · exact absurd (HBI.out.2 q) (by simp)
              · exact absurd q hk2
              · exact q
            clear hk2 hw3
            go_wp2_with fail
            go_quiet (fail)
            go_wp2_with fail
            go_ret
            simp only [World.drewN_drewN]
            exact ⟨rfl, HBB.out _⟩
end Fd
end Go.Proofs.Ytfaoemmkcmijfab
