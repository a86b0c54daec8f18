/-
  THE WALKS OF frame.Of, mayBeKey, mostValue, onDisk, recordRefusal, pointerRefusal, endingRefusal, refusal: what 'rf' says.
-/
import Derived.Test.YtifjjoobbegpoaaMkae
import Derived.Laws.StructEq
namespace Go.Proofs.Ytifjjoobbegpoaa
open Go.RowKit
namespace Vt
/-- a record's cells, a pointer's, an ending's, a frame's -/
def rv (r : Rec) : Array Value := #[.int .u64 (r.lsn : Int), .int .i64 r.kind, .string r.key, .string r.val]
def fv (f : Fr) : Array Value := #[.int .i64 f.kind, .int .u64 (f.r.lsn : Int), .int .i64 f.r.kind, .string f.r.key, .string f.r.val, .int .u64 (f.p.lsn : Int), .int .i64 f.p.kind, .int .i64 f.p.at_, .int .i64 f.p.len, .string f.p.key, .int .i64 f.e.count, .int .i64 f.e.bytes, .int .i64 f.e.frames, .int .u32 (f.e.sum : Int)]
theorem str_beq (a b : ByteArray) : (a.toList == b.toList) = decide (a = b) := by
  by_cases h : a = b
  · subst h; simp
  · rw [decide_eq_false h, ByteArray.toList_eq, ByteArray.toList_eq, beq_eq_false_iff_ne]
    intro e
    exact h (Go.WideShapes.bytes_inj e)
theorem fr_eq {f g : Fr} (h1 : f.kind = g.kind) (h2 : f.r.lsn = g.r.lsn) (h3 : f.r.kind = g.r.kind) (h4 : f.r.key.toList = g.r.key.toList) (h5 : f.r.val.toList = g.r.val.toList) (h6 : f.p.lsn = g.p.lsn) (h7 : f.p.kind = g.p.kind) (h8 : f.p.at_ = g.p.at_) (h9 : f.p.len = g.p.len) (h10 : f.p.key.toList = g.p.key.toList) (h11 : f.e.count = g.e.count) (h12 : f.e.bytes = g.e.bytes) (h13 : f.e.frames = g.e.frames) (h14 : f.e.sum = g.e.sum) : f = g := by
  have inj : ∀ {a b : ByteArray}, a.toList = b.toList → a = b := by
    intro a b e
    rw [ByteArray.toList_eq, ByteArray.toList_eq] at e
    exact Go.WideShapes.bytes_inj e
  obtain ⟨k, ⟨a1, a2, a3, a4⟩, ⟨b1, b2, b3, b4, b5⟩, ⟨c1, c2, c3, c4⟩⟩ := f
  obtain ⟨k', ⟨a1', a2', a3', a4'⟩, ⟨b1', b2', b3', b4', b5'⟩, ⟨c1', c2', c3', c4'⟩⟩ := g
  simp only at *
  have e4 := inj h4
  have e5 := inj h5
  have e10 := inj h10
  subst h1 h2 h3 e4 e5 h6 h7 h8 h9 e10 h11 h12 h13 h14
  rfl
theorem eq_fr (f : Fr) (w : World) : (Op.equalIn 10000 41 (.agg (fv f)) (.agg (fv f))).run Try.prog w = .ok true w := by
  unfold fv
  simp [go_sem, Op.eqFields]
theorem ne_fr {f g : Fr} (h : f ≠ g) (w : World) : (Op.equalIn 10000 41 (.agg (fv f)) (.agg (fv g))).run Try.prog w = .ok false w := by
  unfold fv
  simp [go_sem, Op.eqFields]
  intro h1 h2 h3 h4 h5 h6 h7 h8 h9 h10 h11 h12 h13 h14
  exact h (fr_eq h1 (by omega) h3 h4 h5 (by omega) h7 h8 h9 h10 h11 h12 h13 (by omega))
theorem neq_yes {f g : Fr} (h : f ≠ g) (w : World) : (binOp .neq 41 (.agg (fv f)) (.agg (fv g))).run Try.prog w = .ok (.bool true) w := by
  rw [run_neq_struct, ne_fr h]; rfl
theorem neq_no {f g : Fr} (h : f = g) (w : World) : (binOp .neq 41 (.agg (fv f)) (.agg (fv g))).run Try.prog w = .ok (.bool false) w := by
  rw [run_neq_struct, h, eq_fr]; rfl
theorem eql_yes {f g : Fr} (h : f = g) (w : World) : (binOp .eql 41 (.agg (fv f)) (.agg (fv g))).run Try.prog w = .ok (.bool true) w := by
  rw [run_eql_struct, h, eq_fr]; rfl
theorem eql_no {f g : Fr} (h : f ≠ g) (w : World) : (binOp .eql 41 (.agg (fv f)) (.agg (fv g))).run Try.prog w = .ok (.bool false) w := by
  rw [run_eql_struct, ne_fr h]; rfl
set_option maxHeartbeats 400000 in
theorem mayBeKey_yes (s : ByteArray) (w : World) (h : mayKey s) : Calls Try.prog 112 #[.string s] w fun e w' => e = .returned (.bool true) ∧ w' = w := by
  obtain ⟨h1, h2⟩ := h
  have e : decide ((s.size : Int) ≤ 64) = true := by simp; omega
  go_enter Try.func112, Try.ntmps112
  go_wp2
  go_ret
  exact ⟨rfl, rfl⟩
set_option maxHeartbeats 400000 in
theorem mayBeKey_no (s : ByteArray) (w : World) (h : ¬ mayKey s) : Calls Try.prog 112 #[.string s] w fun e w' => e = .returned (.bool false) ∧ w' = w := by
  unfold mayKey at h
  by_cases h1 : 1 ≤ s.size
  · have h2 : ¬ s.size ≤ 64 := fun q => h ⟨h1, q⟩
    have e : decide ((s.size : Int) ≤ 64) = false := by simp; omega
    clear h
    go_enter Try.func112, Try.ntmps112
    go_wp2
    go_ret
    exact ⟨rfl, rfl⟩
  · clear h
    go_enter Try.func112, Try.ntmps112
    go_wp2
    go_ret
    exact ⟨rfl, rfl⟩
set_option maxHeartbeats 400000 in
theorem onDisk_yes (n : Int) (w : World) (h : onD n) : Calls Try.prog 114 #[.int .i64 n] w fun e w' => e = .returned (.bool true) ∧ w' = w := by
  obtain ⟨h1, h2⟩ := h
  have e : decide (n ≤ 4194304) = true := by simp; omega
  go_enter Try.func114, Try.ntmps114
  go_wp2
  go_ret
  exact ⟨rfl, rfl⟩
set_option maxHeartbeats 400000 in
theorem onDisk_no (n : Int) (w : World) (h : ¬ onD n) : Calls Try.prog 114 #[.int .i64 n] w fun e w' => e = .returned (.bool false) ∧ w' = w := by
  unfold onD at h
  by_cases h1 : 0 ≤ n
  · have h2 : ¬ n ≤ 4194304 := fun q => h ⟨h1, q⟩
    have e : decide (n ≤ 4194304) = false := by simp; omega
    clear h
    go_enter Try.func114, Try.ntmps114
    go_wp2
    go_ret
    exact ⟨rfl, rfl⟩
  · clear h
    go_enter Try.func114, Try.ntmps114
    go_wp2
    go_ret
    exact ⟨rfl, rfl⟩
def mv (k : Int) : Int := if k = 2 then 0 else 2048
theorem mostValue_is (k : Int) (w : World) : Calls Try.prog 113 #[.int .i64 k] w fun e w' => e = .returned (.int .i64 (mv k)) ∧ w' = w := by
  unfold mv
  by_cases h : k = 2
  · subst h
    go_enter Try.func113, Try.ntmps113
    go_wp2
    go_ret
    exact ⟨rfl, rfl⟩
  · rw [if_neg h]
    go_enter Try.func113, Try.ntmps113
    go_wp2
    go_ret
    exact ⟨rfl, rfl⟩
theorem heap_two (w : World) (A B : Obj) : ((w.alloc A).alloc B).heap[w.heap.size + 1]? = some B := by
  have h := heap_alloc_new (w.alloc A) B
  rw [World.size_alloc] at h
  exact h
theorem below_alloc1 {w w' : World} {o : Obj} (h : Below (w.alloc o).heap.size (w.alloc o) w') : Below w.heap.size w w' := ((Below.refl _ _).alloc (Nat.le_refl _) o).trans (h.mono (by simp))
theorem below_two (w : World) (A B : Obj) : Below w.heap.size w ((w.alloc A).alloc B) := ((Below.refl _ _).alloc (Nat.le_refl _) _).alloc (by simp) _
set_option maxRecDepth 100000 in
set_option maxHeartbeats 400000 in
theorem of_is (r : Rec) (w : World) : Calls Try.prog 48 #[.agg (rv r)] w fun e w' => e = .returned (.agg (fv (ofR r))) ∧ w' = (w.alloc (.cells (rv r) 32)).alloc (.cells (fv (ofR r)) 41) := by
  unfold rv fv ofR zp ze
  obtain ⟨lsn, kind, key, val⟩ := r
  simp only
  go_enter Try.func48, Try.ntmps48
  go_wp2
  refine bodyPost_ret (results_cell_row rfl _ _ (w.heap.size + 1) 41 _ (0, 0) _ rfl (heap_two _ _ _) Try.underlying41 rfl (by kernel_rfl)) rfl ?_
  exact ⟨rfl, rfl⟩
theorem below_four (w : World) (A B C D : Obj) : Below w.heap.size w ((((w.alloc A).alloc B).alloc C).alloc D) := ((below_two w A B).alloc (by simp; omega) _).alloc (by simp; omega) _
theorem below_rest (w : World) (A B C D : Obj) (n : Nat) : Below w.heap.size w (((((w.alloc A).alloc B).drewN n).alloc C).alloc D) := by
  have h := below_drewN (below_two w A B) n
  exact (h.alloc h.size _).alloc (by have := h.size; simp; omega) _
theorem ite_ne {f g : Fr} {b : Bool} (hb : b = false ↔ f = g) {inst : Decidable (f ≠ g)} : (@ite Nat (f ≠ g) inst 40 0) = if b then 40 else 0 := by
  cases b
  · rw [if_neg (fun q => q (hb.1 rfl))]; rfl
  · rw [if_pos (fun q => by have := hb.2 q; cases this)]; rfl
theorem neq_any (f g : Fr) : ∃ b : Bool, (∀ w, (binOp .neq 41 (.agg (fv f)) (.agg (fv g))).run Try.prog w = .ok (.bool b) w) ∧ (b = false ↔ f = g) := by
  by_cases h : f = g
  · exact ⟨false, neq_no h, by simp [h]⟩
  · exact ⟨true, neq_yes h, by simp [h]⟩
set_option maxRecDepth 100000 in
set_option maxHeartbeats 4000000 in
theorem recRef_is (f : Fr) (w : World) : Calls Try.prog 99 #[.agg (fv f)] w fun e w' => e = .returned (.int .i64 (rfR f : Int)) ∧ Below w.heap.size w w' := by
  obtain ⟨k, ⟨lsn, rk, key, val⟩, ⟨pl, pk, pa, pn, pkey⟩, ⟨ec, eb, ef, es⟩⟩ := f
  have hof := of_is ⟨lsn, rk, key, val⟩
  unfold rfR
  simp only
  by_cases c1 : rk ≠ k
  · rw [if_pos c1]
    have q : (rk != k) = true := by simpa using c1
    unfold fv
    go_enter Try.func99, Try.ntmps99
    go_wp2_with fail
    go_ret
    exact ⟨rfl, below_two _ _ _⟩
  · rw [if_neg c1]
    obtain rfl : rk = k := Classical.not_not.1 c1
    clear c1
    by_cases c2 : lsn = 0
    · rw [if_pos c2]
      subst c2
      unfold fv
      go_enter Try.func99, Try.ntmps99
      go_wp2_with fail
      go_ret
      exact ⟨rfl, below_two _ _ _⟩
    · rw [if_neg c2]
      have q2 : (((lsn : Nat) : Int) == 0) = false := by simp; omega
      by_cases c3 : ¬ mayKey key
      · rw [if_pos c3]
        unfold fv
        go_enter Try.func99, Try.ntmps99
        go_wp2_with fail
        refine Calls.mono (mayBeKey_no _ _ c3) ?_
        rintro e w' ⟨rfl, rfl⟩
        go_wp2_with fail
        go_ret
        exact ⟨rfl, below_two _ _ _⟩
      · rw [if_neg c3]
        have HK := hd (Classical.not_not.1 c3)
        clear c3
        by_cases c4 : (if rk = 2 then 0 else 2048) < val.size
        · rw [if_pos c4]
          have HM := hd (mostValue_is rk)
          have q4 : decide (mv rk < (val.size : Int)) = true := by
            rw [decide_eq_true_iff]; unfold mv; by_cases h : rk = 2
            · rw [if_pos h] at c4 ⊢; omega
            · rw [if_neg h] at c4 ⊢; omega
          have HQ4 := hd c4
          clear c4
          generalize mv rk = m at *
          unfold fv
          go_enter Try.func99, Try.ntmps99
          go_wp2_with fail
          refine Calls.mono (mayBeKey_yes _ _ HK.out) ?_
          rintro e w' ⟨rfl, rfl⟩
          go_wp2_with fail
          go_quiet (first | (go_at_call 113; refine Calls.quiet_of_same (HM.out _)))
          go_wp2_with fail
          go_ret
          exact ⟨rfl, below_drewN (below_two _ _ _) _⟩
        · rw [if_neg c4]
          have HM := hd (mostValue_is rk)
          have q4 : decide (mv rk < (val.size : Int)) = false := by
            rw [decide_eq_false_iff_not]; unfold mv; by_cases h : rk = 2
            · rw [if_pos h] at c4 ⊢; omega
            · rw [if_neg h] at c4 ⊢; omega
          clear c4
          generalize mv rk = m at *
          obtain ⟨b, hb1, hb2⟩ := neq_any ⟨rk, ⟨lsn, rk, key, val⟩, ⟨pl, pk, pa, pn, pkey⟩, ⟨ec, eb, ef, es⟩⟩ (ofR ⟨lsn, rk, key, val⟩)
          have hne : ∀ w, (binOp .neq 41 (.agg #[.int .i64 rk, .int .u64 (lsn : Int), .int .i64 rk, .string key, .string val, .int .u64 (pl : Int), .int .i64 pk, .int .i64 pa, .int .i64 pn, .string pkey, .int .i64 ec, .int .i64 eb, .int .i64 ef, .int .u32 (es : Int)]) (.agg #[.int .i64 rk, .int .u64 (lsn : Int), .int .i64 rk, .string key, .string val, .int .u64 0, .int .i64 0, .int .i64 0, .int .i64 0, .string ByteArray.empty, .int .i64 0, .int .i64 0, .int .i64 0, .int .u32 0])).run Try.prog w = .ok (.bool b) w := hb1
          have HOF : Hid (∀ w, Calls Try.prog 48 #[.agg #[.int .u64 (lsn : Int), .int .i64 rk, .string key, .string val]] w fun e w' => e = .returned (.agg #[.int .i64 rk, .int .u64 (lsn : Int), .int .i64 rk, .string key, .string val, .int .u64 0, .int .i64 0, .int .i64 0, .int .i64 0, .string ByteArray.empty, .int .i64 0, .int .i64 0, .int .i64 0, .int .u32 0]) ∧ w' = (w.alloc (.cells #[.int .u64 (lsn : Int), .int .i64 rk, .string key, .string val] 32)).alloc (.cells #[.int .i64 rk, .int .u64 (lsn : Int), .int .i64 rk, .string key, .string val, .int .u64 0, .int .i64 0, .int .i64 0, .int .i64 0, .string ByteArray.empty, .int .i64 0, .int .i64 0, .int .i64 0, .int .u32 0] 41)) := hof
          rw [ite_ne hb2]
          clear hof hb1 hb2
          unfold fv
          cases b
          all_goals (
            go_enter Try.func99, Try.ntmps99
            go_wp2_with fail
            refine Calls.mono (mayBeKey_yes _ _ HK.out) ?_
            rintro e w' ⟨rfl, rfl⟩
            go_wp2_with fail
            go_quiet (first | (go_at_call 113; refine Calls.quiet_of_same (HM.out _)))
            go_wp2_with fail
            go_region_with (go_at_call 48; refine Calls.mono (HOF.out _) ?_; rintro e w' ⟨rfl, rfl⟩)
            all_goals go_wp2_with fail
            all_goals go_ret
            all_goals exact ⟨rfl, below_rest _ _ _ _ _ _⟩)
end Vt
end Go.Proofs.Ytifjjoobbegpoaa
