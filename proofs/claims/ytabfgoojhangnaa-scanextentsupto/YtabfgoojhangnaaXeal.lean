/-
  THE WALKS OF frame.Of, mayBeKey, mostValue, onDisk, recordRefusal, pointerRefusal, endingRefusal, refusal: what 'rf' says.
  THE WALKS OF frame.pointerRefusal, endingRefusal, refusal: what 'rf' says.
-/
import Derived.Test.YtabfgoojhangnaaXeak
import Derived.Laws.StructEq
namespace Go.Proofs.Ytabfgoojhangnaa
open Go.RowKit
namespace Vt
/-- a record's cells, a pointer's, an ending's, a frame's -/
def rv (r : Rec) : Array Value := #[.int .u64 (r.lsn : Int), .int .i64 r.kind, .string r.key, .string r.val]
def fv (f : Fr) : Array Value := #[.int .i64 f.kind, .int .u64 (f.r.lsn : Int), .int .i64 f.r.kind, .string f.r.key, .string f.r.val, .int .u64 (f.p.lsn : Int), .int .i64 f.p.kind, .int .i64 f.p.at_, .int .i64 f.p.len, .string f.p.key, .int .i64 f.e.count, .int .i64 f.e.bytes, .int .i64 f.e.frames, .int .u32 (f.e.sum : Int)]
theorem str_beq (a b : ByteArray) : (a.toList == b.toList) = decide (a = b) := by
  by_cases h : a = b
  · subst h; simp
  · rw [decide_eq_false h, ByteArray.toList_eq, ByteArray.toList_eq, beq_eq_false_iff_ne]
    intro e
    exact h (Go.WideShapes.bytes_inj e)
theorem fr_eq {f g : Fr} (h1 : f.kind = g.kind) (h2 : f.r.lsn = g.r.lsn) (h3 : f.r.kind = g.r.kind) (h4 : f.r.key.toList = g.r.key.toList) (h5 : f.r.val.toList = g.r.val.toList) (h6 : f.p.lsn = g.p.lsn) (h7 : f.p.kind = g.p.kind) (h8 : f.p.at_ = g.p.at_) (h9 : f.p.len = g.p.len) (h10 : f.p.key.toList = g.p.key.toList) (h11 : f.e.count = g.e.count) (h12 : f.e.bytes = g.e.bytes) (h13 : f.e.frames = g.e.frames) (h14 : f.e.sum = g.e.sum) : f = g := by
  have inj : ∀ {a b : ByteArray}, a.toList = b.toList → a = b := by
    intro a b e
    rw [ByteArray.toList_eq, ByteArray.toList_eq] at e
    exact Go.WideShapes.bytes_inj e
  obtain ⟨k, ⟨a1, a2, a3, a4⟩, ⟨b1, b2, b3, b4, b5⟩, ⟨c1, c2, c3, c4⟩⟩ := f
  obtain ⟨k', ⟨a1', a2', a3', a4'⟩, ⟨b1', b2', b3', b4', b5'⟩, ⟨c1', c2', c3', c4'⟩⟩ := g
  simp only at *
  have e4 := inj h4
  have e5 := inj h5
  have e10 := inj h10
  subst h1 h2 h3 e4 e5 h6 h7 h8 h9 e10 h11 h12 h13 h14
  rfl
theorem eq_fr (f : Fr) (w : World) : (Op.equalIn 10000 54 (.agg (fv f)) (.agg (fv f))).run Try.prog w = .ok true w := by
  unfold fv
  simp [go_sem, Op.eqFields]
theorem ne_fr {f g : Fr} (h : f ≠ g) (w : World) : (Op.equalIn 10000 54 (.agg (fv f)) (.agg (fv g))).run Try.prog w = .ok false w := by
  unfold fv
  simp [go_sem, Op.eqFields]
  intro h1 h2 h3 h4 h5 h6 h7 h8 h9 h10 h11 h12 h13 h14
  exact h (fr_eq h1 (by omega) h3 h4 h5 (by omega) h7 h8 h9 h10 h11 h12 h13 (by omega))
theorem neq_yes {f g : Fr} (h : f ≠ g) (w : World) : (binOp .neq 54 (.agg (fv f)) (.agg (fv g))).run Try.prog w = .ok (.bool true) w := by
  rw [run_neq_struct, ne_fr h]; rfl
theorem neq_no {f g : Fr} (h : f = g) (w : World) : (binOp .neq 54 (.agg (fv f)) (.agg (fv g))).run Try.prog w = .ok (.bool false) w := by
  rw [run_neq_struct, h, eq_fr]; rfl
theorem eql_yes {f g : Fr} (h : f = g) (w : World) : (binOp .eql 54 (.agg (fv f)) (.agg (fv g))).run Try.prog w = .ok (.bool true) w := by
  rw [run_eql_struct, h, eq_fr]; rfl
theorem eql_no {f g : Fr} (h : f ≠ g) (w : World) : (binOp .eql 54 (.agg (fv f)) (.agg (fv g))).run Try.prog w = .ok (.bool false) w := by
  rw [run_eql_struct, ne_fr h]; rfl
set_option maxHeartbeats 400000 in
theorem mayBeKey_yes (s : ByteArray) (w : World) (h : mayKey s) : Calls Try.prog 82 #[.string s] w fun e w' => e = .returned (.bool true) ∧ w' = w := by
  obtain ⟨h1, h2⟩ := h
  have e : decide ((s.size : Int) ≤ 64) = true := by simp; omega
  go_enter Try.func82, Try.ntmps82
  go_wp2
  go_ret
  exact ⟨rfl, rfl⟩
set_option maxHeartbeats 400000 in
theorem mayBeKey_no (s : ByteArray) (w : World) (h : ¬ mayKey s) : Calls Try.prog 82 #[.string s] w fun e w' => e = .returned (.bool false) ∧ w' = w := by
  unfold mayKey at h
  by_cases h1 : 1 ≤ s.size
  · have h2 : ¬ s.size ≤ 64 := fun q => h ⟨h1, q⟩
    have e : decide ((s.size : Int) ≤ 64) = false := by simp; omega
    clear h
    go_enter Try.func82, Try.ntmps82
    go_wp2
    go_ret
    exact ⟨rfl, rfl⟩
  · clear h
    go_enter Try.func82, Try.ntmps82
    go_wp2
    go_ret
    exact ⟨rfl, rfl⟩
set_option maxHeartbeats 400000 in
theorem onDisk_yes (n : Int) (w : World) (h : onD n) : Calls Try.prog 85 #[.int .i64 n] w fun e w' => e = .returned (.bool true) ∧ w' = w := by
  obtain ⟨h1, h2⟩ := h
  have e : decide (n ≤ 4194304) = true := by simp; omega
  go_enter Try.func85, Try.ntmps85
  go_wp2
  go_ret
  exact ⟨rfl, rfl⟩
set_option maxHeartbeats 400000 in
theorem onDisk_no (n : Int) (w : World) (h : ¬ onD n) : Calls Try.prog 85 #[.int .i64 n] w fun e w' => e = .returned (.bool false) ∧ w' = w := by
  unfold onD at h
  by_cases h1 : 0 ≤ n
  · have h2 : ¬ n ≤ 4194304 := fun q => h ⟨h1, q⟩
    have e : decide (n ≤ 4194304) = false := by simp; omega
    clear h
    go_enter Try.func85, Try.ntmps85
    go_wp2
    go_ret
    exact ⟨rfl, rfl⟩
  · clear h
    go_enter Try.func85, Try.ntmps85
    go_wp2
    go_ret
    exact ⟨rfl, rfl⟩
def mv (k : Int) : Int := if k = 2 then 0 else 2048
theorem mostValue_is (k : Int) (w : World) : Calls Try.prog 83 #[.int .i64 k] w fun e w' => e = .returned (.int .i64 (mv k)) ∧ w' = w := by
  unfold mv
  by_cases h : k = 2
  · subst h
    go_enter Try.func83, Try.ntmps83
    go_wp2
    go_ret
    exact ⟨rfl, rfl⟩
  · rw [if_neg h]
    go_enter Try.func83, Try.ntmps83
    go_wp2
    go_ret
    exact ⟨rfl, rfl⟩
theorem heap_two (w : World) (A B : Obj) : ((w.alloc A).alloc B).heap[w.heap.size + 1]? = some B := by
  have h := heap_alloc_new (w.alloc A) B
  rw [World.size_alloc] at h
  exact h
theorem below_alloc1 {w w' : World} {o : Obj} (h : Below (w.alloc o).heap.size (w.alloc o) w') : Below w.heap.size w w' := ((Below.refl _ _).alloc (Nat.le_refl _) o).trans (h.mono (by simp))
theorem below_two (w : World) (A B : Obj) : Below w.heap.size w ((w.alloc A).alloc B) := ((Below.refl _ _).alloc (Nat.le_refl _) _).alloc (by simp) _
set_option maxRecDepth 100000 in
set_option maxHeartbeats 400000 in
theorem of_is (r : Rec) (w : World) : Calls Try.prog 84 #[.agg (rv r)] w fun e w' => e = .returned (.agg (fv (ofR r))) ∧ w' = (w.alloc (.cells (rv r) 45)).alloc (.cells (fv (ofR r)) 54) := by
  unfold rv fv ofR zp ze
  obtain ⟨lsn, kind, key, val⟩ := r
  simp only
  go_enter Try.func84, Try.ntmps84
  go_wp2
  refine bodyPost_ret (results_cell_row rfl _ _ (w.heap.size + 1) 54 _ (0, 0) _ rfl (heap_two _ _ _) Try.underlying54 rfl (by kernel_rfl)) rfl ?_
  exact ⟨rfl, rfl⟩
theorem below_four (w : World) (A B C D : Obj) : Below w.heap.size w ((((w.alloc A).alloc B).alloc C).alloc D) := ((below_two w A B).alloc (by simp; omega) _).alloc (by simp; omega) _
theorem below_rest (w : World) (A B C D : Obj) (n : Nat) : Below w.heap.size w (((((w.alloc A).alloc B).drewN n).alloc C).alloc D) := by
  have h := below_drewN (below_two w A B) n
  exact (h.alloc h.size _).alloc (by have := h.size; simp; omega) _
theorem ite_ne {f g : Fr} {b : Bool} (hb : b = false ↔ f = g) {inst : Decidable (f ≠ g)} : (@ite Nat (f ≠ g) inst 40 0) = if b then 40 else 0 := by
  cases b
  · rw [if_neg (fun q => q (hb.1 rfl))]; rfl
  · rw [if_pos (fun q => by have := hb.2 q; cases this)]; rfl
theorem neq_any (f g : Fr) : ∃ b : Bool, (∀ w, (binOp .neq 54 (.agg (fv f)) (.agg (fv g))).run Try.prog w = .ok (.bool b) w) ∧ (b = false ↔ f = g) := by
  by_cases h : f = g
  · exact ⟨false, neq_no h, by simp [h]⟩
  · exact ⟨true, neq_yes h, by simp [h]⟩
set_option maxRecDepth 100000 in
set_option maxHeartbeats 4000000 in
theorem recRef_is (f : Fr) (w : World) : Calls Try.prog 70 #[.agg (fv f)] w fun e w' => e = .returned (.int .i64 (rfR f : Int)) ∧ Below w.heap.size w w' := by
  obtain ⟨k, ⟨lsn, rk, key, val⟩, ⟨pl, pk, pa, pn, pkey⟩, ⟨ec, eb, ef, es⟩⟩ := f
  have hof := of_is ⟨lsn, rk, key, val⟩
  unfold rfR
  simp only
  by_cases c1 : rk ≠ k
  · rw [if_pos c1]
    have q : (rk != k) = true := by simpa using c1
    unfold fv
    go_enter Try.func70, Try.ntmps70
    go_wp2_with fail
    go_ret
    exact ⟨rfl, below_two _ _ _⟩
  · rw [if_neg c1]
    obtain rfl : rk = k := Classical.not_not.1 c1
    clear c1
    by_cases c2 : lsn = 0
    · rw [if_pos c2]
      subst c2
      unfold fv
      go_enter Try.func70, Try.ntmps70
      go_wp2_with fail
      go_ret
      exact ⟨rfl, below_two _ _ _⟩
    · rw [if_neg c2]
      have q2 : (((lsn : Nat) : Int) == 0) = false := by simp; omega
      by_cases c3 : ¬ mayKey key
      · rw [if_pos c3]
        unfold fv
        go_enter Try.func70, Try.ntmps70
        go_wp2_with fail
        refine Calls.mono (mayBeKey_no _ _ c3) ?_
        rintro e w' ⟨rfl, rfl⟩
        go_wp2_with fail
        go_ret
        exact ⟨rfl, below_two _ _ _⟩
      · rw [if_neg c3]
        have HK := hd (Classical.not_not.1 c3)
        clear c3
        by_cases c4 : (if rk = 2 then 0 else 2048) < val.size
        · rw [if_pos c4]
          have HM := hd (mostValue_is rk)
          have q4 : decide (mv rk < (val.size : Int)) = true := by
            rw [decide_eq_true_iff]; unfold mv; by_cases h : rk = 2
            · rw [if_pos h] at c4 ⊢; omega
            · rw [if_neg h] at c4 ⊢; omega
          have HQ4 := hd c4
          clear c4
          generalize mv rk = m at *
          unfold fv
          go_enter Try.func70, Try.ntmps70
          go_wp2_with fail
          refine Calls.mono (mayBeKey_yes _ _ HK.out) ?_
          rintro e w' ⟨rfl, rfl⟩
          go_wp2_with fail
          go_quiet (first | (go_at_call 83; refine Calls.quiet_of_same (HM.out _)))
          go_wp2_with fail
          go_ret
          exact ⟨rfl, below_drewN (below_two _ _ _) _⟩
        · rw [if_neg c4]
          have HM := hd (mostValue_is rk)
          have q4 : decide (mv rk < (val.size : Int)) = false := by
            rw [decide_eq_false_iff_not]; unfold mv; by_cases h : rk = 2
            · rw [if_pos h] at c4 ⊢; omega
            · rw [if_neg h] at c4 ⊢; omega
          clear c4
          generalize mv rk = m at *
          obtain ⟨b, hb1, hb2⟩ := neq_any ⟨rk, ⟨lsn, rk, key, val⟩, ⟨pl, pk, pa, pn, pkey⟩, ⟨ec, eb, ef, es⟩⟩ (ofR ⟨lsn, rk, key, val⟩)
          have hne : ∀ w, (binOp .neq 54 (.agg #[.int .i64 rk, .int .u64 (lsn : Int), .int .i64 rk, .string key, .string val, .int .u64 (pl : Int), .int .i64 pk, .int .i64 pa, .int .i64 pn, .string pkey, .int .i64 ec, .int .i64 eb, .int .i64 ef, .int .u32 (es : Int)]) (.agg #[.int .i64 rk, .int .u64 (lsn : Int), .int .i64 rk, .string key, .string val, .int .u64 0, .int .i64 0, .int .i64 0, .int .i64 0, .string ByteArray.empty, .int .i64 0, .int .i64 0, .int .i64 0, .int .u32 0])).run Try.prog w = .ok (.bool b) w := hb1
          have HOF : Hid (∀ w, Calls Try.prog 84 #[.agg #[.int .u64 (lsn : Int), .int .i64 rk, .string key, .string val]] w fun e w' => e = .returned (.agg #[.int .i64 rk, .int .u64 (lsn : Int), .int .i64 rk, .string key, .string val, .int .u64 0, .int .i64 0, .int .i64 0, .int .i64 0, .string ByteArray.empty, .int .i64 0, .int .i64 0, .int .i64 0, .int .u32 0]) ∧ w' = (w.alloc (.cells #[.int .u64 (lsn : Int), .int .i64 rk, .string key, .string val] 45)).alloc (.cells #[.int .i64 rk, .int .u64 (lsn : Int), .int .i64 rk, .string key, .string val, .int .u64 0, .int .i64 0, .int .i64 0, .int .i64 0, .string ByteArray.empty, .int .i64 0, .int .i64 0, .int .i64 0, .int .u32 0] 54)) := hof
          rw [ite_ne hb2]
          clear hof hb1 hb2
          unfold fv
          cases b
          all_goals (
            go_enter Try.func70, Try.ntmps70
            go_wp2_with fail
            refine Calls.mono (mayBeKey_yes _ _ HK.out) ?_
            rintro e w' ⟨rfl, rfl⟩
            go_wp2_with fail
            go_quiet (first | (go_at_call 83; refine Calls.quiet_of_same (HM.out _)))
            go_wp2_with fail
            go_region_with (go_at_call 84; refine Calls.mono (HOF.out _) ?_; rintro e w' ⟨rfl, rfl⟩)
            all_goals go_wp2_with fail
            all_goals go_ret
            all_goals exact ⟨rfl, below_rest _ _ _ _ _ _⟩)
end Vt
end Go.Proofs.Ytabfgoojhangnaa
namespace Go.Proofs.Ytabfgoojhangnaa
open Go.RowKit
namespace Vt
def onB (n : Int) : Bool := decide (0 ≤ n) && decide (n ≤ 4194304)
theorem onB_iff (n : Int) : onB n = true ↔ onD n := by unfold onB onD; simp
theorem onDisk_is (n : Int) (w : World) : Calls Try.prog 85 #[.int .i64 n] w fun e w' => e = .returned (.bool (onB n)) ∧ w' = w := by
  by_cases h : onD n
  · rw [(onB_iff n).2 h]; exact onDisk_yes n w h
  · rw [show onB n = false by rw [← Bool.not_eq_true, onB_iff]; exact h]; exact onDisk_no n w h
set_option maxRecDepth 100000 in
set_option maxHeartbeats 2000000 in
theorem ptr_46 (rl : Nat) (rk : Int) (rkey rval : ByteArray) (pl : Nat) (pk pa pn : Int) (pkey : ByteArray) (ec eb ef : Int) (es : Nat) (w : World) (q1 : (pk != 1) = true) (q2 : (pk != 2) = true) :
    Calls Try.prog 71 #[.agg #[.int .i64 3, .int .u64 (rl : Int), .int .i64 rk, .string rkey, .string rval, .int .u64 (pl : Int), .int .i64 pk, .int .i64 pa, .int .i64 pn, .string pkey, .int .i64 ec, .int .i64 eb, .int .i64 ef, .int .u32 (es : Int)]] w fun e w' => e = .returned (.int .i64 46) ∧ Below w.heap.size w w' := by
  go_enter Try.func71, Try.ntmps71
  go_wp2_with (first | (go_at_call 85; refine Calls.mono (onDisk_is _ _) ?_; rintro e w' ⟨rfl, rfl⟩))
  go_ret
  exact ⟨rfl, below_two _ _ _⟩
set_option maxRecDepth 100000 in
set_option maxHeartbeats 2000000 in
theorem ptr_47 (rl : Nat) (rk : Int) (rkey rval : ByteArray) (pl : Nat) (pk pa pn : Int) (pkey : ByteArray) (ec eb ef : Int) (es : Nat) (w : World) (hpk : pk = 1 ∨ pk = 2) (h0 : pl = 0) :
    Calls Try.prog 71 #[.agg #[.int .i64 3, .int .u64 (rl : Int), .int .i64 rk, .string rkey, .string rval, .int .u64 (pl : Int), .int .i64 pk, .int .i64 pa, .int .i64 pn, .string pkey, .int .i64 ec, .int .i64 eb, .int .i64 ef, .int .u32 (es : Int)]] w fun e w' => e = .returned (.int .i64 47) ∧ Below w.heap.size w w' := by
  subst h0
  rcases hpk with rfl | rfl
  all_goals (
    go_enter Try.func71, Try.ntmps71
    go_wp2_with (first | (go_at_call 85; refine Calls.mono (onDisk_is _ _) ?_; rintro e w' ⟨rfl, rfl⟩))
    go_ret
    exact ⟨rfl, below_two _ _ _⟩)
set_option maxRecDepth 100000 in
set_option maxHeartbeats 2000000 in
theorem ptr_48 (rl : Nat) (rk : Int) (rkey rval : ByteArray) (pl : Nat) (pk pa pn : Int) (pkey : ByteArray) (ec eb ef : Int) (es : Nat) (w : World) (hpk : pk = 1 ∨ pk = 2) (q3 : (((pl : Nat) : Int) == 0) = false) (HK : Hid (∀ w : World, Calls Try.prog 82 #[.string pkey] w fun e w' => e = .returned (.bool false) ∧ w' = w)) :
    Calls Try.prog 71 #[.agg #[.int .i64 3, .int .u64 (rl : Int), .int .i64 rk, .string rkey, .string rval, .int .u64 (pl : Int), .int .i64 pk, .int .i64 pa, .int .i64 pn, .string pkey, .int .i64 ec, .int .i64 eb, .int .i64 ef, .int .u32 (es : Int)]] w fun e w' => e = .returned (.int .i64 48) ∧ Below w.heap.size w w' := by
  rcases hpk with rfl | rfl
  all_goals (
    go_enter Try.func71, Try.ntmps71
    go_wp2_with (first | (go_at_call 82; refine Calls.mono (HK.out _) ?_; rintro e w' ⟨rfl, rfl⟩) | (go_at_call 85; refine Calls.mono (onDisk_is _ _) ?_; rintro e w' ⟨rfl, rfl⟩))
    go_ret
    exact ⟨rfl, below_two _ _ _⟩)
set_option maxRecDepth 100000 in
set_option maxHeartbeats 2000000 in
theorem ptr_40a (rl : Nat) (rk : Int) (rkey rval : ByteArray) (pl : Nat) (pk pa pn : Int) (pkey : ByteArray) (ec eb ef : Int) (es : Nat) (w : World) (hpk : pk = 1 ∨ pk = 2) (q3 : (((pl : Nat) : Int) == 0) = false) (HK : Hid (∀ w : World, Calls Try.prog 82 #[.string pkey] w fun e w' => e = .returned (.bool true) ∧ w' = w)) (d1 : onB pa = false) :
    Calls Try.prog 71 #[.agg #[.int .i64 3, .int .u64 (rl : Int), .int .i64 rk, .string rkey, .string rval, .int .u64 (pl : Int), .int .i64 pk, .int .i64 pa, .int .i64 pn, .string pkey, .int .i64 ec, .int .i64 eb, .int .i64 ef, .int .u32 (es : Int)]] w fun e w' => e = .returned (.int .i64 40) ∧ Below w.heap.size w w' := by
  rcases hpk with rfl | rfl
  all_goals (
    go_enter Try.func71, Try.ntmps71
    go_wp2_with (first | (go_at_call 82; refine Calls.mono (HK.out _) ?_; rintro e w' ⟨rfl, rfl⟩) | (go_at_call 85; refine Calls.mono (onDisk_is _ _) ?_; rintro e w' ⟨rfl, rfl⟩))
    go_ret
    exact ⟨rfl, below_two _ _ _⟩)
set_option maxRecDepth 100000 in
set_option maxHeartbeats 2000000 in
theorem ptr_40b (rl : Nat) (rk : Int) (rkey rval : ByteArray) (pl : Nat) (pk pa pn : Int) (pkey : ByteArray) (ec eb ef : Int) (es : Nat) (w : World) (hpk : pk = 1 ∨ pk = 2) (q3 : (((pl : Nat) : Int) == 0) = false) (HK : Hid (∀ w : World, Calls Try.prog 82 #[.string pkey] w fun e w' => e = .returned (.bool true) ∧ w' = w)) (d1 : onB pa = true) (d2 : onB pn = false) :
    Calls Try.prog 71 #[.agg #[.int .i64 3, .int .u64 (rl : Int), .int .i64 rk, .string rkey, .string rval, .int .u64 (pl : Int), .int .i64 pk, .int .i64 pa, .int .i64 pn, .string pkey, .int .i64 ec, .int .i64 eb, .int .i64 ef, .int .u32 (es : Int)]] w fun e w' => e = .returned (.int .i64 40) ∧ Below w.heap.size w w' := by
  rcases hpk with rfl | rfl
  all_goals (
    go_enter Try.func71, Try.ntmps71
    go_wp2_with (first | (go_at_call 82; refine Calls.mono (HK.out _) ?_; rintro e w' ⟨rfl, rfl⟩) | (go_at_call 85; refine Calls.mono (onDisk_is _ _) ?_; rintro e w' ⟨rfl, rfl⟩))
    go_ret
    exact ⟨rfl, below_two _ _ _⟩)
set_option maxRecDepth 100000 in
set_option maxHeartbeats 2000000 in
theorem ptr_40c (rl : Nat) (rk : Int) (rkey rval : ByteArray) (pl : Nat) (pk pa pn : Int) (pkey : ByteArray) (ec eb ef : Int) (es : Nat) (w : World) (hpk : pk = 1 ∨ pk = 2) (q3 : (((pl : Nat) : Int) == 0) = false) (HK : Hid (∀ w : World, Calls Try.prog 82 #[.string pkey] w fun e w' => e = .returned (.bool true) ∧ w' = w)) (d1 : onB pa = true) (d2 : onB pn = true) (d3 : pn = 0) :
    Calls Try.prog 71 #[.agg #[.int .i64 3, .int .u64 (rl : Int), .int .i64 rk, .string rkey, .string rval, .int .u64 (pl : Int), .int .i64 pk, .int .i64 pa, .int .i64 pn, .string pkey, .int .i64 ec, .int .i64 eb, .int .i64 ef, .int .u32 (es : Int)]] w fun e w' => e = .returned (.int .i64 40) ∧ Below w.heap.size w w' := by
  subst d3
  rcases hpk with rfl | rfl
  all_goals (
    go_enter Try.func71, Try.ntmps71
    go_wp2_with (first | (go_at_call 82; refine Calls.mono (HK.out _) ?_; rintro e w' ⟨rfl, rfl⟩) | (go_at_call 85; refine Calls.mono (onDisk_is _ _) ?_; rintro e w' ⟨rfl, rfl⟩))
    go_ret
    exact ⟨rfl, below_two _ _ _⟩)
set_option maxRecDepth 100000 in
set_option maxHeartbeats 2000000 in
theorem ptr_ey (rl : Nat) (rk : Int) (rkey rval : ByteArray) (pl : Nat) (pk pa pn : Int) (pkey : ByteArray) (ec eb ef : Int) (es : Nat) (w : World) (hpk : pk = 1 ∨ pk = 2) (q3 : (((pl : Nat) : Int) == 0) = false) (HK : Hid (∀ w : World, Calls Try.prog 82 #[.string pkey] w fun e w' => e = .returned (.bool true) ∧ w' = w)) (d1 : onB pa = true) (d2 : onB pn = true) (d3 : (pn == 0) = false) (hne : ∀ w, (binOp .neq 54 (.agg #[.int .i64 3, .int .u64 (rl : Int), .int .i64 rk, .string rkey, .string rval, .int .u64 (pl : Int), .int .i64 pk, .int .i64 pa, .int .i64 pn, .string pkey, .int .i64 ec, .int .i64 eb, .int .i64 ef, .int .u32 (es : Int)]) (.agg #[.int .i64 3, .int .u64 0, .int .i64 0, .string ⟨#[]⟩, .string ⟨#[]⟩, .int .u64 (pl : Int), .int .i64 pk, .int .i64 pa, .int .i64 pn, .string pkey, .int .i64 0, .int .i64 0, .int .i64 0, .int .u32 0])).run Try.prog w = .ok (.bool true) w) :
    Calls Try.prog 71 #[.agg #[.int .i64 3, .int .u64 (rl : Int), .int .i64 rk, .string rkey, .string rval, .int .u64 (pl : Int), .int .i64 pk, .int .i64 pa, .int .i64 pn, .string pkey, .int .i64 ec, .int .i64 eb, .int .i64 ef, .int .u32 (es : Int)]] w fun e w' => e = .returned (.int .i64 40) ∧ Below w.heap.size w w' := by
  rcases hpk with rfl | rfl
  all_goals (
    go_enter Try.func71, Try.ntmps71
    go_wp2_with (first | (go_at_call 82; refine Calls.mono (HK.out _) ?_; rintro e w' ⟨rfl, rfl⟩) | (go_at_call 85; refine Calls.mono (onDisk_is _ _) ?_; rintro e w' ⟨rfl, rfl⟩))
    go_ret
    exact ⟨rfl, below_two _ _ _⟩)
set_option maxRecDepth 100000 in
set_option maxHeartbeats 2000000 in
theorem ptr_en (rl : Nat) (rk : Int) (rkey rval : ByteArray) (pl : Nat) (pk pa pn : Int) (pkey : ByteArray) (ec eb ef : Int) (es : Nat) (w : World) (hpk : pk = 1 ∨ pk = 2) (q3 : (((pl : Nat) : Int) == 0) = false) (HK : Hid (∀ w : World, Calls Try.prog 82 #[.string pkey] w fun e w' => e = .returned (.bool true) ∧ w' = w)) (d1 : onB pa = true) (d2 : onB pn = true) (d3 : (pn == 0) = false) (hne : ∀ w, (binOp .neq 54 (.agg #[.int .i64 3, .int .u64 (rl : Int), .int .i64 rk, .string rkey, .string rval, .int .u64 (pl : Int), .int .i64 pk, .int .i64 pa, .int .i64 pn, .string pkey, .int .i64 ec, .int .i64 eb, .int .i64 ef, .int .u32 (es : Int)]) (.agg #[.int .i64 3, .int .u64 0, .int .i64 0, .string ⟨#[]⟩, .string ⟨#[]⟩, .int .u64 (pl : Int), .int .i64 pk, .int .i64 pa, .int .i64 pn, .string pkey, .int .i64 0, .int .i64 0, .int .i64 0, .int .u32 0])).run Try.prog w = .ok (.bool false) w) :
    Calls Try.prog 71 #[.agg #[.int .i64 3, .int .u64 (rl : Int), .int .i64 rk, .string rkey, .string rval, .int .u64 (pl : Int), .int .i64 pk, .int .i64 pa, .int .i64 pn, .string pkey, .int .i64 ec, .int .i64 eb, .int .i64 ef, .int .u32 (es : Int)]] w fun e w' => e = .returned (.int .i64 0) ∧ Below w.heap.size w w' := by
  rcases hpk with rfl | rfl
  all_goals (
    go_enter Try.func71, Try.ntmps71
    go_wp2_with (first | (go_at_call 82; refine Calls.mono (HK.out _) ?_; rintro e w' ⟨rfl, rfl⟩) | (go_at_call 85; refine Calls.mono (onDisk_is _ _) ?_; rintro e w' ⟨rfl, rfl⟩))
    go_ret
    exact ⟨rfl, below_two _ _ _⟩)
set_option maxRecDepth 100000 in
set_option maxHeartbeats 2000000 in
theorem edg_40a (rl : Nat) (rk : Int) (rkey rval : ByteArray) (pl : Nat) (pk pa pn : Int) (pkey : ByteArray) (ec eb ef : Int) (es : Nat) (w : World) (d1 : onB ec = false) :
    Calls Try.prog 72 #[.agg #[.int .i64 4, .int .u64 (rl : Int), .int .i64 rk, .string rkey, .string rval, .int .u64 (pl : Int), .int .i64 pk, .int .i64 pa, .int .i64 pn, .string pkey, .int .i64 ec, .int .i64 eb, .int .i64 ef, .int .u32 (es : Int)]] w fun e w' => e = .returned (.int .i64 40) ∧ Below w.heap.size w w' := by
  go_enter Try.func72, Try.ntmps72
  go_wp2_with (first | (go_at_call 85; refine Calls.mono (onDisk_is _ _) ?_; rintro e w' ⟨rfl, rfl⟩))
  go_ret
  exact ⟨rfl, below_two _ _ _⟩
set_option maxRecDepth 100000 in
set_option maxHeartbeats 2000000 in
theorem edg_40b (rl : Nat) (rk : Int) (rkey rval : ByteArray) (pl : Nat) (pk pa pn : Int) (pkey : ByteArray) (ec eb ef : Int) (es : Nat) (w : World) (d1 : onB ec = true) (d2 : onB eb = false) :
    Calls Try.prog 72 #[.agg #[.int .i64 4, .int .u64 (rl : Int), .int .i64 rk, .string rkey, .string rval, .int .u64 (pl : Int), .int .i64 pk, .int .i64 pa, .int .i64 pn, .string pkey, .int .i64 ec, .int .i64 eb, .int .i64 ef, .int .u32 (es : Int)]] w fun e w' => e = .returned (.int .i64 40) ∧ Below w.heap.size w w' := by
  go_enter Try.func72, Try.ntmps72
  go_wp2_with (first | (go_at_call 85; refine Calls.mono (onDisk_is _ _) ?_; rintro e w' ⟨rfl, rfl⟩))
  go_ret
  exact ⟨rfl, below_two _ _ _⟩
set_option maxRecDepth 100000 in
set_option maxHeartbeats 2000000 in
theorem edg_40c (rl : Nat) (rk : Int) (rkey rval : ByteArray) (pl : Nat) (pk pa pn : Int) (pkey : ByteArray) (ec eb ef : Int) (es : Nat) (w : World) (d1 : onB ec = true) (d2 : onB eb = true) (d3 : onB ef = false) :
    Calls Try.prog 72 #[.agg #[.int .i64 4, .int .u64 (rl : Int), .int .i64 rk, .string rkey, .string rval, .int .u64 (pl : Int), .int .i64 pk, .int .i64 pa, .int .i64 pn, .string pkey, .int .i64 ec, .int .i64 eb, .int .i64 ef, .int .u32 (es : Int)]] w fun e w' => e = .returned (.int .i64 40) ∧ Below w.heap.size w w' := by
  go_enter Try.func72, Try.ntmps72
  go_wp2_with (first | (go_at_call 85; refine Calls.mono (onDisk_is _ _) ?_; rintro e w' ⟨rfl, rfl⟩))
  go_ret
  exact ⟨rfl, below_two _ _ _⟩
set_option maxRecDepth 100000 in
set_option maxHeartbeats 2000000 in
theorem edg_ey (rl : Nat) (rk : Int) (rkey rval : ByteArray) (pl : Nat) (pk pa pn : Int) (pkey : ByteArray) (ec eb ef : Int) (es : Nat) (w : World) (d1 : onB ec = true) (d2 : onB eb = true) (d3 : onB ef = true) (hne : ∀ w, (binOp .neq 54 (.agg #[.int .i64 4, .int .u64 (rl : Int), .int .i64 rk, .string rkey, .string rval, .int .u64 (pl : Int), .int .i64 pk, .int .i64 pa, .int .i64 pn, .string pkey, .int .i64 ec, .int .i64 eb, .int .i64 ef, .int .u32 (es : Int)]) (.agg #[.int .i64 4, .int .u64 0, .int .i64 0, .string ⟨#[]⟩, .string ⟨#[]⟩, .int .u64 0, .int .i64 0, .int .i64 0, .int .i64 0, .string ⟨#[]⟩, .int .i64 ec, .int .i64 eb, .int .i64 ef, .int .u32 (es : Int)])).run Try.prog w = .ok (.bool true) w) :
    Calls Try.prog 72 #[.agg #[.int .i64 4, .int .u64 (rl : Int), .int .i64 rk, .string rkey, .string rval, .int .u64 (pl : Int), .int .i64 pk, .int .i64 pa, .int .i64 pn, .string pkey, .int .i64 ec, .int .i64 eb, .int .i64 ef, .int .u32 (es : Int)]] w fun e w' => e = .returned (.int .i64 40) ∧ Below w.heap.size w w' := by
  go_enter Try.func72, Try.ntmps72
  go_wp2_with (first | (go_at_call 85; refine Calls.mono (onDisk_is _ _) ?_; rintro e w' ⟨rfl, rfl⟩))
  go_ret
  exact ⟨rfl, below_two _ _ _⟩
set_option maxRecDepth 100000 in
set_option maxHeartbeats 2000000 in
theorem edg_en (rl : Nat) (rk : Int) (rkey rval : ByteArray) (pl : Nat) (pk pa pn : Int) (pkey : ByteArray) (ec eb ef : Int) (es : Nat) (w : World) (d1 : onB ec = true) (d2 : onB eb = true) (d3 : onB ef = true) (hne : ∀ w, (binOp .neq 54 (.agg #[.int .i64 4, .int .u64 (rl : Int), .int .i64 rk, .string rkey, .string rval, .int .u64 (pl : Int), .int .i64 pk, .int .i64 pa, .int .i64 pn, .string pkey, .int .i64 ec, .int .i64 eb, .int .i64 ef, .int .u32 (es : Int)]) (.agg #[.int .i64 4, .int .u64 0, .int .i64 0, .string ⟨#[]⟩, .string ⟨#[]⟩, .int .u64 0, .int .i64 0, .int .i64 0, .int .i64 0, .string ⟨#[]⟩, .int .i64 ec, .int .i64 eb, .int .i64 ef, .int .u32 (es : Int)])).run Try.prog w = .ok (.bool false) w) :
    Calls Try.prog 72 #[.agg #[.int .i64 4, .int .u64 (rl : Int), .int .i64 rk, .string rkey, .string rval, .int .u64 (pl : Int), .int .i64 pk, .int .i64 pa, .int .i64 pn, .string pkey, .int .i64 ec, .int .i64 eb, .int .i64 ef, .int .u32 (es : Int)]] w fun e w' => e = .returned (.int .i64 0) ∧ Below w.heap.size w w' := by
  go_enter Try.func72, Try.ntmps72
  go_wp2_with (first | (go_at_call 85; refine Calls.mono (onDisk_is _ _) ?_; rintro e w' ⟨rfl, rfl⟩))
  go_ret
  exact ⟨rfl, below_two _ _ _⟩
theorem ptrRef_is (f : Fr) (w : World) (hk3 : f.kind = 3) : Calls Try.prog 71 #[.agg (fv f)] w fun e w' => e = .returned (.int .i64 (rfP f : Int)) ∧ Below w.heap.size w w' := by
  obtain ⟨k, ⟨rl, rk, rkey, rval⟩, ⟨pl, pk, pa, pn, pkey⟩, ⟨ec, eb, ef, es⟩⟩ := f
  simp only at hk3
  subst hk3
  unfold rfP
  simp only
  by_cases c1 : pk ≠ 1 ∧ pk ≠ 2
  · rw [if_pos c1]
    obtain ⟨d1, d2⟩ := c1
    exact ptr_46 rl rk rkey rval pl pk pa pn pkey ec eb ef es w (by simpa using d1) (by simpa using d2)
  · rw [if_neg c1]
    have hpk : pk = 1 ∨ pk = 2 := by omega
    by_cases c2 : pl = 0
    · rw [if_pos c2]
      exact ptr_47 rl rk rkey rval pl pk pa pn pkey ec eb ef es w hpk c2
    · rw [if_neg c2]
      have q3 : (((pl : Nat) : Int) == 0) = false := by simp; omega
      by_cases c3 : ¬ mayKey pkey
      · rw [if_pos c3]
        exact ptr_48 rl rk rkey rval pl pk pa pn pkey ec eb ef es w hpk q3 (fun w => mayBeKey_no pkey w c3)
      · rw [if_neg c3]
        have HK := hd (fun (w : World) => mayBeKey_yes pkey w (Classical.not_not.1 c3))
        by_cases c4 : ¬ onD pa ∨ ¬ onD pn ∨ pn = 0
        · rw [if_pos c4]
          by_cases d1 : onD pa
          · by_cases d2 : onD pn
            · have d3 : pn = 0 := by
                rcases c4 with h | h | h
                · exact absurd d1 h
                · exact absurd d2 h
                · exact h
              exact ptr_40c rl rk rkey rval pl pk pa pn pkey ec eb ef es w hpk q3 HK ((onB_iff _).2 d1) ((onB_iff _).2 d2) d3
            · exact ptr_40b rl rk rkey rval pl pk pa pn pkey ec eb ef es w hpk q3 HK ((onB_iff _).2 d1) (by rw [← Bool.not_eq_true, onB_iff]; exact d2)
          · exact ptr_40a rl rk rkey rval pl pk pa pn pkey ec eb ef es w hpk q3 HK (by rw [← Bool.not_eq_true, onB_iff]; exact d1)
        · rw [if_neg c4]
          have d1 : onB pa = true := (onB_iff _).2 (Classical.byContradiction fun q => c4 (.inl q))
          have d2 : onB pn = true := (onB_iff _).2 (Classical.byContradiction fun q => c4 (.inr (.inl q)))
          have d3 : (pn == 0) = false := by simpa using fun q => c4 (.inr (.inr q))
          obtain ⟨b, hb1, hb2⟩ := neq_any ⟨3, ⟨rl, rk, rkey, rval⟩, ⟨pl, pk, pa, pn, pkey⟩, ⟨ec, eb, ef, es⟩⟩ ⟨3, zr, ⟨pl, pk, pa, pn, pkey⟩, ze⟩
          rw [ite_ne hb2]
          cases b
          · exact ptr_en rl rk rkey rval pl pk pa pn pkey ec eb ef es w hpk q3 HK d1 d2 d3 hb1
          · exact ptr_ey rl rk rkey rval pl pk pa pn pkey ec eb ef es w hpk q3 HK d1 d2 d3 hb1
theorem edgRef_is (f : Fr) (w : World) (hk4 : f.kind = 4) : Calls Try.prog 72 #[.agg (fv f)] w fun e w' => e = .returned (.int .i64 (rfE f : Int)) ∧ Below w.heap.size w w' := by
  obtain ⟨k, ⟨rl, rk, rkey, rval⟩, ⟨pl, pk, pa, pn, pkey⟩, ⟨ec, eb, ef, es⟩⟩ := f
  simp only at hk4
  subst hk4
  unfold rfE
  simp only
  by_cases c4 : ¬ onD ec ∨ ¬ onD eb ∨ ¬ onD ef
  · rw [if_pos c4]
    by_cases d1 : onD ec
    · by_cases d2 : onD eb
      · have d3 : ¬ onD ef := by
          rcases c4 with h | h | h
          · exact absurd d1 h
          · exact absurd d2 h
          · exact h
        exact edg_40c rl rk rkey rval pl pk pa pn pkey ec eb ef es w ((onB_iff _).2 d1) ((onB_iff _).2 d2) (by rw [← Bool.not_eq_true, onB_iff]; exact d3)
      · exact edg_40b rl rk rkey rval pl pk pa pn pkey ec eb ef es w ((onB_iff _).2 d1) (by rw [← Bool.not_eq_true, onB_iff]; exact d2)
    · exact edg_40a rl rk rkey rval pl pk pa pn pkey ec eb ef es w (by rw [← Bool.not_eq_true, onB_iff]; exact d1)
  · rw [if_neg c4]
    have d1 : onB ec = true := (onB_iff _).2 (Classical.byContradiction fun q => c4 (.inl q))
    have d2 : onB eb = true := (onB_iff _).2 (Classical.byContradiction fun q => c4 (.inr (.inl q)))
    have d3 : onB ef = true := (onB_iff _).2 (Classical.byContradiction fun q => c4 (.inr (.inr q)))
    obtain ⟨b, hb1, hb2⟩ := neq_any ⟨4, ⟨rl, rk, rkey, rval⟩, ⟨pl, pk, pa, pn, pkey⟩, ⟨ec, eb, ef, es⟩⟩ ⟨4, zr, zp, ⟨ec, eb, ef, es⟩⟩
    rw [ite_ne hb2]
    cases b
    · exact edg_en rl rk rkey rval pl pk pa pn pkey ec eb ef es w d1 d2 d3 hb1
    · exact edg_ey rl rk rkey rval pl pk pa pn pkey ec eb ef es w d1 d2 d3 hb1
set_option maxRecDepth 100000 in
set_option maxHeartbeats 2000000 in
theorem refusal_is (f : Fr) (w : World) : Calls Try.prog 49 #[.agg (fv f)] w fun e w' => e = .returned (.int .i64 (rf f : Int)) ∧ Below w.heap.size w w' := by
  have H1 := hd (recRef_is f)
  have H2 := hd (fun w h => ptrRef_is f w h)
  have H3 := hd (fun w h => edgRef_is f w h)
  unfold rf
  obtain ⟨k, ⟨rl, rk, rkey, rval⟩, ⟨pl, pk, pa, pn, pkey⟩, ⟨ec, eb, ef, es⟩⟩ := f
  simp only
  unfold fv at *
  simp only at *
  by_cases c12 : k = 1 ∨ k = 2
  · rw [if_pos c12]
    generalize rfR _ = code at *
    rcases c12 with rfl | rfl
    all_goals (
      go_enter Try.func49, Try.ntmps49
      go_wp2_with fail
      refine Calls.mono (H1.out _) ?_
      rintro e w' ⟨rfl, hb⟩
      have HB := hd (below_alloc1 hb)
      clear hb
      go_wp2_with fail
      go_ret
      exact ⟨rfl, HB.out⟩)
  · rw [if_neg c12]
    by_cases c3 : k = 3
    · rw [if_pos c3]
      generalize rfP _ = code at *
      subst c3
      go_enter Try.func49, Try.ntmps49
      go_wp2_with fail
      refine Calls.mono (H2.out _ trivial) ?_
      rintro e w' ⟨rfl, hb⟩
      have HB := hd (below_alloc1 hb)
      clear hb
      go_wp2_with fail
      go_ret
      exact ⟨rfl, HB.out⟩
    · rw [if_neg c3]
      by_cases c4 : k = 4
      · rw [if_pos c4]
        generalize rfE _ = code at *
        subst c4
        go_enter Try.func49, Try.ntmps49
        go_wp2_with fail
        refine Calls.mono (H3.out _ trivial) ?_
        rintro e w' ⟨rfl, hb⟩
        have HB := hd (below_alloc1 hb)
        clear hb
        go_wp2_with fail
        go_ret
        exact ⟨rfl, HB.out⟩
      · rw [if_neg c4]
        have q1 : ¬ k = 1 := fun q => c12 (.inl q)
        have q2 : ¬ k = 2 := fun q => c12 (.inr q)
        go_enter Try.func49, Try.ntmps49
        go_wp2_with fail
        go_ret
        exact ⟨rfl, (Below.refl _ _).alloc (Nat.le_refl _) _⟩
end Vt
end Go.Proofs.Ytabfgoojhangnaa
