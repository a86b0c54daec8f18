/-
  THE WALKS OF frame.Of, mayBeKey, mostValue, onDisk, recordRefusal, pointerRefusal, endingRefusal, refusal: what 'rf' says.
  THE WALKS OF frame.pointerRefusal, endingRefusal, refusal: what 'rf' says.
  ROWS OF INTEGERS OF THE CALL'S OWN, of any kind ('JK'): 'append' as a law for the walk; whole blocks of cells ('Blk').
  bits.Len64 at this program: the library's contract, laid at this program's numbers; and the small arithmetic of 64 bits that the walks of package vint want.
  THE WALKS OF the law's 'same' (are two lists of bytes the same?) and of vint's 'ended', 'Size'.
-/
import Derived.Test.YtnjhbidialngmaaXhab
import Derived.Laws.StructEq
import Derived.Test.YtnjhbidialngmaaXhaa
import Derived.Shelf.Strconv.Itoa0
import Derived.Deep.QuietTactic
import Derived.BigQuiet
import Derived.Deep.RegionWith
import Derived.OwnWalk
namespace Go.Proofs.Ytnjhbidialngmaa
open Go.RowKit
namespace Vt
/-- a record's cells, a pointer's, an ending's, a frame's -/
def rv (r : Rec) : Array Value := #[.int .u64 (r.lsn : Int), .int .i64 r.kind, .string r.key, .string r.val]
def fv (f : Fr) : Array Value := #[.int .i64 f.kind, .int .u64 (f.r.lsn : Int), .int .i64 f.r.kind, .string f.r.key, .string f.r.val, .int .u64 (f.p.lsn : Int), .int .i64 f.p.kind, .int .i64 f.p.at_, .int .i64 f.p.len, .string f.p.key, .int .i64 f.e.count, .int .i64 f.e.bytes, .int .i64 f.e.frames, .int .u32 (f.e.sum : Int)]
theorem fr_eq {f g : Fr} (h1 : f.kind = g.kind) (h2 : f.r.lsn = g.r.lsn) (h3 : f.r.kind = g.r.kind) (h4 : f.r.key.toList = g.r.key.toList) (h5 : f.r.val.toList = g.r.val.toList) (h6 : f.p.lsn = g.p.lsn) (h7 : f.p.kind = g.p.kind) (h8 : f.p.at_ = g.p.at_) (h9 : f.p.len = g.p.len) (h10 : f.p.key.toList = g.p.key.toList) (h11 : f.e.count = g.e.count) (h12 : f.e.bytes = g.e.bytes) (h13 : f.e.frames = g.e.frames) (h14 : f.e.sum = g.e.sum) : f = g := by
  have inj : ∀ {a b : ByteArray}, a.toList = b.toList → a = b := by
    intro a b e
    rw [ByteArray.toList_eq, ByteArray.toList_eq] at e
    exact Go.WideShapes.bytes_inj e
  obtain ⟨k, ⟨a1, a2, a3, a4⟩, ⟨b1, b2, b3, b4, b5⟩, ⟨c1, c2, c3, c4⟩⟩ := f
  obtain ⟨k', ⟨a1', a2', a3', a4'⟩, ⟨b1', b2', b3', b4', b5'⟩, ⟨c1', c2', c3', c4'⟩⟩ := g
  simp only at *
  have e4 := inj h4
  have e5 := inj h5
  have e10 := inj h10
  subst h1 h2 h3 e4 e5 h6 h7 h8 h9 e10 h11 h12 h13 h14
  rfl
theorem eq_fr (f : Fr) (w : World) : (Op.equalIn 10000 34 (.agg (fv f)) (.agg (fv f))).run Try.prog w = .ok true w := by
  unfold fv
  simp [go_sem, Op.eqFields]
theorem ne_fr {f g : Fr} (h : f ≠ g) (w : World) : (Op.equalIn 10000 34 (.agg (fv f)) (.agg (fv g))).run Try.prog w = .ok false w := by
  unfold fv
  simp [go_sem, Op.eqFields]
  intro h1 h2 h3 h4 h5 h6 h7 h8 h9 h10 h11 h12 h13 h14
  exact h (fr_eq h1 (by omega) h3 h4 h5 (by omega) h7 h8 h9 h10 h11 h12 h13 (by omega))
theorem neq_yes {f g : Fr} (h : f ≠ g) (w : World) : (binOp .neq 34 (.agg (fv f)) (.agg (fv g))).run Try.prog w = .ok (.bool true) w := by
  rw [run_neq_struct, ne_fr h]; rfl
theorem neq_no {f g : Fr} (h : f = g) (w : World) : (binOp .neq 34 (.agg (fv f)) (.agg (fv g))).run Try.prog w = .ok (.bool false) w := by
  rw [run_neq_struct, h, eq_fr]; rfl
set_option maxHeartbeats 400000 in
theorem mayBeKey_yes (s : ByteArray) (w : World) (h : mayKey s) : Calls Try.prog 71 #[.string s] w fun e w' => e = .returned (.bool true) ∧ w' = w := by
  obtain ⟨h1, h2⟩ := h
  have e : decide ((s.size : Int) ≤ 64) = true := by simp; omega
  go_enter Try.func71, Try.ntmps71
  go_wp2
  go_ret
  exact ⟨rfl, rfl⟩
set_option maxHeartbeats 400000 in
theorem mayBeKey_no (s : ByteArray) (w : World) (h : ¬ mayKey s) : Calls Try.prog 71 #[.string s] w fun e w' => e = .returned (.bool false) ∧ w' = w := by
  unfold mayKey at h
  by_cases h1 : 1 ≤ s.size
  · have h2 : ¬ s.size ≤ 64 := fun q => h ⟨h1, q⟩
    have e : decide ((s.size : Int) ≤ 64) = false := by simp; omega
    clear h
    go_enter Try.func71, Try.ntmps71
    go_wp2
    go_ret
    exact ⟨rfl, rfl⟩
  · clear h
    go_enter Try.func71, Try.ntmps71
    go_wp2
    go_ret
    exact ⟨rfl, rfl⟩
set_option maxHeartbeats 400000 in
theorem onDisk_yes (n : Int) (w : World) (h : onD n) : Calls Try.prog 73 #[.int .i64 n] w fun e w' => e = .returned (.bool true) ∧ w' = w := by
  obtain ⟨h1, h2⟩ := h
  have e : decide (n ≤ 4194304) = true := by simp; omega
  go_enter Try.func73, Try.ntmps73
  go_wp2
  go_ret
  exact ⟨rfl, rfl⟩
set_option maxHeartbeats 400000 in
theorem onDisk_no (n : Int) (w : World) (h : ¬ onD n) : Calls Try.prog 73 #[.int .i64 n] w fun e w' => e = .returned (.bool false) ∧ w' = w := by
  unfold onD at h
  by_cases h1 : 0 ≤ n
  · have h2 : ¬ n ≤ 4194304 := fun q => h ⟨h1, q⟩
    have e : decide (n ≤ 4194304) = false := by simp; omega
    clear h
    go_enter Try.func73, Try.ntmps73
    go_wp2
    go_ret
    exact ⟨rfl, rfl⟩
  · clear h
    go_enter Try.func73, Try.ntmps73
    go_wp2
    go_ret
    exact ⟨rfl, rfl⟩
def mv (k : Int) : Int := if k = 2 then 0 else 2048
theorem mostValue_is (k : Int) (w : World) : Calls Try.prog 72 #[.int .i64 k] w fun e w' => e = .returned (.int .i64 (mv k)) ∧ w' = w := by
  unfold mv
  by_cases h : k = 2
  · subst h
    go_enter Try.func72, Try.ntmps72
    go_wp2
    go_ret
    exact ⟨rfl, rfl⟩
  · rw [if_neg h]
    go_enter Try.func72, Try.ntmps72
    go_wp2
    go_ret
    exact ⟨rfl, rfl⟩
theorem heap_two (w : World) (A B : Obj) : ((w.alloc A).alloc B).heap[w.heap.size + 1]? = some B := by
  have h := heap_alloc_new (w.alloc A) B
  rw [World.size_alloc] at h
  exact h
theorem below_alloc1 {w w' : World} {o : Obj} (h : Below (w.alloc o).heap.size (w.alloc o) w') : Below w.heap.size w w' := ((Below.refl _ _).alloc (Nat.le_refl _) o).trans (h.mono (by simp))
theorem below_two (w : World) (A B : Obj) : Below w.heap.size w ((w.alloc A).alloc B) := ((Below.refl _ _).alloc (Nat.le_refl _) _).alloc (by simp) _
set_option maxRecDepth 100000 in
set_option maxHeartbeats 400000 in
theorem of_is (r : Rec) (w : World) : Calls Try.prog 8 #[.agg (rv r)] w fun e w' => e = .returned (.agg (fv (ofR r))) ∧ w' = (w.alloc (.cells (rv r) 25)).alloc (.cells (fv (ofR r)) 34) := by
  unfold rv fv ofR zp ze
  obtain ⟨lsn, kind, key, val⟩ := r
  simp only
  go_enter Try.func8, Try.ntmps8
  go_wp2
  refine bodyPost_ret (results_cell_row rfl _ _ (w.heap.size + 1) 34 _ (0, 0) _ rfl (heap_two _ _ _) Try.underlying34 rfl (by kernel_rfl)) rfl ?_
  exact ⟨rfl, rfl⟩
theorem below_four (w : World) (A B C D : Obj) : Below w.heap.size w ((((w.alloc A).alloc B).alloc C).alloc D) := ((below_two w A B).alloc (by simp; omega) _).alloc (by simp; omega) _
theorem below_rest (w : World) (A B C D : Obj) (n : Nat) : Below w.heap.size w (((((w.alloc A).alloc B).drewN n).alloc C).alloc D) := by
  have h := below_drewN (below_two w A B) n
  exact (h.alloc h.size _).alloc (by have := h.size; simp; omega) _
theorem ite_ne {f g : Fr} {b : Bool} (hb : b = false ↔ f = g) {inst : Decidable (f ≠ g)} : (@ite Nat (f ≠ g) inst 40 0) = if b then 40 else 0 := by
  cases b
  · rw [if_neg (fun q => q (hb.1 rfl))]; rfl
  · rw [if_pos (fun q => by have := hb.2 q; cases this)]; rfl
theorem neq_any (f g : Fr) : ∃ b : Bool, (∀ w, (binOp .neq 34 (.agg (fv f)) (.agg (fv g))).run Try.prog w = .ok (.bool b) w) ∧ (b = false ↔ f = g) := by
  by_cases h : f = g
  · exact ⟨false, neq_no h, by simp [h]⟩
  · exact ⟨true, neq_yes h, by simp [h]⟩
set_option maxRecDepth 100000 in
set_option maxHeartbeats 4000000 in
theorem recRef_is (f : Fr) (w : World) : Calls Try.prog 50 #[.agg (fv f)] w fun e w' => e = .returned (.int .i64 (rfR f : Int)) ∧ Below w.heap.size w w' := by
  obtain ⟨k, ⟨lsn, rk, key, val⟩, ⟨pl, pk, pa, pn, pkey⟩, ⟨ec, eb, ef, es⟩⟩ := f
  have hof := of_is ⟨lsn, rk, key, val⟩
  unfold rfR
  simp only
  by_cases c1 : rk ≠ k
  · rw [if_pos c1]
    have q : (rk != k) = true := by simpa using c1
    unfold fv
    go_enter Try.func50, Try.ntmps50
    go_wp2_with fail
    go_ret
    exact ⟨rfl, below_two _ _ _⟩
  · rw [if_neg c1]
    obtain rfl : rk = k := Classical.not_not.1 c1
    clear c1
    by_cases c2 : lsn = 0
    · rw [if_pos c2]
      subst c2
      unfold fv
      go_enter Try.func50, Try.ntmps50
      go_wp2_with fail
      go_ret
      exact ⟨rfl, below_two _ _ _⟩
    · rw [if_neg c2]
      have q2 : (((lsn : Nat) : Int) == 0) = false := by simp; omega
      by_cases c3 : ¬ mayKey key
      · rw [if_pos c3]
        unfold fv
        go_enter Try.func50, Try.ntmps50
        go_wp2_with fail
        refine Calls.mono (mayBeKey_no _ _ c3) ?_
        rintro e w' ⟨rfl, rfl⟩
        go_wp2_with fail
        go_ret
        exact ⟨rfl, below_two _ _ _⟩
      · rw [if_neg c3]
        have HK := hd (Classical.not_not.1 c3)
        clear c3
        by_cases c4 : (if rk = 2 then 0 else 2048) < val.size
        · rw [if_pos c4]
          have HM := hd (mostValue_is rk)
          have q4 : decide (mv rk < (val.size : Int)) = true := by
            rw [decide_eq_true_iff]; unfold mv; by_cases h : rk = 2
            · rw [if_pos h] at c4 ⊢; omega
            · rw [if_neg h] at c4 ⊢; omega
          have HQ4 := hd c4
          clear c4
          generalize mv rk = m at *
          unfold fv
          go_enter Try.func50, Try.ntmps50
          go_wp2_with fail
          refine Calls.mono (mayBeKey_yes _ _ HK.out) ?_
          rintro e w' ⟨rfl, rfl⟩
          go_wp2_with fail
          go_quiet (first | (go_at_call 72; refine Calls.quiet_of_same (HM.out _)))
          go_wp2_with fail
          go_ret
          exact ⟨rfl, below_drewN (below_two _ _ _) _⟩
        · rw [if_neg c4]
          have HM := hd (mostValue_is rk)
          have q4 : decide (mv rk < (val.size : Int)) = false := by
            rw [decide_eq_false_iff_not]; unfold mv; by_cases h : rk = 2
            · rw [if_pos h] at c4 ⊢; omega
            · rw [if_neg h] at c4 ⊢; omega
          clear c4
          generalize mv rk = m at *
          obtain ⟨b, hb1, hb2⟩ := neq_any ⟨rk, ⟨lsn, rk, key, val⟩, ⟨pl, pk, pa, pn, pkey⟩, ⟨ec, eb, ef, es⟩⟩ (ofR ⟨lsn, rk, key, val⟩)
          have hne : ∀ w, (binOp .neq 34 (.agg #[.int .i64 rk, .int .u64 (lsn : Int), .int .i64 rk, .string key, .string val, .int .u64 (pl : Int), .int .i64 pk, .int .i64 pa, .int .i64 pn, .string pkey, .int .i64 ec, .int .i64 eb, .int .i64 ef, .int .u32 (es : Int)]) (.agg #[.int .i64 rk, .int .u64 (lsn : Int), .int .i64 rk, .string key, .string val, .int .u64 0, .int .i64 0, .int .i64 0, .int .i64 0, .string ByteArray.empty, .int .i64 0, .int .i64 0, .int .i64 0, .int .u32 0])).run Try.prog w = .ok (.bool b) w := hb1
          have HOF : Hid (∀ w, Calls Try.prog 8 #[.agg #[.int .u64 (lsn : Int), .int .i64 rk, .string key, .string val]] w fun e w' => e = .returned (.agg #[.int .i64 rk, .int .u64 (lsn : Int), .int .i64 rk, .string key, .string val, .int .u64 0, .int .i64 0, .int .i64 0, .int .i64 0, .string ByteArray.empty, .int .i64 0, .int .i64 0, .int .i64 0, .int .u32 0]) ∧ w' = (w.alloc (.cells #[.int .u64 (lsn : Int), .int .i64 rk, .string key, .string val] 25)).alloc (.cells #[.int .i64 rk, .int .u64 (lsn : Int), .int .i64 rk, .string key, .string val, .int .u64 0, .int .i64 0, .int .i64 0, .int .i64 0, .string ByteArray.empty, .int .i64 0, .int .i64 0, .int .i64 0, .int .u32 0] 34)) := hof
          rw [ite_ne hb2]
          clear hof hb1 hb2
          unfold fv
          cases b
          all_goals (
            go_enter Try.func50, Try.ntmps50
            go_wp2_with fail
            refine Calls.mono (mayBeKey_yes _ _ HK.out) ?_
            rintro e w' ⟨rfl, rfl⟩
            go_wp2_with fail
            go_quiet (first | (go_at_call 72; refine Calls.quiet_of_same (HM.out _)))
            go_wp2_with fail
            go_region_with (go_at_call 8; refine Calls.mono (HOF.out _) ?_; rintro e w' ⟨rfl, rfl⟩)
            all_goals go_wp2_with fail
            all_goals go_ret
            all_goals exact ⟨rfl, below_rest _ _ _ _ _ _⟩)
end Vt
end Go.Proofs.Ytnjhbidialngmaa
namespace Go.Proofs.Ytnjhbidialngmaa
open Go.RowKit
namespace Vt
def onB (n : Int) : Bool := decide (0 ≤ n) && decide (n ≤ 4194304)
theorem onB_iff (n : Int) : onB n = true ↔ onD n := by unfold onB onD; simp
theorem onDisk_is (n : Int) (w : World) : Calls Try.prog 73 #[.int .i64 n] w fun e w' => e = .returned (.bool (onB n)) ∧ w' = w := by
  by_cases h : onD n
  · rw [(onB_iff n).2 h]; exact onDisk_yes n w h
  · rw [show onB n = false by rw [← Bool.not_eq_true, onB_iff]; exact h]; exact onDisk_no n w h
set_option maxRecDepth 100000 in
set_option maxHeartbeats 2000000 in
theorem ptr_46 (rl : Nat) (rk : Int) (rkey rval : ByteArray) (pl : Nat) (pk pa pn : Int) (pkey : ByteArray) (ec eb ef : Int) (es : Nat) (w : World) (q1 : (pk != 1) = true) (q2 : (pk != 2) = true) :
    Calls Try.prog 51 #[.agg #[.int .i64 3, .int .u64 (rl : Int), .int .i64 rk, .string rkey, .string rval, .int .u64 (pl : Int), .int .i64 pk, .int .i64 pa, .int .i64 pn, .string pkey, .int .i64 ec, .int .i64 eb, .int .i64 ef, .int .u32 (es : Int)]] w fun e w' => e = .returned (.int .i64 46) ∧ Below w.heap.size w w' := by
  go_enter Try.func51, Try.ntmps51
  go_wp2_with (first | (go_at_call 73; refine Calls.mono (onDisk_is _ _) ?_; rintro e w' ⟨rfl, rfl⟩))
  go_ret
  exact ⟨rfl, below_two _ _ _⟩
set_option maxRecDepth 100000 in
set_option maxHeartbeats 2000000 in
theorem ptr_47 (rl : Nat) (rk : Int) (rkey rval : ByteArray) (pl : Nat) (pk pa pn : Int) (pkey : ByteArray) (ec eb ef : Int) (es : Nat) (w : World) (hpk : pk = 1 ∨ pk = 2) (h0 : pl = 0) :
    Calls Try.prog 51 #[.agg #[.int .i64 3, .int .u64 (rl : Int), .int .i64 rk, .string rkey, .string rval, .int .u64 (pl : Int), .int .i64 pk, .int .i64 pa, .int .i64 pn, .string pkey, .int .i64 ec, .int .i64 eb, .int .i64 ef, .int .u32 (es : Int)]] w fun e w' => e = .returned (.int .i64 47) ∧ Below w.heap.size w w' := by
  subst h0
  rcases hpk with rfl | rfl
  all_goals (
    go_enter Try.func51, Try.ntmps51
    go_wp2_with (first | (go_at_call 73; refine Calls.mono (onDisk_is _ _) ?_; rintro e w' ⟨rfl, rfl⟩))
    go_ret
    exact ⟨rfl, below_two _ _ _⟩)
set_option maxRecDepth 100000 in
set_option maxHeartbeats 2000000 in
theorem ptr_48 (rl : Nat) (rk : Int) (rkey rval : ByteArray) (pl : Nat) (pk pa pn : Int) (pkey : ByteArray) (ec eb ef : Int) (es : Nat) (w : World) (hpk : pk = 1 ∨ pk = 2) (q3 : (((pl : Nat) : Int) == 0) = false) (HK : Hid (∀ w : World, Calls Try.prog 71 #[.string pkey] w fun e w' => e = .returned (.bool false) ∧ w' = w)) :
    Calls Try.prog 51 #[.agg #[.int .i64 3, .int .u64 (rl : Int), .int .i64 rk, .string rkey, .string rval, .int .u64 (pl : Int), .int .i64 pk, .int .i64 pa, .int .i64 pn, .string pkey, .int .i64 ec, .int .i64 eb, .int .i64 ef, .int .u32 (es : Int)]] w fun e w' => e = .returned (.int .i64 48) ∧ Below w.heap.size w w' := by
  rcases hpk with rfl | rfl
  all_goals (
    go_enter Try.func51, Try.ntmps51
    go_wp2_with (first | (go_at_call 71; refine Calls.mono (HK.out _) ?_; rintro e w' ⟨rfl, rfl⟩) | (go_at_call 73; refine Calls.mono (onDisk_is _ _) ?_; rintro e w' ⟨rfl, rfl⟩))
    go_ret
    exact ⟨rfl, below_two _ _ _⟩)
set_option maxRecDepth 100000 in
set_option maxHeartbeats 2000000 in
theorem ptr_40a (rl : Nat) (rk : Int) (rkey rval : ByteArray) (pl : Nat) (pk pa pn : Int) (pkey : ByteArray) (ec eb ef : Int) (es : Nat) (w : World) (hpk : pk = 1 ∨ pk = 2) (q3 : (((pl : Nat) : Int) == 0) = false) (HK : Hid (∀ w : World, Calls Try.prog 71 #[.string pkey] w fun e w' => e = .returned (.bool true) ∧ w' = w)) (d1 : onB pa = false) :
    Calls Try.prog 51 #[.agg #[.int .i64 3, .int .u64 (rl : Int), .int .i64 rk, .string rkey, .string rval, .int .u64 (pl : Int), .int .i64 pk, .int .i64 pa, .int .i64 pn, .string pkey, .int .i64 ec, .int .i64 eb, .int .i64 ef, .int .u32 (es : Int)]] w fun e w' => e = .returned (.int .i64 40) ∧ Below w.heap.size w w' := by
  rcases hpk with rfl | rfl
  all_goals (
    go_enter Try.func51, Try.ntmps51
    go_wp2_with (first | (go_at_call 71; refine Calls.mono (HK.out _) ?_; rintro e w' ⟨rfl, rfl⟩) | (go_at_call 73; refine Calls.mono (onDisk_is _ _) ?_; rintro e w' ⟨rfl, rfl⟩))
    go_ret
    exact ⟨rfl, below_two _ _ _⟩)
set_option maxRecDepth 100000 in
set_option maxHeartbeats 2000000 in
theorem ptr_40b (rl : Nat) (rk : Int) (rkey rval : ByteArray) (pl : Nat) (pk pa pn : Int) (pkey : ByteArray) (ec eb ef : Int) (es : Nat) (w : World) (hpk : pk = 1 ∨ pk = 2) (q3 : (((pl : Nat) : Int) == 0) = false) (HK : Hid (∀ w : World, Calls Try.prog 71 #[.string pkey] w fun e w' => e = .returned (.bool true) ∧ w' = w)) (d1 : onB pa = true) (d2 : onB pn = false) :
    Calls Try.prog 51 #[.agg #[.int .i64 3, .int .u64 (rl : Int), .int .i64 rk, .string rkey, .string rval, .int .u64 (pl : Int), .int .i64 pk, .int .i64 pa, .int .i64 pn, .string pkey, .int .i64 ec, .int .i64 eb, .int .i64 ef, .int .u32 (es : Int)]] w fun e w' => e = .returned (.int .i64 40) ∧ Below w.heap.size w w' := by
  rcases hpk with rfl | rfl
  all_goals (
    go_enter Try.func51, Try.ntmps51
    go_wp2_with (first | (go_at_call 71; refine Calls.mono (HK.out _) ?_; rintro e w' ⟨rfl, rfl⟩) | (go_at_call 73; refine Calls.mono (onDisk_is _ _) ?_; rintro e w' ⟨rfl, rfl⟩))
    go_ret
    exact ⟨rfl, below_two _ _ _⟩)
set_option maxRecDepth 100000 in
set_option maxHeartbeats 2000000 in
theorem ptr_40c (rl : Nat) (rk : Int) (rkey rval : ByteArray) (pl : Nat) (pk pa pn : Int) (pkey : ByteArray) (ec eb ef : Int) (es : Nat) (w : World) (hpk : pk = 1 ∨ pk = 2) (q3 : (((pl : Nat) : Int) == 0) = false) (HK : Hid (∀ w : World, Calls Try.prog 71 #[.string pkey] w fun e w' => e = .returned (.bool true) ∧ w' = w)) (d1 : onB pa = true) (d2 : onB pn = true) (d3 : pn = 0) :
    Calls Try.prog 51 #[.agg #[.int .i64 3, .int .u64 (rl : Int), .int .i64 rk, .string rkey, .string rval, .int .u64 (pl : Int), .int .i64 pk, .int .i64 pa, .int .i64 pn, .string pkey, .int .i64 ec, .int .i64 eb, .int .i64 ef, .int .u32 (es : Int)]] w fun e w' => e = .returned (.int .i64 40) ∧ Below w.heap.size w w' := by
  subst d3
  rcases hpk with rfl | rfl
  all_goals (
    go_enter Try.func51, Try.ntmps51
    go_wp2_with (first | (go_at_call 71; refine Calls.mono (HK.out _) ?_; rintro e w' ⟨rfl, rfl⟩) | (go_at_call 73; refine Calls.mono (onDisk_is _ _) ?_; rintro e w' ⟨rfl, rfl⟩))
    go_ret
    exact ⟨rfl, below_two _ _ _⟩)
set_option maxRecDepth 100000 in
set_option maxHeartbeats 2000000 in
theorem ptr_ey (rl : Nat) (rk : Int) (rkey rval : ByteArray) (pl : Nat) (pk pa pn : Int) (pkey : ByteArray) (ec eb ef : Int) (es : Nat) (w : World) (hpk : pk = 1 ∨ pk = 2) (q3 : (((pl : Nat) : Int) == 0) = false) (HK : Hid (∀ w : World, Calls Try.prog 71 #[.string pkey] w fun e w' => e = .returned (.bool true) ∧ w' = w)) (d1 : onB pa = true) (d2 : onB pn = true) (d3 : (pn == 0) = false) (hne : ∀ w, (binOp .neq 34 (.agg #[.int .i64 3, .int .u64 (rl : Int), .int .i64 rk, .string rkey, .string rval, .int .u64 (pl : Int), .int .i64 pk, .int .i64 pa, .int .i64 pn, .string pkey, .int .i64 ec, .int .i64 eb, .int .i64 ef, .int .u32 (es : Int)]) (.agg #[.int .i64 3, .int .u64 0, .int .i64 0, .string ⟨#[]⟩, .string ⟨#[]⟩, .int .u64 (pl : Int), .int .i64 pk, .int .i64 pa, .int .i64 pn, .string pkey, .int .i64 0, .int .i64 0, .int .i64 0, .int .u32 0])).run Try.prog w = .ok (.bool true) w) :
    Calls Try.prog 51 #[.agg #[.int .i64 3, .int .u64 (rl : Int), .int .i64 rk, .string rkey, .string rval, .int .u64 (pl : Int), .int .i64 pk, .int .i64 pa, .int .i64 pn, .string pkey, .int .i64 ec, .int .i64 eb, .int .i64 ef, .int .u32 (es : Int)]] w fun e w' => e = .returned (.int .i64 40) ∧ Below w.heap.size w w' := by
  rcases hpk with rfl | rfl
  all_goals (
    go_enter Try.func51, Try.ntmps51
    go_wp2_with (first | (go_at_call 71; refine Calls.mono (HK.out _) ?_; rintro e w' ⟨rfl, rfl⟩) | (go_at_call 73; refine Calls.mono (onDisk_is _ _) ?_; rintro e w' ⟨rfl, rfl⟩))
    go_ret
    exact ⟨rfl, below_two _ _ _⟩)
set_option maxRecDepth 100000 in
set_option maxHeartbeats 2000000 in
theorem ptr_en (rl : Nat) (rk : Int) (rkey rval : ByteArray) (pl : Nat) (pk pa pn : Int) (pkey : ByteArray) (ec eb ef : Int) (es : Nat) (w : World) (hpk : pk = 1 ∨ pk = 2) (q3 : (((pl : Nat) : Int) == 0) = false) (HK : Hid (∀ w : World, Calls Try.prog 71 #[.string pkey] w fun e w' => e = .returned (.bool true) ∧ w' = w)) (d1 : onB pa = true) (d2 : onB pn = true) (d3 : (pn == 0) = false) (hne : ∀ w, (binOp .neq 34 (.agg #[.int .i64 3, .int .u64 (rl : Int), .int .i64 rk, .string rkey, .string rval, .int .u64 (pl : Int), .int .i64 pk, .int .i64 pa, .int .i64 pn, .string pkey, .int .i64 ec, .int .i64 eb, .int .i64 ef, .int .u32 (es : Int)]) (.agg #[.int .i64 3, .int .u64 0, .int .i64 0, .string ⟨#[]⟩, .string ⟨#[]⟩, .int .u64 (pl : Int), .int .i64 pk, .int .i64 pa, .int .i64 pn, .string pkey, .int .i64 0, .int .i64 0, .int .i64 0, .int .u32 0])).run Try.prog w = .ok (.bool false) w) :
    Calls Try.prog 51 #[.agg #[.int .i64 3, .int .u64 (rl : Int), .int .i64 rk, .string rkey, .string rval, .int .u64 (pl : Int), .int .i64 pk, .int .i64 pa, .int .i64 pn, .string pkey, .int .i64 ec, .int .i64 eb, .int .i64 ef, .int .u32 (es : Int)]] w fun e w' => e = .returned (.int .i64 0) ∧ Below w.heap.size w w' := by
  rcases hpk with rfl | rfl
  all_goals (
    go_enter Try.func51, Try.ntmps51
    go_wp2_with (first | (go_at_call 71; refine Calls.mono (HK.out _) ?_; rintro e w' ⟨rfl, rfl⟩) | (go_at_call 73; refine Calls.mono (onDisk_is _ _) ?_; rintro e w' ⟨rfl, rfl⟩))
    go_ret
    exact ⟨rfl, below_two _ _ _⟩)
set_option maxRecDepth 100000 in
set_option maxHeartbeats 2000000 in
theorem edg_40a (rl : Nat) (rk : Int) (rkey rval : ByteArray) (pl : Nat) (pk pa pn : Int) (pkey : ByteArray) (ec eb ef : Int) (es : Nat) (w : World) (d1 : onB ec = false) :
    Calls Try.prog 52 #[.agg #[.int .i64 4, .int .u64 (rl : Int), .int .i64 rk, .string rkey, .string rval, .int .u64 (pl : Int), .int .i64 pk, .int .i64 pa, .int .i64 pn, .string pkey, .int .i64 ec, .int .i64 eb, .int .i64 ef, .int .u32 (es : Int)]] w fun e w' => e = .returned (.int .i64 40) ∧ Below w.heap.size w w' := by
  go_enter Try.func52, Try.ntmps52
  go_wp2_with (first | (go_at_call 73; refine Calls.mono (onDisk_is _ _) ?_; rintro e w' ⟨rfl, rfl⟩))
  go_ret
  exact ⟨rfl, below_two _ _ _⟩
set_option maxRecDepth 100000 in
set_option maxHeartbeats 2000000 in
theorem edg_40b (rl : Nat) (rk : Int) (rkey rval : ByteArray) (pl : Nat) (pk pa pn : Int) (pkey : ByteArray) (ec eb ef : Int) (es : Nat) (w : World) (d1 : onB ec = true) (d2 : onB eb = false) :
    Calls Try.prog 52 #[.agg #[.int .i64 4, .int .u64 (rl : Int), .int .i64 rk, .string rkey, .string rval, .int .u64 (pl : Int), .int .i64 pk, .int .i64 pa, .int .i64 pn, .string pkey, .int .i64 ec, .int .i64 eb, .int .i64 ef, .int .u32 (es : Int)]] w fun e w' => e = .returned (.int .i64 40) ∧ Below w.heap.size w w' := by
  go_enter Try.func52, Try.ntmps52
  go_wp2_with (first | (go_at_call 73; refine Calls.mono (onDisk_is _ _) ?_; rintro e w' ⟨rfl, rfl⟩))
  go_ret
  exact ⟨rfl, below_two _ _ _⟩
set_option maxRecDepth 100000 in
set_option maxHeartbeats 2000000 in
theorem edg_40c (rl : Nat) (rk : Int) (rkey rval : ByteArray) (pl : Nat) (pk pa pn : Int) (pkey : ByteArray) (ec eb ef : Int) (es : Nat) (w : World) (d1 : onB ec = true) (d2 : onB eb = true) (d3 : onB ef = false) :
    Calls Try.prog 52 #[.agg #[.int .i64 4, .int .u64 (rl : Int), .int .i64 rk, .string rkey, .string rval, .int .u64 (pl : Int), .int .i64 pk, .int .i64 pa, .int .i64 pn, .string pkey, .int .i64 ec, .int .i64 eb, .int .i64 ef, .int .u32 (es : Int)]] w fun e w' => e = .returned (.int .i64 40) ∧ Below w.heap.size w w' := by
  go_enter Try.func52, Try.ntmps52
  go_wp2_with (first | (go_at_call 73; refine Calls.mono (onDisk_is _ _) ?_; rintro e w' ⟨rfl, rfl⟩))
  go_ret
  exact ⟨rfl, below_two _ _ _⟩
set_option maxRecDepth 100000 in
set_option maxHeartbeats 2000000 in
theorem edg_ey (rl : Nat) (rk : Int) (rkey rval : ByteArray) (pl : Nat) (pk pa pn : Int) (pkey : ByteArray) (ec eb ef : Int) (es : Nat) (w : World) (d1 : onB ec = true) (d2 : onB eb = true) (d3 : onB ef = true) (hne : ∀ w, (binOp .neq 34 (.agg #[.int .i64 4, .int .u64 (rl : Int), .int .i64 rk, .string rkey, .string rval, .int .u64 (pl : Int), .int .i64 pk, .int .i64 pa, .int .i64 pn, .string pkey, .int .i64 ec, .int .i64 eb, .int .i64 ef, .int .u32 (es : Int)]) (.agg #[.int .i64 4, .int .u64 0, .int .i64 0, .string ⟨#[]⟩, .string ⟨#[]⟩, .int .u64 0, .int .i64 0, .int .i64 0, .int .i64 0, .string ⟨#[]⟩, .int .i64 ec, .int .i64 eb, .int .i64 ef, .int .u32 (es : Int)])).run Try.prog w = .ok (.bool true) w) :
    Calls Try.prog 52 #[.agg #[.int .i64 4, .int .u64 (rl : Int), .int .i64 rk, .string rkey, .string rval, .int .u64 (pl : Int), .int .i64 pk, .int .i64 pa, .int .i64 pn, .string pkey, .int .i64 ec, .int .i64 eb, .int .i64 ef, .int .u32 (es : Int)]] w fun e w' => e = .returned (.int .i64 40) ∧ Below w.heap.size w w' := by
  go_enter Try.func52, Try.ntmps52
  go_wp2_with (first | (go_at_call 73; refine Calls.mono (onDisk_is _ _) ?_; rintro e w' ⟨rfl, rfl⟩))
  go_ret
  exact ⟨rfl, below_two _ _ _⟩
set_option maxRecDepth 100000 in
set_option maxHeartbeats 2000000 in
theorem edg_en (rl : Nat) (rk : Int) (rkey rval : ByteArray) (pl : Nat) (pk pa pn : Int) (pkey : ByteArray) (ec eb ef : Int) (es : Nat) (w : World) (d1 : onB ec = true) (d2 : onB eb = true) (d3 : onB ef = true) (hne : ∀ w, (binOp .neq 34 (.agg #[.int .i64 4, .int .u64 (rl : Int), .int .i64 rk, .string rkey, .string rval, .int .u64 (pl : Int), .int .i64 pk, .int .i64 pa, .int .i64 pn, .string pkey, .int .i64 ec, .int .i64 eb, .int .i64 ef, .int .u32 (es : Int)]) (.agg #[.int .i64 4, .int .u64 0, .int .i64 0, .string ⟨#[]⟩, .string ⟨#[]⟩, .int .u64 0, .int .i64 0, .int .i64 0, .int .i64 0, .string ⟨#[]⟩, .int .i64 ec, .int .i64 eb, .int .i64 ef, .int .u32 (es : Int)])).run Try.prog w = .ok (.bool false) w) :
    Calls Try.prog 52 #[.agg #[.int .i64 4, .int .u64 (rl : Int), .int .i64 rk, .string rkey, .string rval, .int .u64 (pl : Int), .int .i64 pk, .int .i64 pa, .int .i64 pn, .string pkey, .int .i64 ec, .int .i64 eb, .int .i64 ef, .int .u32 (es : Int)]] w fun e w' => e = .returned (.int .i64 0) ∧ Below w.heap.size w w' := by
  go_enter Try.func52, Try.ntmps52
  go_wp2_with (first | (go_at_call 73; refine Calls.mono (onDisk_is _ _) ?_; rintro e w' ⟨rfl, rfl⟩))
  go_ret
  exact ⟨rfl, below_two _ _ _⟩
theorem ptrRef_is (f : Fr) (w : World) (hk3 : f.kind = 3) : Calls Try.prog 51 #[.agg (fv f)] w fun e w' => e = .returned (.int .i64 (rfP f : Int)) ∧ Below w.heap.size w w' := by
  obtain ⟨k, ⟨rl, rk, rkey, rval⟩, ⟨pl, pk, pa, pn, pkey⟩, ⟨ec, eb, ef, es⟩⟩ := f
  simp only at hk3
  subst hk3
  unfold rfP
  simp only
  by_cases c1 : pk ≠ 1 ∧ pk ≠ 2
  · rw [if_pos c1]
    obtain ⟨d1, d2⟩ := c1
    exact ptr_46 rl rk rkey rval pl pk pa pn pkey ec eb ef es w (by simpa using d1) (by simpa using d2)
  · rw [if_neg c1]
    have hpk : pk = 1 ∨ pk = 2 := by omega
    by_cases c2 : pl = 0
    · rw [if_pos c2]
      exact ptr_47 rl rk rkey rval pl pk pa pn pkey ec eb ef es w hpk c2
    · rw [if_neg c2]
      have q3 : (((pl : Nat) : Int) == 0) = false := by simp; omega
      by_cases c3 : ¬ mayKey pkey
      · rw [if_pos c3]
        exact ptr_48 rl rk rkey rval pl pk pa pn pkey ec eb ef es w hpk q3 (fun w => mayBeKey_no pkey w c3)
      · rw [if_neg c3]
        have HK := hd (fun (w : World) => mayBeKey_yes pkey w (Classical.not_not.1 c3))
        by_cases c4 : ¬ onD pa ∨ ¬ onD pn ∨ pn = 0
        · rw [if_pos c4]
          by_cases d1 : onD pa
          · by_cases d2 : onD pn
            · have d3 : pn = 0 := by
                rcases c4 with h | h | h
                · exact absurd d1 h
                · exact absurd d2 h
                · exact h
              exact ptr_40c rl rk rkey rval pl pk pa pn pkey ec eb ef es w hpk q3 HK ((onB_iff _).2 d1) ((onB_iff _).2 d2) d3
            · exact ptr_40b rl rk rkey rval pl pk pa pn pkey ec eb ef es w hpk q3 HK ((onB_iff _).2 d1) (by rw [← Bool.not_eq_true, onB_iff]; exact d2)
          · exact ptr_40a rl rk rkey rval pl pk pa pn pkey ec eb ef es w hpk q3 HK (by rw [← Bool.not_eq_true, onB_iff]; exact d1)
        · rw [if_neg c4]
          have d1 : onB pa = true := (onB_iff _).2 (Classical.byContradiction fun q => c4 (.inl q))
          have d2 : onB pn = true := (onB_iff _).2 (Classical.byContradiction fun q => c4 (.inr (.inl q)))
          have d3 : (pn == 0) = false := by simpa using fun q => c4 (.inr (.inr q))
          obtain ⟨b, hb1, hb2⟩ := neq_any ⟨3, ⟨rl, rk, rkey, rval⟩, ⟨pl, pk, pa, pn, pkey⟩, ⟨ec, eb, ef, es⟩⟩ ⟨3, zr, ⟨pl, pk, pa, pn, pkey⟩, ze⟩
          rw [ite_ne hb2]
          cases b
          · exact ptr_en rl rk rkey rval pl pk pa pn pkey ec eb ef es w hpk q3 HK d1 d2 d3 hb1
          · exact ptr_ey rl rk rkey rval pl pk pa pn pkey ec eb ef es w hpk q3 HK d1 d2 d3 hb1
theorem edgRef_is (f : Fr) (w : World) (hk4 : f.kind = 4) : Calls Try.prog 52 #[.agg (fv f)] w fun e w' => e = .returned (.int .i64 (rfE f : Int)) ∧ Below w.heap.size w w' := by
  obtain ⟨k, ⟨rl, rk, rkey, rval⟩, ⟨pl, pk, pa, pn, pkey⟩, ⟨ec, eb, ef, es⟩⟩ := f
  simp only at hk4
  subst hk4
  unfold rfE
  simp only
  by_cases c4 : ¬ onD ec ∨ ¬ onD eb ∨ ¬ onD ef
  · rw [if_pos c4]
    by_cases d1 : onD ec
    · by_cases d2 : onD eb
      · have d3 : ¬ onD ef := by
          rcases c4 with h | h | h
          · exact absurd d1 h
          · exact absurd d2 h
          · exact h
        exact edg_40c rl rk rkey rval pl pk pa pn pkey ec eb ef es w ((onB_iff _).2 d1) ((onB_iff _).2 d2) (by rw [← Bool.not_eq_true, onB_iff]; exact d3)
      · exact edg_40b rl rk rkey rval pl pk pa pn pkey ec eb ef es w ((onB_iff _).2 d1) (by rw [← Bool.not_eq_true, onB_iff]; exact d2)
    · exact edg_40a rl rk rkey rval pl pk pa pn pkey ec eb ef es w (by rw [← Bool.not_eq_true, onB_iff]; exact d1)
  · rw [if_neg c4]
    have d1 : onB ec = true := (onB_iff _).2 (Classical.byContradiction fun q => c4 (.inl q))
    have d2 : onB eb = true := (onB_iff _).2 (Classical.byContradiction fun q => c4 (.inr (.inl q)))
    have d3 : onB ef = true := (onB_iff _).2 (Classical.byContradiction fun q => c4 (.inr (.inr q)))
    obtain ⟨b, hb1, hb2⟩ := neq_any ⟨4, ⟨rl, rk, rkey, rval⟩, ⟨pl, pk, pa, pn, pkey⟩, ⟨ec, eb, ef, es⟩⟩ ⟨4, zr, zp, ⟨ec, eb, ef, es⟩⟩
    rw [ite_ne hb2]
    cases b
    · exact edg_en rl rk rkey rval pl pk pa pn pkey ec eb ef es w d1 d2 d3 hb1
    · exact edg_ey rl rk rkey rval pl pk pa pn pkey ec eb ef es w d1 d2 d3 hb1
set_option maxRecDepth 100000 in
set_option maxHeartbeats 2000000 in
theorem refusal_is (f : Fr) (w : World) : Calls Try.prog 23 #[.agg (fv f)] w fun e w' => e = .returned (.int .i64 (rf f : Int)) ∧ Below w.heap.size w w' := by
  have H1 := hd (recRef_is f)
  have H2 := hd (fun w h => ptrRef_is f w h)
  have H3 := hd (fun w h => edgRef_is f w h)
  unfold rf
  obtain ⟨k, ⟨rl, rk, rkey, rval⟩, ⟨pl, pk, pa, pn, pkey⟩, ⟨ec, eb, ef, es⟩⟩ := f
  simp only
  unfold fv at *
  simp only at *
  by_cases c12 : k = 1 ∨ k = 2
  · rw [if_pos c12]
    generalize rfR _ = code at *
    rcases c12 with rfl | rfl
    all_goals (
      go_enter Try.func23, Try.ntmps23
      go_wp2_with fail
      refine Calls.mono (H1.out _) ?_
      rintro e w' ⟨rfl, hb⟩
      have HB := hd (below_alloc1 hb)
      clear hb
      go_wp2_with fail
      go_ret
      exact ⟨rfl, HB.out⟩)
  · rw [if_neg c12]
    by_cases c3 : k = 3
    · rw [if_pos c3]
      generalize rfP _ = code at *
      subst c3
      go_enter Try.func23, Try.ntmps23
      go_wp2_with fail
      refine Calls.mono (H2.out _ trivial) ?_
      rintro e w' ⟨rfl, hb⟩
      have HB := hd (below_alloc1 hb)
      clear hb
      go_wp2_with fail
      go_ret
      exact ⟨rfl, HB.out⟩
    · rw [if_neg c3]
      by_cases c4 : k = 4
      · rw [if_pos c4]
        generalize rfE _ = code at *
        subst c4
        go_enter Try.func23, Try.ntmps23
        go_wp2_with fail
        refine Calls.mono (H3.out _ trivial) ?_
        rintro e w' ⟨rfl, hb⟩
        have HB := hd (below_alloc1 hb)
        clear hb
        go_wp2_with fail
        go_ret
        exact ⟨rfl, HB.out⟩
      · rw [if_neg c4]
        have q1 : ¬ k = 1 := fun q => c12 (.inl q)
        have q2 : ¬ k = 2 := fun q => c12 (.inr q)
        go_enter Try.func23, Try.ntmps23
        go_wp2_with fail
        go_ret
        exact ⟨rfl, (Below.refl _ _).alloc (Nat.le_refl _) _⟩
end Vt
end Go.Proofs.Ytnjhbidialngmaa
namespace Go.Proofs.Ytnjhbidialngmaa
open Go.RowKit
namespace Vt
def ks (k : IntKind) (l : List Nat) : List Value := l.map fun x => Value.int k ((x : Nat) : Int)
/-- a list of numbers of the call's own: nil where there is none -/
def JK (k : IntKind) (M : Nat) (E : TypeId) (w : World) (base : Nat) (v : Value) (l : List Nat) : Prop := (∀ x ∈ l, x < M) ∧ w.ownsRow base E 1 v l.length (ks k l)
section
variable {k : IntKind} {M : Nat} {E : TypeId}
theorem JK.shape {w : World} {base : Nat} {v : Value} {l : List Nat} (h : JK k M E w base v l) : ∃ a c, v = .slice a l.length c ∧ l.length ≤ c := by
  rcases h.2.2 with ⟨rfl, e⟩ | ⟨g, cap, cur, rfl, _, _, hl, _⟩
  · exact ⟨none, 0, by rw [e], by omega⟩
  · exact ⟨_, cap, rfl, hl⟩
theorem JK.keep {w w' : World} {base n : Nat} {v : Value} {l : List Nat} (h : JK k M E w base v l) (hk : ∀ g, v.ownBlock = some g → g < n) (hb : Below n w w') : JK k M E w' base v l := by
  obtain ⟨h1, h0, ⟨rfl, e⟩ | ⟨g', cap', cur, rfl, hbs, hh, hr⟩⟩ := h
  · exact ⟨h1, h0, .inl ⟨rfl, e⟩⟩
  · refine ⟨h1, h0, .inr ⟨g', cap', cur, rfl, hbs, ?_, hr⟩⟩
    rw [hb.block g' (hk g' rfl)]; exact hh
theorem JK.blk_lt {w : World} {base : Nat} {v : Value} {l : List Nat} (h : JK k M E w base v l) : ∀ g, v.ownBlock = some g → g < w.heap.size := by
  intro g hg
  obtain ⟨_, _, ⟨rfl, e⟩ | ⟨g', cap', cur, rfl, hbs, hh, hr⟩⟩ := h
  · cases hg
  · cases hg
    exact (Array.getElem?_eq_some_iff.1 hh).1
theorem JK.blk_ge {w : World} {base : Nat} {v : Value} {l : List Nat} (h : JK k M E w base v l) : ∀ g, v.ownBlock = some g → base ≤ g := by
  intro g hg
  obtain ⟨_, _, ⟨rfl, e⟩ | ⟨g', cap', cur, rfl, hbs, hh, hr⟩⟩ := h
  · cases hg
  · cases hg
    exact hbs
theorem JK.keepAll {w w' : World} {base : Nat} {v : Value} {l : List Nat} (h : JK k M E w base v l) (hb : Below w.heap.size w w') : JK k M E w' base v l := h.keep h.blk_lt hb
theorem JK.grownO {w w' : World} {base : Nat} {row : Option Nat} {v : Value} {l : List Nat} (h : JK k M E w base v l) (hg : w.grownBy w' row) (hne : ∀ g, v.ownBlock = some g → some g ≠ row) : JK k M E w' base v l := by
  obtain ⟨h1, h0, ⟨rfl, e⟩ | ⟨g', cap', cur, rfl, hbs, hh, hr⟩⟩ := h
  · exact ⟨h1, h0, .inl ⟨rfl, e⟩⟩
  · refine ⟨h1, h0, .inr ⟨g', cap', cur, rfl, hbs, ?_, hr⟩⟩
    rw [hg.block g' (Array.getElem?_eq_some_iff.1 hh).1 (hne g' rfl)]; exact hh
theorem JK.setO {w : World} {base : Nat} {v : Value} {l : List Nat} (h : JK k M E w base v l) {p : Addr} (hne : ∀ g, v.ownBlock = some g → g ≠ p.block) (u : Value) : JK k M E (w.setCell p u) base v l := by
  obtain ⟨h1, h0, ⟨rfl, e⟩ | ⟨g', cap', cur, rfl, hbs, hh, hr⟩⟩ := h
  · exact ⟨h1, h0, .inl ⟨rfl, e⟩⟩
  · refine ⟨h1, h0, .inr ⟨g', cap', cur, rfl, hbs, ?_, hr⟩⟩
    have := hne g' rfl
    rw [← hh]
    show (w.heap.modify p.block _)[g']? = _
    rw [Array.getElem?_modify, if_neg (fun e => this e.symm)]
theorem JK.grown {w w' : World} {base : Nat} {v : Value} {l : List Nat} {n : Nat} {w0 : World} (hJ : JK k M E w base v l) (hb : Below n w0 w) (hn : n ≤ base) (hn2 : n ≤ w.heap.size) (hg : w.grownBy w' v.ownBlock) : Below n w0 w' :=
  hb.grown hg hn2 fun q hq => Nat.le_trans hn (hJ.blk_ge q hq)
variable {S : TypeId} {by_ : Nat}
end
/-- a block of cells, known whole -/
def Blk (W : World) (O : Nat) (T : TypeId) (cs : List Value) : Prop := W.heap[O]? = some (.cells cs.toArray T (0, 0))
theorem Blk.lt {W : World} {O : Nat} {T : TypeId} {cs : List Value} (h : Blk W O T cs) : O < W.heap.size := (Array.getElem?_eq_some_iff.1 h).1
theorem Blk.cell {W : World} {O : Nat} {T : TypeId} {cs : List Value} (h : Blk W O T cs) (j : Nat) (v : Value) (hv : cs[j]? = some v) : W.cell? ⟨O, j, none⟩ = some v := by
  have h' : W.heap[O]? = some (.cells cs.toArray T (0, 0)) := h
  simp only [World.cell?, h']
  simpa using hv
theorem Blk.frozen {W : World} {O : Nat} {T : TypeId} {cs : List Value} (h : Blk W O T cs) (j : Nat) : W.frozen? ⟨O, j, none⟩ = false := by
  have h' : W.heap[O]? = some (.cells cs.toArray T (0, 0)) := h
  simp [World.frozen?, h']
theorem Blk.below {W W' : World} {O n : Nat} {T : TypeId} {cs : List Value} (h : Blk W O T cs) (hO : O < n) (hb : Below n W W') : Blk W' O T cs := (hb.block O hO).trans h
theorem Blk.keep {W W' : World} {O : Nat} {T : TypeId} {cs : List Value} (h : Blk W O T cs) (hb : Below W.heap.size W W') : Blk W' O T cs := h.below h.lt hb
theorem Blk.grown {W W' : World} {O : Nat} {row : Option Nat} {T : TypeId} {cs : List Value} (h : Blk W O T cs) (hg : W.grownBy W' row) (hne : some O ≠ row) : Blk W' O T cs := (hg.block O h.lt hne).trans h
theorem Blk.alloc {W : World} {O : Nat} {T : TypeId} {cs : List Value} (h : Blk W O T cs) (o : Obj) : Blk (W.alloc o) O T cs := h.keep ((Below.refl _ _).alloc (Nat.le_refl _) _)
theorem Blk.new (W : World) (T : TypeId) (cs : List Value) : Blk (W.alloc (.cells cs.toArray T)) W.heap.size T cs := by
  unfold Blk World.alloc
  simp
theorem Blk.set {W : World} {O j : Nat} {T : TypeId} {cs : List Value} (h : Blk W O T cs) (v : Value) : Blk (W.setCell ⟨O, j, none⟩ v) O T (cs.set j v) := by
  have h' : W.heap[O]? = some (.cells cs.toArray T (0, 0)) := h
  have hlt := h.lt
  have h2 : W.heap[O] = .cells cs.toArray T (0, 0) := by simpa [Array.getElem?_eq_getElem hlt] using h'
  show (W.heap.modify O _)[O]? = _
  rw [Array.getElem?_eq_getElem (by simpa using hlt), Array.getElem_modify_self, h2]
  simp
theorem Blk.other {W : World} {O : Nat} {T : TypeId} {cs : List Value} (h : Blk W O T cs) {p : Addr} (hp : p.block ≠ O) (v : Value) : Blk (W.setCell p v) O T cs := by
  have h' : W.heap[O]? = some (.cells cs.toArray T (0, 0)) := h
  show (W.heap.modify p.block _)[O]? = _
  rw [Array.getElem?_modify, if_neg hp]; exact h'
theorem IsK.setO {k : IntKind} {M : Nat} {w : World} {v : Value} {l : List Nat} (h : IsK k M w v l) {p : Addr} (hne : ∀ b off n c, v = .slice (some ⟨b, off, none⟩) n c → b ≠ p.block) (u : Value) : IsK k M (w.setCell p u) v l := by
  obtain ⟨h1, h2, ⟨rfl, a, c, rfl⟩ | ⟨b, off, c, rfl, h3, h4, h5, h6⟩⟩ := h
  · exact ⟨h1, h2, .inl ⟨rfl, a, c, rfl⟩⟩
  · have hs : (w.setCell p u).heap.size = w.heap.size := by simp [World.setCell]
    refine ⟨h1, h2, .inr ⟨b, off, c, rfl, h3, h4, by omega, fun j hj => ?_⟩⟩
    have := hne _ _ _ _ rfl
    rw [World.cell?_setCell_other _ _ _ _ (by intro e; exact this (by rw [e]))]; exact h6 j hj
end Vt
end Go.Proofs.Ytnjhbidialngmaa
namespace Go.Proofs.Ytnjhbidialngmaa
namespace Vt
def lenRen : Go.Shelf.Ren := ⟨fun | 129 => 56 | n => n, fun | 53 => 23 | 3 => 3 | 4 => 4 | 46 => 89 | 5 => 5 | 9 => 9 | n => n, fun | n => n⟩
theorem lenLays : Go.Proofs.Lays.n129 Try.prog lenRen := {
  mixed := by kernel_rfl
  f129 := Try.func56.trans (congrArg some (by kernel_rfl))
  t3 := Try.underlying3
  a3 := Try.isAgg3
  z3 := Try.sizeOf3
  v3 := Try.zeroValue3
  t4 := Try.underlying4
  a4 := Try.isAgg4
  z4 := Try.sizeOf4
  v4 := Try.zeroValue4
  t5 := Try.underlying5
  a5 := Try.isAgg5
  z5 := Try.sizeOf5
  v5 := Try.zeroValue5
  t9 := Try.underlying9
  a9 := Try.isAgg9
  z9 := Try.sizeOf9
  v9 := Try.zeroValue9
  t46 := Try.underlying89
  a46 := Try.isAgg89
  z46 := Try.sizeOf89
  v46 := Try.zeroValue89
  t53 := Try.underlying23
  a53 := Try.isAgg23
  z53 := Try.sizeOf23
  v53 := Try.zeroValue23 }
theorem len64_is (x : Nat) (w : World) (h : x < 18446744073709551616) :
    Calls Try.prog 56 #[.int .u64 (x : Int)] w fun e w' => e = .returned (.int .i64 ((Lib.bitLen x : Nat) : Int)) ∧ w' = w := Any.bits_Len64 lenLays (x : Int) w (by omega) (by omega)
end Vt
end Go.Proofs.Ytnjhbidialngmaa
namespace Go.Proofs.Ytnjhbidialngmaa
open Go.RowKit
namespace Vt
set_option maxHeartbeats 400000 in
theorem ended_is (n k c : Nat) (w : World) (hk : k ≤ 10) (hc : c < 256) :
    Calls Try.prog 104 #[.int .u64 (n : Int), .int .i64 (k : Int), .int .u8 (c : Int)] w fun e w' => e = .returned (.tuple (if k = 10 ∧ 1 < c then #[.int .u64 0, .int .i64 0, .int .i64 22] else if 1 < k ∧ c = 0 then #[.int .u64 0, .int .i64 0, .int .i64 23] else #[.int .u64 (n : Int), .int .i64 (k : Int), .int .i64 0])) ∧ w' = w := by
  by_cases h1 : k = 10
  · subst h1
    by_cases h2 : 1 < c
    · rw [if_pos ⟨rfl, h2⟩]
      go_enter Try.func104, Try.ntmps104
      go_wp2
      go_ret3
      exact ⟨rfl, rfl⟩
    · rw [if_neg (by omega)]
      by_cases h3 : c = 0
      · subst h3
        rw [if_pos (by omega)]
        go_enter Try.func104, Try.ntmps104
        go_wp2
        go_ret3
        exact ⟨rfl, rfl⟩
      · obtain rfl : c = 1 := by omega
        rw [if_neg (by omega)]
        go_enter Try.func104, Try.ntmps104
        go_wp2
        go_ret3
        exact ⟨rfl, rfl⟩
  · rw [if_neg (by omega)]
    by_cases h2 : 1 < k
    · by_cases h3 : c = 0
      · subst h3
        rw [if_pos (by omega)]
        go_enter Try.func104, Try.ntmps104
        go_wp2
        go_ret3
        exact ⟨rfl, rfl⟩
      · rw [if_neg (by omega)]
        go_enter Try.func104, Try.ntmps104
        go_wp2
        go_ret3
        exact ⟨rfl, rfl⟩
    · rw [if_neg (by omega)]
      go_enter Try.func104, Try.ntmps104
      go_wp2
      go_ret3
      exact ⟨rfl, rfl⟩
/-- the varints of all numbers, one behind the other -/
def enc (l : List Nat) : List Nat := (l.map vrt).flatten
def N64 (l : List Nat) : Prop := ∀ x ∈ l, x < 18446744073709551616
theorem enc_cons (x : Nat) (l : List Nat) : enc (x :: l) = vrt x ++ enc l := by simp [enc]
theorem enc_append (a b : List Nat) : enc (a ++ b) = enc a ++ enc b := by simp [enc]
theorem enc_one (x : Nat) : enc [x] = vrt x := by simp [enc]
theorem enc_succ {l : List Nat} {k : Nat} (h : k < l.length) : enc (l.take (k + 1)) = enc (l.take k) ++ vrt (l.getD k 0) := by
  rw [take_succ_getD h, enc_append, enc_one]
theorem N64.at {l : List Nat} (h : N64 l) (k : Nat) : l.getD k 0 < 18446744073709551616 := by
  rw [List.getD_eq_getElem?_getD]
  cases e : l[k]? with
  | none => simp
  | some x => exact h x (List.mem_of_getElem? e)
theorem enc_len {l : List Nat} (h : N64 l) : (enc l).length ≤ 10 * l.length := by
  induction l with
  | nil => simp [enc]
  | cons x l ih =>
    rw [enc_cons, List.length_append, List.length_cons]
    have := vrt_ten (h x List.mem_cons_self)
    have := ih fun y hy => h y (List.mem_cons_of_mem _ hy)
    omega
theorem N64.take {l : List Nat} (h : N64 l) (k : Nat) : N64 (l.take k) := fun x hx => h x (List.mem_of_mem_take hx)
theorem len64_any (z : Int) (x : Nat) (w : World) (hz : z = (x : Int)) (h : x < 18446744073709551616) :
    Calls Try.prog 56 #[.int .u64 z] w fun e w' => e = .returned (.int .i64 ((Lib.bitLen x : Nat) : Int)) ∧ w' = w := by
  subst hz; exact len64_is x w h
set_option maxRecDepth 100000 in
set_option maxHeartbeats 400000 in
theorem size_row (b off c : Nat) (l : List Nat) (w : World) (hl : N64 l) (hr : RowK .u64 w b off l) (hm : l.length ≤ 140737488355328) :
    Calls Try.prog 53 #[.slice (some ⟨b, off, none⟩) l.length c] w fun e w' => e = .returned (.int .i64 (((enc l).length : Nat) : Int)) ∧ w' = w := by
  have HR := hd hr
  have HL := hd hl
  clear hr hl
  go_enter Try.func53, Try.ntmps53
  go_wp2
  go_loop [3, 8] (fun s i => ∃ k : Nat, k ≤ l.length ∧ i = .int .i64 (k : Int) ∧ s = .int .i64 (((enc (l.take k)).length : Nat) : Int)) (fun _ i => l.length - (intOf i).toNat)
  case atStart => exact ⟨0, by omega, rfl, rfl⟩
  case round =>
    obtain ⟨k, hk, rfl, rfl⟩ := hrel
    have hb := enc_len (HL.out.take k)
    rw [List.length_take] at hb
    by_cases hlt : k < l.length
    · have hc := HR.out k hlt
      have hx := HL.out.at k
      have HE := hd (enc_succ hlt)
      have HS := hd (size_vrt hx)
      have h10 := vrt_ten hx
      have hor : l.getD k 0 ||| 1 < 18446744073709551616 := Nat.or_lt_two_pow (n := 64) hx (by decide)
      have e := u64_or_nat (l.getD k 0) 1 hx (by decide)
      have hbl := bl_le hor
      generalize l.getD k 0 = x at *
      generalize hs : (enc (l.take k)).length = s at *
      have HSS := hd hs
      clear hs
      go_wp2_with fail
      refine Calls.mono (len64_any _ (x ||| 1) w (by first | exact e | (rw [← e]; rfl)) hor) ?_
      rintro e w' ⟨rfl, rfl⟩
      go_wp2_with fail
      go_roundw
      case rel =>
        refine ⟨k + 1, by omega, by go_num, ?_⟩
        rw [HE.out, List.length_append, ← HS.out, HSS.out]
        congr 1
        omega
      case measure => simp [intOf]; omega
    · obtain rfl : k = l.length := by omega
      go_wp2
      go_ret
      exact ⟨rfl, rfl⟩
set_option maxRecDepth 100000 in
set_option maxHeartbeats 400000 in
theorem size_nil (a : Option Addr) (c : Nat) (w : World) :
    Calls Try.prog 53 #[.slice a 0 c] w fun e w' => e = .returned (.int .i64 0) ∧ w' = w := by
  go_enter Try.func53, Try.ntmps53
  go_wp2
  go_loop [3, 8] (fun s i => i = .int .i64 0 ∧ s = .int .i64 0) (fun _ _ => 0)
  case atStart => exact ⟨rfl, rfl⟩
  case round =>
    obtain ⟨rfl, rfl⟩ := hrel
    go_wp2
    go_ret
    exact ⟨rfl, rfl⟩
end Vt
end Go.Proofs.Ytnjhbidialngmaa
