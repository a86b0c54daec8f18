/-
  A REGION THAT DRAWS ITS ORDER, by an invariant, with operations that their guards pass over. No condition beyond those that the theorem bears.
  hint.parts' function value.
  hint.parts; hint.Load: the pointers, and the verdict.
-/
import Derived.Test.YtlddogigbodilaaMbg
import Derived.Test.YtlddogigbodilaaMap
namespace Go.Proofs.Ytlddogigbodilaa
open Go Go.RowKit
theorem skip_good {P : Program} {o : Oper} {a : Act} {w : World} {Q : Exit → Act → World → Prop} {ops : Array Oper} (good : Value → World → Prop) {X : Prop} (hw : Region.wanted o (yielded ops a.tmps) = true)
    (h : ∀ K : Act → World → Prop, (∀ v w', good v w' → K (a.put o.dst v) w') → o.wp P a w K Q) :
    if Region.wanted o (yielded ops a.tmps) then o.wp P a w (fun a' w' => ∃ v, a' = a.put o.dst v ∧ good v w') Q else X := by
  rw [if_pos hw]
  exact h _ (fun v w' hg => ⟨v, rfl, hg⟩)
theorem skip_no {o : Oper} {f : Nat → Option Bool} {A X : Prop} {j : Nat} {b : Bool} (h : o.guard = some (j, !b)) (hf : f j = some b) (hx : X) : if Region.wanted o f then A else X := by
  rw [if_neg]
  · exact hx
  · unfold Region.wanted; rw [h]; simp [hf]
theorem skip_un {o : Oper} {f : Nat → Option Bool} {A X : Prop} {j : Nat} {b : Bool} (h : o.guard = some (j, b)) (hf : f j = none) (hx : X) : if Region.wanted o f then A else X := by
  rw [if_neg]
  · exact hx
  · unfold Region.wanted; rw [h]; simp [hf]
theorem yielded_un {ops : Array Oper} {t : Array Value} {j d : Nat} (hj : dstOf ops j = some d) (hv : t.getD d undef = undef) : yielded ops t j = none := by
  unfold yielded
  unfold dstOf at hj
  rw [hj]
  simp only [Option.bind_some]
  rw [Array.getD_eq_getD_getElem?] at hv
  cases h : t[d]? with
  | none => rfl
  | some v =>
    rw [h] at hv
    simp only [Option.getD_some] at hv
    subst hv
    rfl
/-- region_inv, where an operation may be passed over by its guard: it yields undef then. 'G i v w': what operation i has yielded, v, is good in the world w; it stays so while the world grows ('W', 'stable'); each operation, its forerunners' yields being good, yields something good ('step'). -/
theorem region_skip {P : Program} {id : Nat} {ops : Array Oper} {Q : Exit → Act → World → Prop} {a0 : Act} {w0 : World} (G : Nat → Value → World → Prop) (W : World → Prop)
    (hm : P.follows .mixedOrders = true) (hd : dstsApart ops a0.tmps.size = true) (hah : aftersBound ops = true) (hW0 : W w0.drew)
    (stable : ∀ i v w w', W w → W w' → Below w.heap.size w w' → G i v w → G i v w')
    (step : ∀ i o, ops[i]? = some o → ∀ a w, W w → a.defers = a0.defers → a.tmps.size = a0.tmps.size →
      (∀ k, (∀ j, j < ops.size → dstOf ops j ≠ some k) → a.tmps.getD k undef = a0.tmps.getD k undef) →
      (∀ e ∈ o.after, Region.binds .any e = true → G e.on (slotOf ops a e.on) w) →
      (if Region.wanted o (yielded ops a.tmps) then o.wp P a w (fun a' w' => ∃ v, a' = a.put o.dst v ∧ Below w.heap.size w w' ∧ W w' ∧ G i v w') Q else G i undef w))
    (done : ∀ a w, W w → a.defers = a0.defers → a.tmps.size = a0.tmps.size →
      (∀ k, (∀ j, j < ops.size → dstOf ops j ≠ some k) → a.tmps.getD k undef = a0.tmps.getD k undef) →
      (∀ i, i < ops.size → G i (slotOf ops a i) w) → Q .normal a w) :
    (Code.region id ops true).wp P Q a0 w0 := by
  refine wp_region_any hm ?_
  refine wpAny_inv (fun L a w => L.size = ops.size ∧ W w ∧ a.defers = a0.defers ∧ a.tmps.size = a0.tmps.size ∧
      (∀ k, (∀ j, j < ops.size → dstOf ops j ≠ some k) → a.tmps.getD k undef = a0.tmps.getD k undef) ∧
      (∀ i, i < ops.size → L.getD i false = true → G i (slotOf ops a i) w)) (fun L a w h => h.1) ?_ ?_ _ _ _ _ ?_ ?_
  · rintro L a w i ⟨h1, h2, h3, h4, h5, h6⟩ hi
    obtain ⟨o, ho, hlt, hL, haf⟩ := ready_spec hi
    obtain ⟨d, hdi, hdn, hdj⟩ := dsts_spec hd hlt
    have hod : o.dst = some d := by simpa [dstOf, ho] using hdi
    have hst := step i o ho a w h2 h3 h4 h5 (fun e he hb => h6 e.on (by
      have := haf e he hb
      rcases Nat.lt_or_ge e.on ops.size with h' | h'
      · exact h'
      · rw [Array.getD_eq_getD_getElem?, Array.getElem?_eq_none (by omega)] at this; simp at this) (haf e he hb))
    have fin : ∀ v w', Below w.heap.size w w' → W w' → G i v w' → (L.setIfInBounds i true).size = ops.size ∧ W w' ∧ (a.put o.dst v).defers = a0.defers ∧ (a.put o.dst v).tmps.size = a0.tmps.size ∧
        (∀ k, (∀ j, j < ops.size → dstOf ops j ≠ some k) → (a.put o.dst v).tmps.getD k undef = a0.tmps.getD k undef) ∧
        (∀ j, j < ops.size → (L.setIfInBounds i true).getD j false = true → G j (slotOf ops (a.put o.dst v) j) w') := by
      intro v w' hb hW' hG
      have hda : d < a.tmps.size := by omega
      rw [hod]
      refine ⟨by rw [Array.size_setIfInBounds]; exact h1, hW', by simp only [Act.put]; exact h3, by simp only [Act.put, Array.size_setIfInBounds]; exact h4, ?_, ?_⟩
      · intro k hk
        rw [getD_put _ _ _ _ hda, if_neg (fun e => hk i hlt (by rw [e]; exact hdi))]
        exact h5 k hk
      · intro j hj hLj
        by_cases e : j = i
        · subst e
          unfold slotOf
          rw [hdi, Option.getD_some, getD_put _ _ _ _ hda, if_pos rfl]
          exact hG
        · obtain ⟨dj, hdj1, hdj2, hdj3⟩ := dsts_spec hd hj
          have hne : dj ≠ d := fun e2 => hdj j hj e (by rw [← e2]; exact hdj1)
          unfold slotOf
          rw [hdj1, Option.getD_some, getD_put _ _ _ _ hda, if_neg hne]
          have hLj' : L.getD j false = true := by
            rw [Array.getD_eq_getD_getElem?, Array.getElem?_setIfInBounds_ne (by omega)] at hLj
            rw [Array.getD_eq_getD_getElem?]; exact hLj
          have := h6 j hj hLj'
          unfold slotOf at this
          rw [hdj1, Option.getD_some] at this
          exact stable j _ w w' h2 hW' hb this
    unfold wpOp
    rw [ho]
    split at hst
    · rename_i hw
      simp only [hw, if_true]
      refine .inl (Oper.wp_mono ?_ hst)
      rintro a' w' ⟨v, rfl, hb, hW', hG⟩
      exact fin v w' hb hW' hG
    · rename_i hw
      simp only [hw]
      exact fin undef w (Below.refl _ _) h2 hst
  · rintro L a w ⟨h1, h2, h3, h4, h5, h6⟩ hr
    exact done a w h2 h3 h4 h5 fun i hi => h6 i hi (all_listedB hah h1 hr i hi)
  · refine ⟨by simp, hW0, rfl, rfl, fun _ _ => rfl, fun i hi h => ?_⟩
    rw [Array.getD_eq_getD_getElem?, Array.getElem?_replicate] at h
    simp [hi] at h
  · unfold left
    exact Nat.le_trans (List.countP_le_length) (by simp)
end Go.Proofs.Ytlddogigbodilaa
namespace Go.Proofs.Ytlddogigbodilaa
open Go.RowKit Go.Shelf
namespace Vt
attribute [local go_sem] Oper.semAt_some
theorem info_ptr : (Try.prog.info? 34).map (fun i => (i.zero, i.size, i.bytes)) = some (some (.agg #[.int .u64 0, .int .i64 0, .int .i64 0, .int .i64 0, .string ⟨#[]⟩]), 5, 48) := by kernel_rfl
abbrev JPt := JR 34 5
def pvl (p : Ptr) : List Value := [.int .u64 (p.lsn : Int), .int .i64 p.kind, .int .i64 p.at_, .int .i64 p.len, .string p.key]
theorem pvl_one (p : Ptr) : ∀ u ∈ pvl p, u.oneCell' = true := by
  intro u hu
  simp only [pvl, List.mem_cons, List.mem_nil_iff, or_false] at hu
  rcases hu with rfl | rfl | rfl | rfl | rfl <;> rfl
def evl (e : Edg) : List Value := [.int .i64 e.count, .int .i64 e.bytes, .int .i64 e.frames, .int .u32 (e.sum : Int)]
/-- what is read so far, in memory: the boxes from N on -/
structure PS (N base : Nat) (W : World) (s : St) : Prop where
  row : ∃ vp, Boxed W N 68 vp ∧ JPt W base vp (s.ps.map pvl)
  e : Blk W (N + 1) 39 (evl s.e)
  ended : Boxed W (N + 2) 4 (.bool s.ended)
  next : Boxed W (N + 3) 3 (.int .i64 s.next)
theorem box_o {W : World} {B B' j : Nat} {t : TypeId} {v : Value} (h : Boxed W B t v) (hne : B' ≠ B) {u : Value} : Boxed (W.setCell ⟨B', j, none⟩ u) B t v := Blk.other (cs := [v]) h (p := ⟨B', j, none⟩) hne u
theorem box_four {W : World} {B A : Nat} {t : TypeId} {v a b c d : Value} (h : Boxed W B t v) (h1 : A ≠ B) : Boxed ((((W.setCell ⟨A, 0, none⟩ a).setCell ⟨A, 1, none⟩ b).setCell ⟨A, 2, none⟩ c).setCell ⟨A, 3, none⟩ d) B t v := box_o (box_o (box_o (box_o h h1) h1) h1) h1
theorem ps_grown {N base : Nat} {W WW w2 : World} {vp : Value} {L : List (List Value)} {e4 : List Value} {b5 : Bool} {z6 : Int} (h1 : Boxed W N 68 vp) (h2 : JPt W base vp L) (h3 : Blk W (N + 1) 39 e4) (h4 : Boxed W (N + 2) 4 (.bool b5)) (h5 : Boxed W (N + 3) 3 (.int .i64 z6))
    (hb : Below W.heap.size W WW) (hg : WW.grownBy w2 vp.ownBlock) :
    Boxed w2 N 68 vp ∧ Blk w2 (N + 1) 39 e4 ∧ Boxed w2 (N + 2) 4 (.bool b5) ∧ Boxed w2 (N + 3) 3 (.int .i64 z6) ∧ (∀ n w0, n ≤ base → n ≤ W.heap.size → Below n w0 W → Below n w0 w2) ∧ (∀ (p : Addr) (u : Value), W.heap.size ≤ p.block → WW.cell? p = some u → w2.cell? p = some u) := by
  have hj := h2.keepAll hb
  have l1 := h1.lt
  have l5 := h5.lt
  have g1 : Boxed WW N 68 vp := boxed_below h1 l1 hb
  have g3 : Blk WW (N + 1) 39 e4 := h3.keep hb
  have g4 : Boxed WW (N + 2) 4 (.bool b5) := boxed_below h4 (by omega) hb
  have g5 : Boxed WW (N + 3) 3 (.int .i64 z6) := boxed_below h5 l5 hb
  refine ⟨g1.kept hg (hj.not_box g1 (by decide)), g3.grown hg (hj.not_blk g3 (by decide)), g4.kept hg (hj.not_box g4 (by decide)), g5.kept hg (hj.not_box g5 (by decide)), fun n w0 hn hn2 h => ?_, fun p u hp hu => hg.cell hu (fun e => ?_)⟩
  · exact (h.trans (hb.mono hn2)).grown hg (Nat.le_trans hn2 hb.size) (fun k hk => Nat.le_trans hn (hj.blk_ge k hk))
  · have := h2.blk_lt p.block e.symm
    omega
set_option maxRecDepth 100000 in
set_option maxHeartbeats 2000000 in
theorem parts1_ended (f : Fr) (at_ len : Int) (N base : Nat) (W : World) (s : St) (h : PS N base W s) (he : s.ended = true) :
    Calls Try.prog 79 #[.agg (lfv f at_ len), .pointer (some ⟨N + 2, 0, none⟩), .pointer (some ⟨N + 1, 0, none⟩), .pointer (some ⟨N + 3, 0, none⟩), .pointer (some ⟨N, 0, none⟩)] W fun e W' => e = .returned (.bool false) ∧ Below W.heap.size W W' := by
  obtain ⟨k, ⟨rl, rk, rkey, rval⟩, ⟨pl, pk, pa, pn, pkey⟩, ⟨ec, eb, ef, es⟩⟩ := f
  have hen := h.ended
  rw [he] at hen
  have q1 := hen.cell
  have q2 := hen.lt
  have n1 : ¬ N + 2 = W.heap.size := by omega
  have n2 : ¬ W.heap.size = N + 2 := by omega
  clear h he hen
  simp only [lfv]
  go_enter Try.func79, Try.ntmps79
  go_wp2_with fail
  go_ret
  exact ⟨rfl, below_two _ _ _⟩
set_option maxRecDepth 100000 in
set_option maxHeartbeats 2000000 in
theorem parts1_foot (f : Fr) (at_ len : Int) (N base : Nat) (W : World) (s : St) (h : PS N base W s) (he : s.ended = false) (hk : f.kind = 4) :
    Calls Try.prog 79 #[.agg (lfv f at_ len), .pointer (some ⟨N + 2, 0, none⟩), .pointer (some ⟨N + 1, 0, none⟩), .pointer (some ⟨N + 3, 0, none⟩), .pointer (some ⟨N, 0, none⟩)] W fun e W' => e = .returned (.bool true) ∧ PS N base W' ⟨s.ps, f.e, true, s.next⟩ ∧ (∀ n w0, n ≤ N → n ≤ base → Below n w0 W → Below n w0 W') := by
  obtain ⟨k, ⟨rl, rk, rkey, rval⟩, ⟨pl, pk, pa, pn, pkey⟩, ⟨ec, eb, ef, es⟩⟩ := f
  obtain ⟨s1, ⟨s2, s3, s4, s5⟩, s6, s7⟩ := s
  simp only at hk he
  subst hk he
  obtain ⟨⟨vp, h1, h2⟩, h3, h4, h5⟩ := h
  simp only [evl] at h3
  have q1 := h4.cell
  have q1f := h4.frozen
  have q2 := h4.lt
  have q3 := h5.lt
  have n0a : ¬ N = W.heap.size := by omega
  have n0b : ¬ W.heap.size = N := by omega
  have n0c : ¬ N = W.heap.size + 1 := by omega
  have n0d : ¬ W.heap.size + 1 = N := by omega
  have n0e : N < W.heap.size := by omega
  have n1a : ¬ N + 1 = W.heap.size := by omega
  have n1b : ¬ W.heap.size = N + 1 := by omega
  have n1c : ¬ N + 1 = W.heap.size + 1 := by omega
  have n1d : ¬ W.heap.size + 1 = N + 1 := by omega
  have n1e : N + 1 < W.heap.size := by omega
  have n2a : ¬ N + 2 = W.heap.size := by omega
  have n2b : ¬ W.heap.size = N + 2 := by omega
  have n2c : ¬ N + 2 = W.heap.size + 1 := by omega
  have n2d : ¬ W.heap.size + 1 = N + 2 := by omega
  have n2e : N + 2 < W.heap.size := by omega
  have n3a : ¬ N + 3 = W.heap.size := by omega
  have n3b : ¬ W.heap.size = N + 3 := by omega
  have n3c : ¬ N + 3 = W.heap.size + 1 := by omega
  have n3d : ¬ W.heap.size + 1 = N + 3 := by omega
  have n3e : N + 3 < W.heap.size := by omega
  have c0 := h3.cell 0 _ rfl
  have c1 := h3.cell 1 _ rfl
  have c2 := h3.cell 2 _ rfl
  have c3 := h3.cell 3 _ rfl
  have f0 := h3.frozen 0
  have f1 := h3.frozen 1
  have f2 := h3.frozen 2
  have f3 := h3.frozen 3
  have H1 := hd h1
  have H2 := hd h2
  have H3 := hd h3
  have H4 := hd h4
  have H5 := hd h5
  clear h1 h2 h3 h4 h5
  simp only [lfv]
  go_enter Try.func79, Try.ntmps79
  go_wp2_with fail
  go_ret
  refine ⟨rfl, ⟨⟨vp, ?_, ?_⟩, ?_, ?_, ?_⟩, fun n w0 hn _ h => ?_⟩
  · exact ((box_o (box_four H1.out (by omega)) (by omega)).alloc _).alloc _
  · have nn := H2.out.not_blk H3.out (by decide)
    have nb := H2.out.not_box H4.out (by decide)
    exact (((((((H2.out.setO (p := ⟨N + 1, 0, none⟩) (fun g hg e => nn (by rw [hg, e])) _).setO (p := ⟨N + 1, 1, none⟩) (fun g hg e => nn (by rw [hg, e])) _).setO (p := ⟨N + 1, 2, none⟩) (fun g hg e => nn (by rw [hg, e])) _).setO (p := ⟨N + 1, 3, none⟩) (fun g hg e => nn (by rw [hg, e])) _).setO (p := ⟨N + 2, 0, none⟩) (fun g hg e => nb (by rw [hg, e])) _).alloc _).alloc _)
  · exact ((((((H3.out.set (j := 0) _).set (j := 1) _).set (j := 2) _).set (j := 3) _).other (p := ⟨N + 2, 0, none⟩) (by show N + 2 ≠ N + 1; omega) _).alloc _).alloc _
  · exact (((box_four H4.out (by omega)).set _).alloc _).alloc _
  · exact ((box_o (box_four H5.out (by omega)) (by omega)).alloc _).alloc _
  · refine Below.alloc (Below.alloc ?_ ?_ _) ?_ _
    · exact ((((h.setCell (p := ⟨N + 1, 0, none⟩) (by show n ≤ N + 1; omega) _).setCell (p := ⟨N + 1, 1, none⟩) (by show n ≤ N + 1; omega) _).setCell (p := ⟨N + 1, 2, none⟩) (by show n ≤ N + 1; omega) _).setCell (p := ⟨N + 1, 3, none⟩) (by show n ≤ N + 1; omega) _).setCell (p := ⟨N + 2, 0, none⟩) (by show n ≤ N + 2; omega) _
    · simp only [World.setCell, Array.size_modify]; omega
    · simp only [World.size_alloc, World.setCell, Array.size_modify]; omega
set_option maxRecDepth 100000 in
set_option maxHeartbeats 2000000 in
theorem parts1_hint (f : Fr) (at_ len : Int) (N base : Nat) (W : World) (s : St) (h : PS N base W s) (he : s.ended = false) (hk : f.kind = 3) (hn : f.p.at_ = s.next) (hb : 0 ≤ s.next + f.p.len ∧ s.next + f.p.len ≤ 1000000000000) (hl : s.ps.length ≤ 1000000000) (hbase : base ≤ W.heap.size) :
    Calls Try.prog 79 #[.agg (lfv f at_ len), .pointer (some ⟨N + 2, 0, none⟩), .pointer (some ⟨N + 1, 0, none⟩), .pointer (some ⟨N + 3, 0, none⟩), .pointer (some ⟨N, 0, none⟩)] W fun e W' => e = .returned (.bool true) ∧ PS N base W' ⟨s.ps ++ [f.p], s.e, s.ended, s.next + f.p.len⟩ ∧ (∀ n w0, n ≤ N → n ≤ base → Below n w0 W → Below n w0 W') := by
  obtain ⟨k, ⟨rl, rk, rkey, rval⟩, ⟨pl, pk, pa, pn, pkey⟩, ⟨ec, eb, ef, es⟩⟩ := f
  obtain ⟨s1, ⟨s2, s3, s4, s5⟩, s6, s7⟩ := s
  simp only at hk he hn hb hl
  subst hk he hn
  obtain ⟨⟨vp, h1, h2⟩, h3, h4, h5⟩ := h
  have q1 := h4.cell
  have q2 := h4.lt
  have q3 := h5.lt
  have q4 := h5.cell
  have q4f := h5.frozen
  have q5 := h1.cell
  have q5f := h1.frozen
  have n0a : ¬ N = W.heap.size := by omega
  have n0b : ¬ W.heap.size = N := by omega
  have n0c : ¬ N = W.heap.size + 1 := by omega
  have n0d : ¬ W.heap.size + 1 = N := by omega
  have n0e : N < W.heap.size := by omega
  have n1a : ¬ N + 1 = W.heap.size := by omega
  have n1b : ¬ W.heap.size = N + 1 := by omega
  have n1c : ¬ N + 1 = W.heap.size + 1 := by omega
  have n1d : ¬ W.heap.size + 1 = N + 1 := by omega
  have n1e : N + 1 < W.heap.size := by omega
  have n2a : ¬ N + 2 = W.heap.size := by omega
  have n2b : ¬ W.heap.size = N + 2 := by omega
  have n2c : ¬ N + 2 = W.heap.size + 1 := by omega
  have n2d : ¬ W.heap.size + 1 = N + 2 := by omega
  have n2e : N + 2 < W.heap.size := by omega
  have n3a : ¬ N + 3 = W.heap.size := by omega
  have n3b : ¬ W.heap.size = N + 3 := by omega
  have n3c : ¬ N + 3 = W.heap.size + 1 := by omega
  have n3d : ¬ W.heap.size + 1 = N + 3 := by omega
  have n3e : N + 3 < W.heap.size := by omega
  have H1 := hd h1
  have H2 := hd h2
  have H3 := hd h3
  have H4 := hd h4
  have H5 := hd h5
  clear h1 h2 h3 h4 h5
  simp only [lfv]
  go_enter Try.func79, Try.ntmps79
  have hpl := H2.out.shape
  have HWW : Hid (∀ A B C : Obj, Below W.heap.size W (((W.alloc A).alloc B).alloc C)) := fun A B C => (below_two W A B).alloc (by simp; omega) _
  go_wp2_with (at_builtin; refine wpList_append_jr Try.underlying68 info_ptr rfl (by decide) _ rfl _ _ rfl base vp (s1.map pvl) (W.heap.size + 1 + 1) 1 (pvl ⟨pl, pk, pa, pn, pkey⟩) rfl rfl (((H2.out.alloc _).alloc _).alloc _) rfl (pvl_one ⟨pl, pk, pa, pn, pkey⟩) (fun j u hu => cell_lit _ _ (pvl ⟨pl, pk, pa, pn, pkey⟩) j u _ (by simp) hu) (s1.length + 1) (by rw [List.length_map]) (by omega) (by unfold maxLen; omega) (by simp; omega) ?_; intro g2 c2 w2 hj2 hg2 hw2; have hz := ps_grown H1.out H2.out H3.out H4.out H5.out (HWW.out _ _ _) hg2; have z1 := hz.1.cell; have z2 := hz.1.frozen; have z3 := hz.2.2.2.1.cell; have z4 := hz.2.2.2.1.frozen; have z5 := hz.2.2.2.2.2 ⟨W.heap.size + 1, 3, none⟩ (.int .i64 pn) (by simp) (by simp [go_sem]); have HZ := hd hz; have HJ2 := hd hj2; have HG2 := hd hw2; clear hj2 hg2 hw2 hz)
  go_ret
  obtain ⟨z1, z2, z3, z4, z5, _⟩ := HZ.out
  have hj := HJ2.out
  have n1 := hj.not_box z1 (by decide)
  have n4 := hj.not_box z4 (by decide)
  refine ⟨rfl, ⟨⟨.slice (some ⟨g2, 0, none⟩) (s1.length + 1) c2, box_o (z1.set _) (by omega), ?_⟩, (z2.other (p := ⟨N, 0, none⟩) (by show N ≠ N + 1; omega) _).other (p := ⟨N + 3, 0, none⟩) (by show N + 3 ≠ N + 1; omega) _, box_o (box_o z3 (by omega)) (by omega), (box_o z4 (by omega)).set _⟩, fun n w0 hn hn2 h => ?_⟩
  · have e1 : (s1 ++ [(⟨pl, pk, pa, pn, pkey⟩ : Ptr)]).map pvl = s1.map pvl ++ [pvl ⟨pl, pk, pa, pn, pkey⟩] := by simp
    rw [e1]
    exact (hj.setO (p := ⟨N, 0, none⟩) (fun g hg e => n1 (by rw [hg, e])) _).setO (p := ⟨N + 3, 0, none⟩) (fun g hg e => n4 (by rw [hg, e])) _
  · exact ((z5 n w0 hn2 (by omega) h).setCell (p := ⟨N, 0, none⟩) hn _).setCell (p := ⟨N + 3, 0, none⟩) (by show n ≤ N + 3; omega) _
set_option maxRecDepth 100000 in
set_option maxHeartbeats 2000000 in
theorem parts1_no (f : Fr) (at_ len : Int) (N base : Nat) (W : World) (s : St) (h : PS N base W s) (he : s.ended = false) (hk : f.kind ≠ 4) (hn : ¬ (f.kind = 3 ∧ f.p.at_ = s.next)) :
    Calls Try.prog 79 #[.agg (lfv f at_ len), .pointer (some ⟨N + 2, 0, none⟩), .pointer (some ⟨N + 1, 0, none⟩), .pointer (some ⟨N + 3, 0, none⟩), .pointer (some ⟨N, 0, none⟩)] W fun e W' => e = .returned (.bool false) ∧ Below W.heap.size W W' := by
  obtain ⟨k, ⟨rl, rk, rkey, rval⟩, ⟨pl, pk, pa, pn, pkey⟩, ⟨ec, eb, ef, es⟩⟩ := f
  obtain ⟨s1, ⟨s2, s3, s4, s5⟩, s6, s7⟩ := s
  simp only at hk he hn
  subst he
  obtain ⟨_, _, h4, h5⟩ := h
  have q1 := h4.cell
  have q2 := h4.lt
  have q3 := h5.lt
  have q4 := h5.cell
  simp only at q1 q4
  have n1 : ¬ N + 2 = W.heap.size := by omega
  have n2 : ¬ W.heap.size = N + 2 := by omega
  have n3 : ¬ N + 3 = W.heap.size := by omega
  have n4 : ¬ W.heap.size = N + 3 := by omega
  have n5 : N + 2 < W.heap.size := by omega
  have e4 : (k == 4) = false := by simp [hk]
  by_cases h3 : k = 3
  · subst h3
    have hna : ¬ pa = s7 := fun e => hn ⟨rfl, e⟩
    have e5 : (pa == s7) = false := by simp [hna]
    clear hk hn h4 h5 hna e4
    simp only [lfv]
    go_enter Try.func79, Try.ntmps79
    go_wp2_with fail
    go_ret
    exact ⟨rfl, below_two _ _ _⟩
  · have e3 : (k == 3) = false := by simp [h3]
    clear hk hn h4 h5 h3
    simp only [lfv]
    go_enter Try.func79, Try.ntmps79
    go_wp2_with fail
    go_ret
    exact ⟨rfl, below_two _ _ _⟩
theorem PS.below {N base : Nat} {W W' : World} {s : St} (h : PS N base W s) (hb : Below W.heap.size W W') : PS N base W' s := by
  obtain ⟨⟨vp, h1, h2⟩, h3, h4, h5⟩ := h
  exact ⟨⟨vp, boxed_below h1 h1.lt hb, h2.keepAll hb⟩, h3.keep hb, boxed_below h4 h4.lt hb, boxed_below h5 h5.lt hb⟩
/-- between two frames -/
def PtJ (N : Nat) (w : World) (l : List Nat) (pre : List Lc) (W : World) : Prop :=
  ∃ s, sts (some st0) pre = some s ∧ PS N (N + 4) W s ∧ Below w.heap.size w W ∧ N + 4 ≤ W.heap.size ∧ pre <+: locs 0 l ∧ (s.ps.length : Int) ≤ s.next
theorem PtJ.below {N : Nat} {w : World} {l : List Nat} {pre : List Lc} {W W' : World} (h : PtJ N w l pre W) (hb : Below W.heap.size W W') (hN : w.heap.size ≤ N) : PtJ N w l pre W' := by
  obtain ⟨s, h1, h2, h3, h4, h5⟩ := h
  exact ⟨s, h1, h2.below hb, h3.trans (hb.mono (by omega)), Nat.le_trans h4 hb.size, h5⟩
theorem parts1_take (N : Nat) (w : World) (hN : w.heap.size ≤ N) (l : List Nat) (hb : Byt l) (pre : List Lc) (x : Lc) (W : World) (h : PtJ N w l pre W) (hp : pre ++ [x] <+: locs 0 l) :
    Calls Try.prog 79 (#[.agg (lfv x.2.2 (x.1 : Int) (x.2.1 : Int))] ++ #[.pointer (some ⟨N + 2, 0, none⟩), .pointer (some ⟨N + 1, 0, none⟩), .pointer (some ⟨N + 3, 0, none⟩), .pointer (some ⟨N, 0, none⟩)]) W fun e W' => (e = .returned (.bool true) ∧ PtJ N w l (pre ++ [x]) W') ∨ (e = .returned (.bool false) ∧ sts (some st0) (pre ++ [x]) = none ∧ (∃ s, PS N (N + 4) W' s) ∧ Below w.heap.size w W' ∧ N + 4 ≤ W'.heap.size) := by
  obtain ⟨s, h1, h2, h3, h4, h5, h6⟩ := h
  have hx : x ∈ locs 0 l := hp.subset (by simp)
  obtain ⟨_, _, _, _, hrf, hwf⟩ := locs_mem hb 0 x hx
  have hst : sts (some st0) (pre ++ [x]) = stp s x.2.2 := by rw [sts_snoc, h1]; rfl
  rw [hst]
  cases he : s.ended with
  | true =>
    refine (parts1_ended x.2.2 _ _ N (N + 4) W s h2 he).mono ?_
    rintro e W' ⟨rfl, hb'⟩
    exact .inr ⟨rfl, by unfold stp; rw [if_pos he], ⟨s, h2.below hb'⟩, h3.trans (hb'.mono (by omega)), Nat.le_trans h4 hb'.size⟩
  | false =>
    by_cases hk : x.2.2.kind = 4
    · refine (parts1_foot x.2.2 _ _ N (N + 4) W s h2 he hk).mono ?_
      rintro e W' ⟨rfl, g1, g2⟩
      refine .inl ⟨rfl, _, by rw [hst]; unfold stp; rw [if_neg (by simp [he]), if_pos hk], g1, g2 _ w hN (by omega) h3, ?_, hp, h6⟩
      have := g1.next.lt
      omega
    · by_cases hq : x.2.2.kind = 3 ∧ x.2.2.p.at_ = s.next
      · have hrp : rfP x.2.2 = 0 := by
          have := hrf
          unfold rf at this
          rw [if_neg (by omega), if_pos hq.1] at this
          exact this
        obtain ⟨_, _, _, ⟨p1, p2⟩, ⟨p3, p4⟩, p5, _⟩ := rfP_ok hrp
        refine (parts1_hint x.2.2 _ _ N (N + 4) W s h2 he hq.1 hq.2 (by rw [← hq.2]; omega) (by omega) h4).mono ?_
        rintro e W' ⟨rfl, g1, g2⟩
        refine .inl ⟨rfl, _, by rw [hst]; unfold stp; rw [if_neg (by simp [he]), if_neg hk, if_pos hq], g1, g2 _ w hN (by omega) h3, ?_, hp, by simp only [List.length_append, List.length_singleton]; omega⟩
        have := g1.next.lt
        omega
      · refine (parts1_no x.2.2 _ _ N (N + 4) W s h2 he hk hq).mono ?_
        rintro e W' ⟨rfl, hb'⟩
        exact .inr ⟨rfl, by unfold stp; rw [if_neg (by simp [he]), if_neg hk, if_neg hq], ⟨s, h2.below hb'⟩, h3.trans (hb'.mono (by omega)), Nat.le_trans h4 hb'.size⟩
end Vt
end Go.Proofs.Ytlddogigbodilaa
namespace Go.Proofs.Ytlddogigbodilaa
open Go.RowKit Go.Shelf
namespace Vt
attribute [local go_sem] Oper.semAt_some
/-- a fingerprint's cells, of any numbers -/
def prl (n k : Int) (s : Nat) : Array Value := #[.int .i64 n, .int .i64 k, .int .u32 (s : Int)]
theorem results_mid3 {P : Program} {fn : Func} {p q r : Tmp} {ty : TypeId} (h : fn.results = #[.tmp p, .cell q ty, .tmp r]) (tmps : Array Value) (w : World) (g : Nat) (t : TypeId) (cs : Array Value) (fr : Nat × Nat) (d : TypeDesc)
    (hp : tmps.getD q undef = .pointer (some ⟨g, 0, none⟩)) (hg : w.heap[g]? = some (.cells cs t fr))
    (hu : P.underlying ty = some d) (hd : (match d with | .struct _ | .array _ _ => true | _ => false) = true) (hi : (P.info? ty).map (·.size) = some cs.size) :
    (results fn tmps).run P w = .ok (.tuple #[tmps.getD p undef, .agg cs, tmps.getD r undef]) w := by
  have hp' : tmps[q]?.getD undef = .pointer (some ⟨g, 0, none⟩) := by simpa using hp
  simp [results, h, hp', asAddr, run_loadVar_row w g t ty cs fr d hg hu hd hi]
/-- what parts tells -/
def ptsP (o : Option St) (n : Nat) (e : Ending) (w' : World) : Prop := match o with
  | some s => ∃ u, e = .returned (.tuple #[u, .agg (prl s.e.bytes s.e.frames s.e.sum), .bool true]) ∧ JPt w' n u (s.ps.map pvl)
  | none => e = .returned (.tuple #[.slice none 0 0, .agg (prl 0 0 0), .bool false])
set_option maxRecDepth 100000 in
set_option maxHeartbeats 2000000 in
theorem parts_is (v : Value) (l : List Nat) (w : World) (hI : IsB w v l) :
    Calls Try.prog 54 #[v] w fun e w' => ptsP (ldS l) w.heap.size e w' ∧ Below w.heap.size w w' := by
  obtain ⟨a, c, rfl⟩ := hI.shape
  have hbl := hI.1
  have HI := hd hI
  clear hI
  obtain ⟨wA, hwA⟩ : ∃ wA, wA = w.alloc (.cells #[.int .i64 0, .int .i64 0, .int .u32 0] 37) := ⟨_, rfl⟩
  have hsA : wA.heap.size = w.heap.size + 1 := by rw [hwA]; simp
  have hbA : Below w.heap.size w wA := by rw [hwA]; exact (Below.refl _ _).alloc (Nat.le_refl _) _
  have BP := hd (show Blk wA w.heap.size 37 [.int .i64 0, .int .i64 0, .int .u32 0] by rw [hwA]; exact Blk.new w 37 _)
  have HT := hd (through_is (.slice a l.length c) l ((((wA.alloc (.cells #[.slice none 0 0] 68)).alloc (.cells #[.int .i64 0, .int .i64 0, .int .i64 0, .int .u32 0] 39)).alloc (.cells #[.bool false] 4)).alloc (.cells #[.int .i64 0] 3)) 79 #[.pointer (some ⟨wA.heap.size + 2, 0, none⟩), .pointer (some ⟨wA.heap.size + 1, 0, none⟩), .pointer (some ⟨wA.heap.size + 3, 0, none⟩), .pointer (some ⟨wA.heap.size, 0, none⟩)] (PtJ wA.heap.size wA l) (fun pre W => sts (some st0) pre = none ∧ (∃ s, PS wA.heap.size (wA.heap.size + 4) W s) ∧ Below wA.heap.size wA W ∧ wA.heap.size + 4 ≤ W.heap.size) hbl
      (fun pre W W' h hb => h.below hb (Nat.le_refl _)) (fun pre W h => by obtain ⟨_, _, _, h3, _⟩ := h; exact (HI.out.below hbA).below h3) (enters_of Try.func79 (by kernel_rfl) rfl)
      (fun pre x W h hp => (parts1_take wA.heap.size wA (Nat.le_refl _) l hbl pre x W h hp))
      ⟨st0, rfl, ⟨⟨_, (((Boxed.new wA 68 _).alloc _).alloc _).alloc _, jr_nil _ _⟩, ?e1, ?e2, ?e3⟩, ?e4, by simp, by simp, by simp [st0]⟩)
  case e1 =>
    have := Blk.new (wA.alloc (.cells #[.slice none 0 0] 68)) 39 [.int .i64 0, .int .i64 0, .int .i64 0, .int .u32 0]
    rw [World.size_alloc] at this
    exact (this.alloc _).alloc _
  case e2 =>
    have := Boxed.new ((wA.alloc (.cells #[.slice none 0 0] 68)).alloc (.cells #[.int .i64 0, .int .i64 0, .int .i64 0, .int .u32 0] 39)) 4 (.bool false)
    rw [World.size_alloc, World.size_alloc] at this
    exact this.alloc _
  case e3 =>
    have := Boxed.new (((wA.alloc (.cells #[.slice none 0 0] 68)).alloc (.cells #[.int .i64 0, .int .i64 0, .int .i64 0, .int .u32 0] 39)).alloc (.cells #[.bool false] 4)) 3 (.int .i64 0)
    rw [World.size_alloc, World.size_alloc, World.size_alloc] at this
    exact this
  case e4 => exact below_four _ _ _ _ _
  have HBA := hd hbA
  rw [hsA] at HT
  have HWA := hd hwA
  go_enter Try.func54, Try.ntmps54
  go_wp2_with fail
  rw [← HWA.out]
  refine Calls.mono HT.out ?_
  clear HT
  intro e w1 hcase
  obtain ⟨b, s, rfl, hps, hb1, hs1, hfact⟩ : ∃ b s, e = .returned (.bool b) ∧ PS (w.heap.size + 1) (w.heap.size + 1 + 4) w1 s ∧ Below (w.heap.size + 1) wA w1 ∧ w.heap.size + 1 + 4 ≤ w1.heap.size ∧ ((b = true ∧ good s ∧ ldS l = some s) ∨ (¬ (b = true ∧ good s) ∧ ldS l = none)) := by
    rcases hcase with ⟨rfl, hcl, s, hss, hps, hb1, hs1, hpr, hln⟩ | ⟨rfl, ⟨hncl, pre, s, _, hps, hb, hs, _⟩ | ⟨pre, hpp, hnn, ⟨s, hps⟩, hb, hs⟩⟩
    · refine ⟨true, s, rfl, hps, hsA ▸ hb1, hs1, ?_⟩
      unfold ldS
      rw [if_pos hcl, hss]
      by_cases hg : good s
      · exact .inl ⟨rfl, hg, by simp [hg]⟩
      · exact .inr ⟨fun h => hg h.2, by simp [hg]⟩
    · exact ⟨false, s, rfl, hps, hsA ▸ hb, hs, .inr ⟨fun h => (by cases h.1), by unfold ldS; rw [if_neg hncl]⟩⟩
    · refine ⟨false, s, rfl, hps, hb, hs, .inr ⟨fun h => (by cases h.1), ?_⟩⟩
      unfold ldS
      rw [sts_pre hnn hpp]
      split <;> rfl
  have HFA := hd hfact
  have HB1 := hd (HBA.out.trans (hb1.mono (by omega)))
  have BP1 : Hid (Blk w1 w.heap.size 37 [.int .i64 0, .int .i64 0, .int .u32 0]) := (hb1.block w.heap.size (by omega)).trans BP.out
  clear hcase hfact hb1 BP HWA hwA hsA hbA
  obtain ⟨sp, ⟨ec, eb, ef, es⟩, en_, nx_⟩ := s
  obtain ⟨⟨vp, h1, h2⟩, h3, h4, h5⟩ := hps
  simp only [evl] at h3
  simp only at h1 h2 h4 h5
  obtain ⟨av, cv, rfl, hcv⟩ := h2.shape
  rw [List.length_map] at h1 h2 hcv
  have q1 : w1.cell? ⟨w.heap.size + 1, 0, none⟩ = some (.slice av sp.length cv) := h1.cell
  have q4 : w1.cell? ⟨w.heap.size + 1 + 1 + 1, 0, none⟩ = some (.bool en_) := h4.cell
  have q5 : w1.cell? ⟨w.heap.size + 1 + 1 + 1 + 1, 0, none⟩ = some (.int .i64 nx_) := h5.cell
  have c0 := h3.cell 0 _ rfl
  have c1 := h3.cell 1 _ rfl
  have c2 := h3.cell 2 _ rfl
  have c3 := h3.cell 3 _ rfl
  have z0 := BP1.out.cell 0 _ rfl
  have z1 := BP1.out.cell 1 _ rfl
  have z2 := BP1.out.cell 2 _ rfl
  have y0 := BP1.out.frozen 0
  have y1 := BP1.out.frozen 1
  have y2 := BP1.out.frozen 2
  have n0a : ¬ w.heap.size = w1.heap.size := by omega
  have n0b : ¬ w1.heap.size = w.heap.size := by omega
  have n0c : w.heap.size < w1.heap.size := by omega
  have n1a : ¬ w.heap.size + 1 = w1.heap.size := by omega
  have n1b : ¬ w1.heap.size = w.heap.size + 1 := by omega
  have n1c : w.heap.size + 1 < w1.heap.size := by omega
  have n2a : ¬ w.heap.size + 1 + 1 = w1.heap.size := by omega
  have n2b : ¬ w1.heap.size = w.heap.size + 1 + 1 := by omega
  have n2c : w.heap.size + 1 + 1 < w1.heap.size := by omega
  have n3a : ¬ w.heap.size + 1 + 1 + 1 = w1.heap.size := by omega
  have n3b : ¬ w1.heap.size = w.heap.size + 1 + 1 + 1 := by omega
  have n3c : w.heap.size + 1 + 1 + 1 < w1.heap.size := by omega
  have n4a : ¬ w.heap.size + 1 + 1 + 1 + 1 = w1.heap.size := by omega
  have n4b : ¬ w1.heap.size = w.heap.size + 1 + 1 + 1 + 1 := by omega
  have n4c : w.heap.size + 1 + 1 + 1 + 1 < w1.heap.size := by omega
  have H2 := hd h2
  clear h1 h2 h3 h4 h5
  rcases HFA.out with ⟨rfl, ⟨g1, g2, g3, g4⟩, hld⟩ | ⟨hnn, hld⟩
  · have HL := hd hld
    simp only at g1 g2 g3 g4
    subst g1 g2 g3 g4
    clear HFA hld
    go_wp2_with fail
    go_region_with fail
    all_goals
      go_wp2_with fail
      refine bodyPost_ret (results_mid3 rfl _ _ w.heap.size 37 _ (0, 0) _ rfl ((((BP1.out.set (j := 0) (.int .i64 eb)).set (j := 1) (.int .i64 (sp.length : Int))).set (j := 2) (.int .u32 (es : Int))).alloc _) Try.underlying37 rfl (by kernel_rfl)) rfl ?_
      have nb := H2.out.not_blk BP1.out (by decide)
      refine ⟨?_, Below.drew (Below.alloc (((HB1.out.setCell (p := ⟨w.heap.size, 0, none⟩) (Nat.le_refl _) _).setCell (p := ⟨w.heap.size, 1, none⟩) (Nat.le_refl _) _).setCell (p := ⟨w.heap.size, 2, none⟩) (Nat.le_refl _) _) (by simp only [World.setCell, Array.size_modify]; omega) _)⟩
      rw [HL.out]
      refine ⟨_, rfl, ?_⟩
      exact JR.drew (((((H2.out.setO (p := ⟨w.heap.size, 0, none⟩) (fun g hg e => nb (by rw [hg, e])) _).setO (p := ⟨w.heap.size, 1, none⟩) (fun g hg e => nb (by rw [hg, e])) _).setO (p := ⟨w.heap.size, 2, none⟩) (fun g hg e => nb (by rw [hg, e])) _).alloc _).lower (by omega))
  · have HL := hd hld
    have HNN := hd hnn
    clear HFA hld hnn
    cases b with
    | false =>
      go_wp2_with fail
      refine bodyPost_ret (results_mid3 rfl _ _ w.heap.size 37 _ (0, 0) _ rfl ((((BP1.out.set (j := 0) (.int .i64 0)).set (j := 1) (.int .i64 0)).set (j := 2) (.int .u32 0)).alloc _) Try.underlying37 rfl (by kernel_rfl)) rfl ?_
      exact ⟨by rw [HL.out]; rfl, Below.alloc (((HB1.out.setCell (p := ⟨w.heap.size, 0, none⟩) (Nat.le_refl _) _).setCell (p := ⟨w.heap.size, 1, none⟩) (Nat.le_refl _) _).setCell (p := ⟨w.heap.size, 2, none⟩) (Nat.le_refl _) _) (by simp only [World.setCell, Array.size_modify]; omega) _⟩
    | true =>
      cases en_ with
      | false =>
        go_wp2_with fail
        refine bodyPost_ret (results_mid3 rfl _ _ w.heap.size 37 _ (0, 0) _ rfl ((((BP1.out.set (j := 0) (.int .i64 0)).set (j := 1) (.int .i64 0)).set (j := 2) (.int .u32 0)).alloc _) Try.underlying37 rfl (by kernel_rfl)) rfl ?_
        exact ⟨by rw [HL.out]; rfl, Below.alloc (((HB1.out.setCell (p := ⟨w.heap.size, 0, none⟩) (Nat.le_refl _) _).setCell (p := ⟨w.heap.size, 1, none⟩) (Nat.le_refl _) _).setCell (p := ⟨w.heap.size, 2, none⟩) (Nat.le_refl _) _) (by simp only [World.setCell, Array.size_modify]; omega) _⟩
      | true =>
        by_cases k1 : ec = (sp.length : Int)
        · by_cases k2 : ef = (sp.length : Int)
          · have k3 : eb ≠ nx_ := fun e => HNN.out ⟨rfl, rfl, k1, k2, e⟩
            have b1 : (ec != (sp.length : Int)) = false := by simp [k1]
            have b2 : (ef != (sp.length : Int)) = false := by simp [k2]
            have b3 : (eb != nx_) = true := by simp [k3]
            clear k1 k2 k3
            go_wp2_with fail
            refine bodyPost_ret (results_mid3 rfl _ _ w.heap.size 37 _ (0, 0) _ rfl ((((BP1.out.set (j := 0) (.int .i64 0)).set (j := 1) (.int .i64 0)).set (j := 2) (.int .u32 0)).alloc _) Try.underlying37 rfl (by kernel_rfl)) rfl ?_
            exact ⟨by rw [HL.out]; rfl, Below.alloc (((HB1.out.setCell (p := ⟨w.heap.size, 0, none⟩) (Nat.le_refl _) _).setCell (p := ⟨w.heap.size, 1, none⟩) (Nat.le_refl _) _).setCell (p := ⟨w.heap.size, 2, none⟩) (Nat.le_refl _) _) (by simp only [World.setCell, Array.size_modify]; omega) _⟩
          · skip
            have b1 : (ec != (sp.length : Int)) = false := by simp [k1]
            have b2 : (ef != (sp.length : Int)) = true := by simp [k2]
            clear k1 k2
            go_wp2_with fail
            refine bodyPost_ret (results_mid3 rfl _ _ w.heap.size 37 _ (0, 0) _ rfl ((((BP1.out.set (j := 0) (.int .i64 0)).set (j := 1) (.int .i64 0)).set (j := 2) (.int .u32 0)).alloc _) Try.underlying37 rfl (by kernel_rfl)) rfl ?_
            exact ⟨by rw [HL.out]; rfl, Below.alloc (((HB1.out.setCell (p := ⟨w.heap.size, 0, none⟩) (Nat.le_refl _) _).setCell (p := ⟨w.heap.size, 1, none⟩) (Nat.le_refl _) _).setCell (p := ⟨w.heap.size, 2, none⟩) (Nat.le_refl _) _) (by simp only [World.setCell, Array.size_modify]; omega) _⟩
        · skip
          have b1 : (ec != (sp.length : Int)) = true := by simp [k1]
          clear k1
          go_wp2_with fail
          refine bodyPost_ret (results_mid3 rfl _ _ w.heap.size 37 _ (0, 0) _ rfl ((((BP1.out.set (j := 0) (.int .i64 0)).set (j := 1) (.int .i64 0)).set (j := 2) (.int .u32 0)).alloc _) Try.underlying37 rfl (by kernel_rfl)) rfl ?_
          exact ⟨by rw [HL.out]; rfl, Below.alloc (((HB1.out.setCell (p := ⟨w.heap.size, 0, none⟩) (Nat.le_refl _) _).setCell (p := ⟨w.heap.size, 1, none⟩) (Nat.le_refl _) _).setCell (p := ⟨w.heap.size, 2, none⟩) (Nat.le_refl _) _) (by simp only [World.setCell, Array.size_modify]; omega) _⟩
end Vt
end Go.Proofs.Ytlddogigbodilaa
