/-
  salvorlaw10.samePointers of two rows of the same pointers.
  HintForged's walk.
  A FRAME, A RECORD AS AN ARGUMENT: what the form of a call says of its cells.
-/
import Derived.Test.YtfnbfgkoicdiaaaMat
import Derived.Test.YtfnbfgkoicdiaaaMau
import Derived.Test.YtfnbfgkoicdiaaaMax
import Derived.Test.YtfnbfgkoicdiaaaMaw
import Derived.Test.YtfnbfgkoicdiaaaMap
namespace Go.Proofs.Ytfnbfgkoicdiaaa
open Go.RowKit Go.Shelf
namespace Vt
attribute [local go_sem] Oper.semAt_some
theorem neq_ptr_no (p : Ptr) (w : World) : (binOp .neq 29 (.agg (pv p)) (.agg (pv p))).run Try.prog w = .ok (.bool false) w := by
  rw [run_neq_struct, eq_ptr]; rfl
set_option maxRecDepth 100000 in
set_option maxHeartbeats 2000000 in
theorem hptrs_is (v1 v2 : Value) (b1 b2 : Nat) (ps : List Ptr) (w : World) (h1 : JPt w b1 v1 (ps.map pvl)) (h2 : JPt w b2 v2 (ps.map pvl)) :
    Calls Try.prog 10 #[v1, v2] w fun e w' => e = .returned (.bool true) ∧ ∃ n, w' = w.drewN n := by
  obtain ⟨a1, c1, rfl, hc1⟩ := h1.shape
  obtain ⟨a2, c2, rfl, hc2⟩ := h2.shape
  rw [List.length_map] at h1 h2 hc1 hc2 ⊢
  have hpl := h1.len_le
  rw [List.length_map] at hpl
  unfold maxLen at hpl
  have H1 := hd h1
  have H2 := hd h2
  clear h1 h2
  have hmx : Try.prog.follows .mixedOrders = true := by kernel_rfl
  go_enter Try.func10, Try.ntmps10
  go_wp2_with fail
  go_loopw [5] (fun i wr => ∃ k n : Nat, k ≤ ps.length ∧ i = .int .i64 (k : Int) ∧ wr = w.drewN n) (fun i _ => ps.length - (intOf i).toNat)
  case atStart => exact ⟨0, 0, by omega, rfl, rfl⟩
  case round =>
    obtain ⟨k, n, hk, rfl, rfl⟩ := hrel
    by_cases hlt : k < ps.length
    · obtain ⟨p, hp⟩ : ∃ p, ps[k]? = some p := ⟨_, List.getElem?_eq_getElem hlt⟩
      have hrow : (ps.map pvl)[k]? = some (pvl p) := by rw [List.getElem?_map, hp]; rfl
      have hne : ps.map pvl ≠ [] := by intro e; rw [List.map_eq_nil_iff] at e; subst e; simp at hlt
      have j1 := H1.out
      have j2 := H2.out
      obtain ⟨g1, cc1, e1, _, _⟩ := j1.nn hne
      obtain ⟨g2, cc2, e2, _, _⟩ := j2.nn hne
      rw [List.length_map] at e1 e2
      injection e1 with x1 x2 x3
      injection e2 with y1 y2 y3
      subst x1 x3 y1 y3
      have d0 : w.cell? ⟨g1, k * 5, none⟩ = _ := j1.at k (pvl p) 0 _ hrow rfl
      have d1 := j1.at k (pvl p) 1 _ hrow rfl
      have d2 := j1.at k (pvl p) 2 _ hrow rfl
      have d3 := j1.at k (pvl p) 3 _ hrow rfl
      have d4 := j1.at k (pvl p) 4 _ hrow rfl
      have f0 : w.cell? ⟨g2, k * 5, none⟩ = _ := j2.at k (pvl p) 0 _ hrow rfl
      have f1 := j2.at k (pvl p) 1 _ hrow rfl
      have f2 := j2.at k (pvl p) 2 _ hrow rfl
      have f3 := j2.at k (pvl p) 3 _ hrow rfl
      have f4 := j2.at k (pvl p) 4 _ hrow rfl
      have heq := neq_ptr_no p
      obtain ⟨p1, p2, p3, p4, p5⟩ := p
      simp only [pv] at heq
      clear j1 j2 hrow hne hp x2 y2
      go_wp2_with fail
      go_quiet (fail)
      go_wp2_with fail
      go_roundw
      case rel => exact ⟨k + 1, _, by omega, by go_num, rfl⟩
      case measure => simp [intOf]; omega
    · obtain rfl : k = ps.length := by omega
      go_wp2_with fail
      go_ret
      exact ⟨rfl, n, rfl⟩
end Vt
end Go.Proofs.Ytfnbfgkoicdiaaa
namespace Go.Proofs.Ytfnbfgkoicdiaaa
open Go.RowKit Go.Shelf
namespace Vt
attribute [local go_sem] Oper.semAt_some
theorem jk_grownR {k : IntKind} {M : Nat} {E E' : TypeId} {sz' : Nat} {w w' : World} {b1 b2 : Nat} {v u : Value} {l : List Nat} {m : List (List Value)} (h : JK k M E w b1 v l) (hr : JR E' sz' w b2 u m) (hne : E ≠ E') (hg : w.grownBy w' u.ownBlock) : JK k M E w' b1 v l := by
  refine h.grownO hg fun g hgb e => ?_
  obtain ⟨_, _, ⟨rfl, _⟩ | ⟨g1, cap1, cur1, rfl, _, hh1, _⟩⟩ := h
  · cases hgb
  · obtain ⟨_, _, ⟨rfl, _⟩ | ⟨g2, cap2, cur2, rfl, _, hh2, _⟩⟩ := hr
    · cases e
    · cases hgb
      injection e with e
      have e' : g1 = g2 := e
      subst e'
      rw [hh1] at hh2
      injection hh2 with hh2
      injection hh2 with _ hh2
      exact hne hh2
theorem jr_grownK {k : IntKind} {M : Nat} {E E' : TypeId} {sz' : Nat} {w w' : World} {b1 b2 : Nat} {v u : Value} {l : List Nat} {m : List (List Value)} (hr : JR E' sz' w b2 u m) (h : JK k M E w b1 v l) (hne : E ≠ E') (hg : w.grownBy w' v.ownBlock) : JR E' sz' w' b2 u m := by
  refine hr.grownO hg fun g hgb e => ?_
  obtain ⟨_, _, ⟨rfl, _⟩ | ⟨g1, cap1, cur1, rfl, _, hh1, _⟩⟩ := h
  · cases e
  · obtain ⟨_, _, ⟨rfl, _⟩ | ⟨g2, cap2, cur2, rfl, _, hh2, _⟩⟩ := hr
    · cases hgb
    · cases hgb
      injection e with e
      have e' : g2 = g1 := e
      subst e'
      rw [hh1] at hh2
      injection hh2 with hh2
      injection hh2 with _ hh2
      exact hne hh2
/-- a list of pointers in memory -/
def IsPt (w : World) (v : Value) (ps : List Ptr) : Prop :=
  (∀ p ∈ ps, p.lsn < 18446744073709551616) ∧ ((ps = [] ∧ ∃ a c, v = .slice a 0 c) ∨ ∃ b off c, v = .slice (some ⟨b, off, none⟩) ps.length c ∧ b < w.heap.size ∧ ∀ i, i < ps.length → ∀ j u, (pv (ps.getD i zp))[j]? = some u → w.cell? ⟨b, off + i * 5 + j, none⟩ = some u)
theorem IsPt.below {w w' : World} {v : Value} {ps : List Ptr} (h : IsPt w v ps) (hb : Below w.heap.size w w') : IsPt w' v ps := by
  obtain ⟨h1, h2 | ⟨b, off, c, rfl, h3, h4⟩⟩ := h
  · exact ⟨h1, .inl h2⟩
  · exact ⟨h1, .inr ⟨b, off, c, rfl, Nat.lt_of_lt_of_le h3 hb.size, fun i hi j u hu => (hb.cell (p := ⟨b, off + i * 5 + j, none⟩) h3).trans (h4 i hi j u hu)⟩⟩
/-- what is accepted so far -/
structure Fo (want : List Ptr) : Prop where
  ok : ∀ p ∈ want, rf (hfr p) = 0 ∧ (hfr p).Wf
  ch : pch 0 want
  le : 0 ≤ psum want ∧ psum want ≤ 8388608
/-- its bytes -/
def fbs (want : List Ptr) : List Nat := (want.map fun p => en (hfr p)).flatten
theorem fbs_snoc (want : List Ptr) (p : Ptr) : fbs (want ++ [p]) = fbs want ++ en (hfr p) := by simp [fbs]
theorem fbs_len {want : List Ptr} (h : ∀ p ∈ want, rf (hfr p) = 0 ∧ (hfr p).Wf) : (fbs want).length ≤ 5000 * want.length := by
  induction want with
  | nil => simp [fbs]
  | cons x r ih =>
    have h1 := ih (fun y hy => h y (List.mem_cons_of_mem _ hy))
    have h2 := en_small (h x List.mem_cons_self).2 (h x List.mem_cons_self).1
    have e : fbs (x :: r) = en (hfr x) ++ fbs r := by simp [fbs]
    rw [e, List.length_append, List.length_cons]
    omega
theorem file_fbs (want : List Ptr) (e : Edg) : file want e = fbs want ++ en (ffr e) := by simp [file, fbs, Function.comp_def]
theorem Fo.snoc {want : List Ptr} (h : Fo want) {p : Ptr} (hp : p.at_ = psum want) (hl : p.lsn < 18446744073709551616) (hr : rf (hfr p) = 0) : Fo (want ++ [p]) := by
  have hr3 : rfP (hfr p) = 0 := by
    have := hr
    unfold rf at this
    rw [if_neg (by unfold hfr; simp), if_pos (by rfl)] at this
    exact this
  obtain ⟨_, _, _, ⟨a1, a2⟩, ⟨b1, b2⟩, _⟩ := rfP_ok hr3
  have a2' : p.at_ ≤ 4194304 := a2
  have b1' : 0 ≤ p.len := b1
  have b2' : p.len ≤ 4194304 := b2
  refine ⟨fun q hq => ?_, (pch_app _ _ 0).2 ⟨h.ch, by rw [Int.zero_add]; exact hp, trivial⟩, ?_⟩
  · rcases List.mem_append.1 hq with hq | hq
    · exact h.ok q hq
    · rw [List.mem_singleton] at hq
      subst hq
      exact ⟨hr, by unfold Fr.Wf hfr zr ze; exact ⟨by simp, hl, by simp⟩⟩
  · have := h.le
    rw [psum_app]
    simp only [psum, List.map_cons, List.map_nil, List.sum_cons, List.sum_nil] at *
    omega
set_option maxRecDepth 100000 in
set_option maxHeartbeats 2000000 in
theorem forged_walk (va : Option Addr) (vc : Nat) (ps : List Ptr) (sm : Nat) (w : World) (hP : IsPt w (.slice va ps.length vc) ps) (hsm : sm < 4294967296) :
    Calls Try.prog 3 #[.slice va ps.length vc, .int .u32 (sm : Int)] w fun e w' => e = .returned (.bool true) ∧ Below w.heap.size w w' := by
  have HP := hd hP
  clear hP
  go_enter Try.func3, Try.ntmps3
  go_wp2_with fail
  refine Calls.mono (hknown_is w) ?_
  rintro e w1 ⟨rfl, hb1⟩
  have HB1 := hd hb1
  have HP1 := hd (HP.out.below hb1)
  clear hb1 HP
  go_wp2_with fail
  go_loopw [6, 7, 8, 9] (fun d q t i wr => ∃ (k : Nat) (want : List Ptr), k ≤ ps.length ∧ k ≤ 100 ∧ i = .int .i64 (k : Int) ∧ t = .int .i64 (psum want) ∧ Fo want ∧ want.length ≤ k ∧ JB wr w1.heap.size d (fbs want) ∧ JPt wr w1.heap.size q (want.map pvl) ∧ Below w1.heap.size w1 wr) (fun _ _ _ i _ => ps.length - (intOf i).toNat)
  case atStart => exact ⟨0, [], by omega, by omega, rfl, rfl, ⟨by simp, trivial, by simp [psum]⟩, by simp, jb_nil _ _, jr_nil _ _, Below.refl _ _⟩
  case round =>
    obtain ⟨k, want, hk, hk100, rfl, rfl, hfo, hwl, hjd, hjw, hbw⟩ := hrel
    have HFO := hd hfo
    have hps := hfo.le
    have HJD := hd hjd
    have HJW := hd hjw
    have HBW := hd hbw
    have hsz := hbw.size
    clear hfo hjd hjw hbw
    obtain ⟨at_, hat⟩ : ∃ at_, at_ = psum want := ⟨_, rfl⟩
    rw [← hat] at hps ⊢
    have HAT := hd hat
    clear hat
    by_cases hlt : k < ps.length ∧ k < 100
    · obtain ⟨hl1, hl2⟩ := hlt
      obtain ⟨hlsn, ⟨he, _⟩ | ⟨b, off, c, he, hbl, hcell⟩⟩ := HP1.out
      · subst he; simp at hl1
      · injection he with e1 e2 e3
        subst e1 e3
        obtain ⟨p, hp⟩ : ∃ p, p = ps.getD k zp := ⟨_, rfl⟩
        have hpl : p.lsn < 18446744073709551616 := by
          rw [hp, List.getD_eq_getElem?_getD, List.getElem?_eq_getElem hl1]
          exact hlsn _ (List.getElem_mem hl1)
        have hc := hcell k hl1
        rw [← hp] at hc
        have HBC := HBW.out
        have r0 : wr.cell? ⟨b, off + k * 5, none⟩ = some (.int .u64 (p.lsn : Int)) := (HBC.cell (p := ⟨b, off + k * 5, none⟩) hbl).trans (hc 0 _ rfl)
        have r1 : wr.cell? ⟨b, off + k * 5 + 1, none⟩ = some (.int .i64 p.kind) := (HBC.cell (p := ⟨b, off + k * 5 + 1, none⟩) hbl).trans (hc 1 _ rfl)
        have r2 : wr.cell? ⟨b, off + k * 5 + 2, none⟩ = some (.int .i64 p.at_) := (HBC.cell (p := ⟨b, off + k * 5 + 2, none⟩) hbl).trans (hc 2 _ rfl)
        have r3 : wr.cell? ⟨b, off + k * 5 + 3, none⟩ = some (.int .i64 p.len) := (HBC.cell (p := ⟨b, off + k * 5 + 3, none⟩) hbl).trans (hc 3 _ rfl)
        have r4 : wr.cell? ⟨b, off + k * 5 + 4, none⟩ = some (.string p.key) := (HBC.cell (p := ⟨b, off + k * 5 + 4, none⟩) hbl).trans (hc 4 _ rfl)
        clear hcell hc hlsn e2 hp HBC
        obtain ⟨p1, p2, p3, p4, p5⟩ := p
        simp only at r0 r1 r2 r3 r4 hpl
        have hk2 : (k : Int) < 100 := by omega
        by_cases hrf : rf (hfr ⟨p1, p2, at_, p4, p5⟩) = 0
        · have hwf : (hfr ⟨p1, p2, at_, p4, p5⟩).Wf := by unfold Fr.Wf hfr zr ze; exact ⟨by simp, hpl, by simp⟩
          have HE := hd (encF_all hwf hrf)
          have hes := en_small hwf hrf
          have hfl := fbs_len HFO.out.ok
          have hfo2 : Fo (want ++ [⟨p1, p2, at_, p4, p5⟩]) := HFO.out.snoc HAT.out hpl hrf
          have HF2 := hd hfo2
          have hle2 := hfo2.le
          have HPS := hd (show psum (want ++ [⟨p1, p2, at_, p4, p5⟩]) = at_ + p4 by rw [psum_app, HAT.out]; simp [psum])
          rw [HPS.out] at hle2
          have HFB := hd (fbs_snoc want ⟨p1, p2, at_, p4, p5⟩)
          obtain ⟨el, hel⟩ : ∃ el, el = en (hfr ⟨p1, p2, at_, p4, p5⟩) := ⟨_, rfl⟩
          rw [← hel] at HE hes HFB
          simp only [hfr, fv, zr, ze] at HE
          obtain ⟨ad, cd, hsd, _⟩ := HJD.out.shape
          obtain ⟨aw, cw, hsw, _⟩ := HJW.out.shape
          subst hsd hsw
          rw [List.length_map] at HJW
          clear hrf hwf hel hfo2
          go_wp2_with fail
          refine Calls.mono (HE.out _) ?_
          rintro e w2 ⟨u, rfl, hj2, hb2⟩
          have HPB := hd ((Blk.new wr 29 _).keep hb2)
          have hb02 := below_alloc1 hb2
          have s0 := HPB.out.cell 0 _ rfl
          have s1 := HPB.out.cell 1 _ rfl
          have s2 := HPB.out.cell 2 _ rfl
          have s3 := HPB.out.cell 3 _ rfl
          have s4 := HPB.out.cell 4 _ rfl
          have hs02 := hb02.size
          have HU := hd hj2.isB
          have HJD2 := hd (HJD.out.keepAll hb02)
          have HJW2 := hd (HJW.out.keepAll hb02)
          have HB2 := hd (HBW.out.trans (hb02.mono hsz))
          have hps2 := HPB.out.lt
          have hlt2 := fun g hg => HJD.out.blk_lt g hg
          have hltw := fun g hg => HJW.out.blk_lt g hg
          have HLT := hd hlt2
          have HLW := hd hltw
          obtain ⟨au, cu, hue⟩ := HU.out.shape
          subst hue
          clear hb2 hj2 hb02 HE hlt2 hltw
          have tok1 : True := trivial
          go_wp2_with (first
            | (at_builtin; have _t := tok1; clear tok1; refine wpList_append_jb _ rfl _ _ rfl w1.heap.size (.slice ad (fbs want).length cd) (.slice au el.length cu) (fbs want) el rfl rfl HJD2.out HU.out ((fbs want).length + el.length) rfl (fbs want ++ el) rfl (by omega) (by omega) ?_; intro a3 c3 w3 hj3 hg3 hc3; have HJW3 := hd (jr_grownK HJW2.out HJD2.out (by decide) hg3); have hnp : some wr.heap.size ≠ (Value.slice ad (fbs want).length cd).ownBlock := (fun e => Nat.lt_irrefl _ (HLT.out _ e.symm)); have t0 := hg3.cell s0 hnp; have t1 := hg3.cell s1 hnp; have t2 := hg3.cell s2 hnp; have t3 := hg3.cell s3 hnp; have t4 := hg3.cell s4 hnp; have hs3 := hg3.size; have HB3 := hd (JB.grown HJD2.out HB2.out (Nat.le_refl _) (by omega) hg3); have HJ3 := hd hj3; have n31 : ¬ wr.heap.size = w3.heap.size := (by omega); have n32 : ¬ w3.heap.size = wr.heap.size := (by omega); have n33 : wr.heap.size < w3.heap.size := (by omega); clear hj3 hg3 hc3 hnp)
            | (at_builtin; refine wpList_append_jr Try.underlying22 info_ptr rfl (by decide) _ rfl _ _ rfl w1.heap.size (.slice aw want.length cw) (want.map pvl) w3.heap.size 1 (pvl ⟨p1, p2, at_, p4, p5⟩) rfl rfl (HJW3.out.alloc _) rfl (pvl_one ⟨p1, p2, at_, p4, p5⟩) (fun j u hu => cell_lit _ _ (pvl ⟨p1, p2, at_, p4, p5⟩) j u _ rfl hu) (want.length + 1) (by rw [List.length_map]) (by omega) (by unfold maxLen; omega) (by simp; omega) ?_; intro g4 c4 w4 hj4 hg4 hw4; have HJ4 := hd hj4; have y3 : w4.cell? ⟨wr.heap.size, 3, none⟩ = some (.int .i64 p4) := hg4.cell ((((Below.refl _ w3).alloc (Nat.le_refl _) _).cell (p := ⟨wr.heap.size, 3, none⟩) n33).trans t3) (fun e => Nat.lt_irrefl _ (HLW.out _ e.symm)); have HJB4 := hd (jk_grownR (k := .u8) (M := 256) (HJ3.out.keepAll ((Below.refl _ w3).alloc (Nat.le_refl _) _)) (HJW3.out.alloc _) (by decide) hg4); have HB4 := hd ((HB3.out.alloc (by omega) _).grown hg4 (by simp; omega) (fun q hq => HJW3.out.blk_ge q hq)); clear hj4 hg4 hw4))
          go_roundw
          case rel => exact ⟨k + 1, want ++ [⟨p1, p2, at_, p4, p5⟩], by omega, by omega, by go_num, by rw [HPS.out], HF2.out, by simp; omega, by rw [HFB.out]; exact HJB4.out, by rw [List.map_append, List.map_singleton]; exact HJ4.out, HB4.out⟩
          case measure => simp [intOf]; omega
        · have HE := hd (fun w => encF_no (hfr ⟨p1, p2, at_, p4, p5⟩) w hrf)
          have hne : ((rf (hfr ⟨p1, p2, at_, p4, p5⟩) : Int) == 0) = false := by simp; omega
          generalize rf (hfr ⟨p1, p2, at_, p4, p5⟩) = er at *
          simp only [hfr, fv, zr, ze] at HE
          clear hrf
          go_wp2_with fail
          refine Calls.mono (HE.out _) ?_
          rintro e w2 ⟨rfl, hb2⟩
          have hb02 := below_alloc1 hb2
          have HJD2 := hd (HJD.out.keepAll hb02)
          have HJW2 := hd (HJW.out.keepAll hb02)
          have HB2 := hd (HBW.out.trans (hb02.mono hsz))
          clear hb2 hb02 HE
          go_wp2_with fail
          go_roundw
          case rel => exact ⟨k + 1, want, by omega, by omega, by go_num, by rw [HAT.out], HFO.out, by omega, HJD2.out, HJW2.out, HB2.out⟩
          case measure => simp [intOf]; omega
    · have hge : (k : Int) ≥ (ps.length : Int) ∨ (100 : Int) ≤ (k : Int) := by omega
      have hwf : (ffr ⟨(want.length : Int), at_, (want.length : Int), sm⟩).Wf := by unfold Fr.Wf ffr zr zp; exact ⟨by simp, by simp, hsm⟩
      have hrf : rf (ffr ⟨(want.length : Int), at_, (want.length : Int), sm⟩) = if at_ ≤ 4194304 then 0 else 40 := by
        unfold rf rfE ffr
        simp only
        rw [if_neg (by omega), if_neg (by omega), if_pos trivial]
        by_cases h : at_ ≤ 4194304
        · rw [if_neg (by unfold onD; omega), if_neg (by simp), if_pos h]
        · rw [if_pos (by unfold onD; omega), if_neg h]
      obtain ⟨ad, cd, hsd, _⟩ := HJD.out.shape
      obtain ⟨aw, cw, hsw, _⟩ := HJW.out.shape
      subst hsd hsw
      rw [List.length_map] at HJW ⊢
      have hB := HB1.out.trans (HBW.out.mono HB1.out.size)
      have HB := hd hB
      have hfl := fbs_len HFO.out.ok
      clear hB
      by_cases hbig : at_ ≤ 4194304
      · rw [if_pos hbig] at hrf
        have HE := hd (encF_all hwf hrf)
        have HLS := hd (ldS_file HFO.out.ok ⟨hrf, hwf⟩ HFO.out.ch ⟨rfl, rfl, HAT.out⟩)
        have HFI := hd (file_fbs want ⟨(want.length : Int), at_, (want.length : Int), sm⟩)
        have hes := en_small hwf hrf
        obtain ⟨el, hel⟩ : ∃ el, el = en (ffr ⟨(want.length : Int), at_, (want.length : Int), sm⟩) := ⟨_, rfl⟩
        rw [← hel] at HE hes HFI
        rw [HFI.out] at HLS
        simp only [ffr, fv, zr, zp] at HE
        clear hrf hwf hel HFI HAT HFO
        have hnot : ¬ ((k : Int) < (ps.length : Int) ∧ (k : Int) < 100) := by omega
        by_cases hkp : k < ps.length
        · have hk3 : ¬ (k : Int) < 100 := by omega
          go_wp2_with fail
          refine Calls.mono (HE.out _) ?_
          rintro e w2 ⟨u, rfl, hj2, hb2⟩
          have HPB := hd ((Blk.new wr 36 _).keep hb2)
          have s0 := HPB.out.cell 0 _ rfl
          have s1 := HPB.out.cell 1 _ rfl
          have s2 := HPB.out.cell 2 _ rfl
          have hb02 := below_alloc1 hb2
          have hs02 := hb02.size
          have hps2 := HPB.out.lt
          have HU := hd hj2.isB
          have HJD2 := hd (HJD.out.keepAll hb02)
          have HJW2 := hd (HJW.out.keepAll hb02)
          have HLT := hd (fun g hg => HJD.out.blk_lt g hg)
          have HB2 := hd (HBW.out.trans (hb02.mono hsz))
          obtain ⟨au, cu, hue⟩ := HU.out.shape
          subst hue
          clear hb2 hj2 hb02 HE
          go_wp2_with (at_builtin; refine wpList_append_jb _ rfl _ _ rfl w1.heap.size (.slice ad (fbs want).length cd) (.slice au el.length cu) (fbs want) el rfl rfl HJD2.out HU.out ((fbs want).length + el.length) rfl (fbs want ++ el) rfl (by omega) (by omega) ?_; intro a3 c3 w3 hj3 hg3 hc3; have HJW3 := hd (jr_grownK HJW2.out HJD2.out (by decide) hg3); have hnp : some wr.heap.size ≠ (Value.slice ad (fbs want).length cd).ownBlock := (fun e => Nat.lt_irrefl _ (HLT.out _ e.symm)); have t0 := hg3.cell s0 hnp; have t1 := hg3.cell s1 hnp; have t2 := hg3.cell s2 hnp; have HB3 := hd (JB.grown HJD2.out HB2.out (Nat.le_refl _) (by omega) hg3); have HJ3 := hd hj3; clear hj3 hg3 hc3 hnp)
          have HLO := hd (load_is _ (fbs want ++ el) at_ (want.length : Int) sm w3 HJ3.out.isB)
          simp only [prl] at HLO
          refine Calls.mono HLO.out ?_
          rintro e w4 ⟨hld, hb4⟩
          rw [HLS.out] at hld
          unfold ldP at hld
          simp only at hld
          rcases hld with ⟨hno, _⟩ | ⟨_, u4, rfl, hj4⟩
          · exact absurd ⟨trivial, trivial, trivial⟩ hno
          · have HJ4 := hd hj4
            have HJW4 := hd (HJW3.out.keepAll hb4)
            have HBF := hd ((HB1.out.trans (HB3.out.mono HB1.out.size)).trans (hb4.mono (HB1.out.trans (HB3.out.mono HB1.out.size)).size))
            clear hb4 hj4 HLO
            go_wp2_with fail
            refine Calls.mono (hptrs_is _ _ _ _ want w4 HJ4.out HJW4.out) ?_
            rintro e w5 ⟨rfl, n5, rfl⟩
            go_wp2_with fail
            go_ret
            exact ⟨rfl, HBF.out.trans ⟨rfl, rfl, rfl, Nat.le_refl _, fun _ _ => rfl⟩⟩
        · go_wp2_with fail
          refine Calls.mono (HE.out _) ?_
          rintro e w2 ⟨u, rfl, hj2, hb2⟩
          have HPB := hd ((Blk.new wr 36 _).keep hb2)
          have s0 := HPB.out.cell 0 _ rfl
          have s1 := HPB.out.cell 1 _ rfl
          have s2 := HPB.out.cell 2 _ rfl
          have hb02 := below_alloc1 hb2
          have hs02 := hb02.size
          have hps2 := HPB.out.lt
          have HU := hd hj2.isB
          have HJD2 := hd (HJD.out.keepAll hb02)
          have HJW2 := hd (HJW.out.keepAll hb02)
          have HLT := hd (fun g hg => HJD.out.blk_lt g hg)
          have HB2 := hd (HBW.out.trans (hb02.mono hsz))
          obtain ⟨au, cu, hue⟩ := HU.out.shape
          subst hue
          clear hb2 hj2 hb02 HE
          go_wp2_with (at_builtin; refine wpList_append_jb _ rfl _ _ rfl w1.heap.size (.slice ad (fbs want).length cd) (.slice au el.length cu) (fbs want) el rfl rfl HJD2.out HU.out ((fbs want).length + el.length) rfl (fbs want ++ el) rfl (by omega) (by omega) ?_; intro a3 c3 w3 hj3 hg3 hc3; have HJW3 := hd (jr_grownK HJW2.out HJD2.out (by decide) hg3); have hnp : some wr.heap.size ≠ (Value.slice ad (fbs want).length cd).ownBlock := (fun e => Nat.lt_irrefl _ (HLT.out _ e.symm)); have t0 := hg3.cell s0 hnp; have t1 := hg3.cell s1 hnp; have t2 := hg3.cell s2 hnp; have HB3 := hd (JB.grown HJD2.out HB2.out (Nat.le_refl _) (by omega) hg3); have HJ3 := hd hj3; clear hj3 hg3 hc3 hnp)
          have HLO := hd (load_is _ (fbs want ++ el) at_ (want.length : Int) sm w3 HJ3.out.isB)
          simp only [prl] at HLO
          refine Calls.mono HLO.out ?_
          rintro e w4 ⟨hld, hb4⟩
          rw [HLS.out] at hld
          unfold ldP at hld
          simp only at hld
          rcases hld with ⟨hno, _⟩ | ⟨_, u4, rfl, hj4⟩
          · exact absurd ⟨trivial, trivial, trivial⟩ hno
          · have HJ4 := hd hj4
            have HJW4 := hd (HJW3.out.keepAll hb4)
            have HBF := hd ((HB1.out.trans (HB3.out.mono HB1.out.size)).trans (hb4.mono (HB1.out.trans (HB3.out.mono HB1.out.size)).size))
            clear hb4 hj4 HLO
            go_wp2_with fail
            refine Calls.mono (hptrs_is _ _ _ _ want w4 HJ4.out HJW4.out) ?_
            rintro e w5 ⟨rfl, n5, rfl⟩
            go_wp2_with fail
            go_ret
            exact ⟨rfl, HBF.out.trans ⟨rfl, rfl, rfl, Nat.le_refl _, fun _ _ => rfl⟩⟩
      · rw [if_neg hbig] at hrf
        have HE := hd (fun w => encF_no (ffr ⟨(want.length : Int), at_, (want.length : Int), sm⟩) w (by rw [hrf]; decide))
        rw [hrf] at HE
        simp only [ffr, fv, zr, zp] at HE
        clear hrf hwf HAT HFO
        have hbig2 : at_ > 4194304 := by omega
        by_cases hkp : k < ps.length
        · have hk3 : ¬ (k : Int) < 100 := by omega
          go_wp2_with fail
          refine Calls.mono (HE.out _) ?_
          rintro e w2 ⟨rfl, hb2⟩
          have hb02 := below_alloc1 hb2
          have HBF := hd (HB.out.trans (hb02.mono HB.out.size))
          clear hb2 hb02 HE
          go_wp2_with fail
          go_ret
          exact ⟨rfl, HBF.out⟩
        · go_wp2_with fail
          refine Calls.mono (HE.out _) ?_
          rintro e w2 ⟨rfl, hb2⟩
          have hb02 := below_alloc1 hb2
          have HBF := hd (HB.out.trans (hb02.mono HB.out.size))
          clear hb2 hb02 HE
          go_wp2_with fail
          go_ret
          exact ⟨rfl, HBF.out⟩
end Vt
end Go.Proofs.Ytfnbfgkoicdiaaa
namespace Go.Proofs.Ytfnbfgkoicdiaaa
open Go.ChangeShapes Go.WideShapes Go.ChangeAt Go.RowKit
namespace Vt
theorem cell_int {P : Program} {w : World} {r : Reach} {base : Nat} {t : TypeId} {k : IntKind} {v : Value} (ht : P.underlying t = some (.int k)) (h : Cell.okWide P w r base t v) : ∃ n, v = .int k n ∧ k.has n := by
  simp only [Cell.okWide, ht] at h
  cases v <;> simp_all [Cell.ok]
theorem cell_string {P : Program} {w : World} {r : Reach} {base : Nat} {t : TypeId} {v : Value} (ht : P.underlying t = some .string) (h : Cell.okWide P w r base t v) : ∃ s, v = .string s := by
  simp only [Cell.okWide, ht] at h
  cases v <;> simp_all [Cell.ok]
theorem has_u64 {n : Int} (h : IntKind.u64.has n) : 0 ≤ n ∧ n < 18446744073709551616 := by
  have e1 : IntKind.u64.min = 0 := rfl
  have e2 : IntKind.u64.max = 18446744073709551615 := rfl
  unfold IntKind.has at h
  rw [e1, e2] at h
  omega
theorem has_u32 {n : Int} (h : IntKind.u32.has n) : 0 ≤ n ∧ n < 4294967296 := by
  have e1 : IntKind.u32.min = 0 := rfl
  have e2 : IntKind.u32.max = 4294967295 := rfl
  unfold IntKind.has at h
  rw [e1, e2] at h
  omega
theorem cells_fr : Try.prog.cellTypes Try.prog.depth 40 = some [27, 26, 27, 9, 9, 26, 27, 3, 3, 9, 3, 3, 3, 23] := by kernel_rfl
theorem size_fr : Try.prog.cellsOf 40 = 14 := by kernel_rfl
theorem list14 {α : Type} {l : List α} (h : l.length = 14) : ∃ a b c d e f g i j k m n o p, l = [a, b, c, d, e, f, g, i, j, k, m, n, o, p] := by
  match l, h with
  | [a, b, c, d, e, f, g, i, j, k, m, n, o, p], _ => exact ⟨a, b, c, d, e, f, g, i, j, k, m, n, o, p, rfl⟩
theorem okW_struct {P : Program} {w : World} {r : Reach} {base : Nat} {t : TypeId} {fs : Array Field} {v : Value} (ht : P.underlying t = some (.struct fs)) (h : Value.okWide P w r base t v) : ∃ cs, v = .agg cs ∧ cs.size = P.cellsOf t ∧ Row.okWide P w r base t cs := by
  simp only [Value.okWide, ht] at h
  exact h
set_option maxRecDepth 100000 in
/-- a frame that comes in -/
theorem frame_arg {w : World} {r : Reach} {base : Nat} {v : Value} (h : Value.okWide Try.prog w r base 40 v) : ∃ f : Fr, v = .agg (fv f) ∧ f.Wf := by
  obtain ⟨cs, rfl, hsz, ts, hts, _, hcell⟩ := okW_struct Try.underlying40 h
  rw [size_fr] at hsz
  rw [cells_fr] at hts
  injection hts with hts
  subst hts
  obtain ⟨l⟩ := cs
  obtain ⟨v0, v1, v2, v3, v4, v5, v6, v7, v8, v9, v10, v11, v12, v13, rfl⟩ := list14 (l := l) (by simpa using hsz)
  have key : ∀ i v u, (#[v0, v1, v2, v3, v4, v5, v6, v7, v8, v9, v10, v11, v12, v13] : Array Value)[i]? = some v → [27, 26, 27, 9, 9, 26, 27, 3, 3, 9, 3, 3, 3, 23][i % 14]? = some u → Cell.okWide Try.prog w r base u v := by
    intro i v u hv hu
    obtain ⟨u', hu', hc⟩ := hcell i v hv
    have e : some u' = some u := hu'.symm.trans hu
    injection e with e
    subst e
    exact hc
  obtain ⟨n0, rfl, _⟩ := cell_int Try.underlying27 (key 0 _ _ rfl rfl)
  obtain ⟨n1, rfl, b1⟩ := cell_int Try.underlying26 (key 1 _ _ rfl rfl)
  obtain ⟨n2, rfl, _⟩ := cell_int Try.underlying27 (key 2 _ _ rfl rfl)
  obtain ⟨s3, rfl⟩ := cell_string Try.underlying9 (key 3 _ _ rfl rfl)
  obtain ⟨s4, rfl⟩ := cell_string Try.underlying9 (key 4 _ _ rfl rfl)
  obtain ⟨n5, rfl, b5⟩ := cell_int Try.underlying26 (key 5 _ _ rfl rfl)
  obtain ⟨n6, rfl, _⟩ := cell_int Try.underlying27 (key 6 _ _ rfl rfl)
  obtain ⟨n7, rfl, _⟩ := cell_int Try.underlying3 (key 7 _ _ rfl rfl)
  obtain ⟨n8, rfl, _⟩ := cell_int Try.underlying3 (key 8 _ _ rfl rfl)
  obtain ⟨s9, rfl⟩ := cell_string Try.underlying9 (key 9 _ _ rfl rfl)
  obtain ⟨n10, rfl, _⟩ := cell_int Try.underlying3 (key 10 _ _ rfl rfl)
  obtain ⟨n11, rfl, _⟩ := cell_int Try.underlying3 (key 11 _ _ rfl rfl)
  obtain ⟨n12, rfl, _⟩ := cell_int Try.underlying3 (key 12 _ _ rfl rfl)
  obtain ⟨n13, rfl, b13⟩ := cell_int Try.underlying23 (key 13 _ _ rfl rfl)
  have u1 : 0 ≤ n1 ∧ n1 < 18446744073709551616 := has_u64 b1
  have u5 : 0 ≤ n5 ∧ n5 < 18446744073709551616 := has_u64 b5
  have u13 : 0 ≤ n13 ∧ n13 < 4294967296 := has_u32 b13
  obtain ⟨m1, rfl⟩ : ∃ m : Nat, n1 = (m : Int) := ⟨n1.toNat, by omega⟩
  obtain ⟨m5, rfl⟩ : ∃ m : Nat, n5 = (m : Int) := ⟨n5.toNat, by omega⟩
  obtain ⟨m13, rfl⟩ : ∃ m : Nat, n13 = (m : Int) := ⟨n13.toNat, by omega⟩
  exact ⟨⟨n0, ⟨m1, n2, s3, s4⟩, ⟨m5, n6, n7, n8, s9⟩, ⟨n10, n11, n12, m13⟩⟩, rfl, by show m1 < _; omega, by show m5 < _; omega, by show m13 < _; omega⟩
end Vt
end Go.Proofs.Ytfnbfgkoicdiaaa
