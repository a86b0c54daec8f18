/-
  hint.Of: the hint file, or ErrHintDirty.
-/
import Derived.Test.YtfnbfgkoicdiaaaHn5
namespace Go.Proofs.Ytfnbfgkoicdiaaa
open Go.RowKit Go.Shelf
namespace Vt
attribute [local go_sem] Oper.semAt_some
attribute [local go_sem ↓] append_hide
set_option maxRecDepth 100000 in
set_option maxHeartbeats 2000000 in
theorem hof_is (v : Value) (l : List Nat) (w : World) (hI : IsB w v l) :
    Calls Try.prog 11 #[v] w fun e w' => ((May l ∧ ∃ u, e = .returned (.tuple #[u, .int .i64 0]) ∧ JB w' w.heap.size u (hof l)) ∨ (¬ May l ∧ e = .returned (.tuple #[.slice none 0 0, .int .i64 100]))) ∧ Below w.heap.size w w' := by
  obtain ⟨a, c, rfl⟩ := hI.shape
  have hbl := hI.1
  by_cases hlen : 4194304 < l.length
  · have HM := hd (show ¬ May l from fun h => by have := h.1; omega)
    clear hI hbl
    go_enter Try.func11, Try.ntmps11
    go_wp2_with fail
    go_ret2
    exact ⟨.inr ⟨HM.out, rfl⟩, Below.refl _ _⟩
  · have hl : l.length ≤ 4194304 := by omega
    have HT := hd (through_is (.slice a l.length c) l (w.alloc (.cells #[.slice none 0 0] 25)) 28 #[.pointer (some ⟨w.heap.size, 0, none⟩)] (OfJ w.heap.size w l) (fun _ W => (∃ x ∈ locs 0 l, isRec x.2.2 = false) ∧ Below w.heap.size w W) hbl
      (fun pre W W' h hb => h.below hb) (fun pre W h => hI.below h.2.1) (enters_of Try.func28 (by kernel_rfl) rfl)
      (fun pre x W h hp => (of1_take w.heap.size w l hbl hl pre x W h hp).mono (fun e W' he => by
        rcases he with ⟨e1, e2⟩ | ⟨e1, e2, e3⟩
        · exact .inl ⟨e1, e2⟩
        · exact .inr ⟨e1, ⟨x, hp.subset (by simp), e2⟩, e3⟩))
      ⟨⟨_, Boxed.new w 25 _, jb_nil _ _⟩, (Below.refl _ _).alloc (Nat.le_refl _) _, by simp, by simp, by simp⟩)
    have HI := hd hI
    clear hI
    go_enter Try.func11, Try.ntmps11
    go_wp2_with fail
    refine Calls.mono HT.out ?_
    rintro e w1 (⟨rfl, hcl, ⟨vf, hbx, hjb⟩, hb1, hs1, hpr, hrec⟩ | ⟨rfl, hno⟩)
    · have HM := hd (show May l from ⟨hl, hcl, hrec⟩)
      have hbn := hbs_len (L := locs 0 l) (fun y hy => hfr_ok hbl hl hy (hrec y hy))
      have hn9 := locs_len hbl _ (Nat.le_refl _) 0
      have ok := ffr_ok hbl hl
      have hes := en_small ok.2 ok.1
      have HF := hd (fun m => footOf_is (.slice a l.length c) l (w1.drewN m) ((HI.out.below hb1).below (below_drewN (Below.refl _ _) m)))
      have HW := hd (fun w => written_is (ffr (edg l)) w ok.2 ok.1)
      have HO := hd (show hof l = hbs (locs 0 l) ++ en (ffr (edg l)) from rfl)
      generalize fv (ffr (edg l)) = FV at *
      generalize en (ffr (edg l)) = el at *
      have hbB : (hbs (locs 0 l)).length ≤ 100000000000 := by omega
      generalize hbs (locs 0 l) = bs at *
      have q0 := hbx.cell
      have HBX := hd hbx
      have HJB := hd hjb
      have HB1 := hd hb1
      clear HT hcl hrec hpr hbn hn9 hbx hjb hb1 ok hbl
      go_wp2_with fail
      have HFm : Hid (∀ m, Calls Try.prog 32 #[.slice a l.length c] (w1.drewN m) fun e w' => e = .returned (.agg FV) ∧ Below w1.heap.size w1 w') := fun m => (HF.out m).mono fun e w' ⟨h1, h2⟩ => ⟨h1, (below_drewN (Below.refl _ _) m).trans h2⟩
      clear HF
      go_region_with (first
        | (go_at_call 32; refine Calls.mono (HFm.out _) ?_; rintro e w2 ⟨rfl, hb2⟩; have q2 := (boxed_below HBX.out (Array.getElem?_eq_some_iff.1 HBX.out).1 hb2).cell; have HB2 := hd hb2; clear hb2)
        | (go_at_call 30; refine Calls.mono (HW.out _) ?_; rintro e w3 ⟨u, rfl, hj3, hb3⟩; have hb13 := HB2.out.trans (hb3.mono HB2.out.size); have hbx3 := boxed_below HBX.out (Array.getElem?_eq_some_iff.1 HBX.out).1 hb13; have hjx3 := HJB.out.keepAll hb13; have hs13 := hb13.size; obtain ⟨a', cap, w4, hr, hJ4, hg4⟩ := run_append_jb 25 w3 (w.heap.size + 1) vf u bs el hjx3 hj3.isB (by omega) (by omega); have hr' : (apH #[25, 25] 25 #[vf, u]).run Try.prog w3 = .ok (.slice a' (bs.length + el.length) cap) w4 := hr; have q3 := hbx3.cell; have HJ4 := hd hJ4; have HG4 := hd (JB.grown hjx3 (HB1.out.trans (hb13.mono (by omega))) (by omega) (by omega) hg4); clear hj3 hb3 hb13 hbx3 hjx3 hr hJ4 hg4))
      all_goals
        go_wp2_with fail
        go_ret2
        exact ⟨.inl ⟨HM.out, _, rfl, by rw [HO.out]; exact HJ4.out.base (by omega)⟩, HG4.out⟩
    · have HM := hd (show ¬ May l ∧ Below w.heap.size w w1 by
        rcases hno with ⟨hncl, pre, hj⟩ | ⟨pre, _, ⟨x, hx, hxr⟩, hb⟩
        · exact ⟨fun h => hncl h.2.1, hj.2.1⟩
        · exact ⟨fun h => (by rw [h.2.2 x hx] at hxr; cases hxr), hb⟩)
      clear HT hno
      go_wp2_with fail
      go_ret2
      exact ⟨.inr ⟨HM.out.1, rfl⟩, HM.out.2⟩
end Vt
end Go.Proofs.Ytfnbfgkoicdiaaa
