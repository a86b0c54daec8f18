/-
  hint.Of: the hint file, or ErrHintDirty.
  HINT FILES, PLAINLY (2): what is read of frames; the hint file of a segment is fine for it.
-/
import Derived.Test.YtnjhbidialngmaaXhbq
import Derived.Test.YtnjhbidialngmaaXhbj
namespace Go.Proofs.Ytnjhbidialngmaa
open Go.RowKit Go.Shelf
namespace Vt
attribute [local go_sem] Oper.semAt_some
attribute [local go_sem ↓] append_hide
set_option maxRecDepth 100000 in
set_option maxHeartbeats 2000000 in
theorem hof_is (v : Value) (l : List Nat) (w : World) (hI : IsB w v l) :
    Calls Try.prog 17 #[v] w fun e w' => ((May l ∧ ∃ u, e = .returned (.tuple #[u, .int .i64 0]) ∧ JB w' w.heap.size u (hof l)) ∨ (¬ May l ∧ e = .returned (.tuple #[.slice none 0 0, .int .i64 100]))) ∧ Below w.heap.size w w' := by
  obtain ⟨a, c, rfl⟩ := hI.shape
  have hbl := hI.1
  by_cases hlen : 4194304 < l.length
  · have HM := hd (show ¬ May l from fun h => by have := h.1; omega)
    clear hI hbl
    go_enter Try.func17, Try.ntmps17
    go_wp2_with fail
    go_ret2
    exact ⟨.inr ⟨HM.out, rfl⟩, Below.refl _ _⟩
  · have hl : l.length ≤ 4194304 := by omega
    have HT := hd (through_is (.slice a l.length c) l (w.alloc (.cells #[.slice none 0 0] 36)) 39 #[.pointer (some ⟨w.heap.size, 0, none⟩)] (OfJ w.heap.size w l) (fun _ W => (∃ x ∈ locs 0 l, isRec x.2.2 = false) ∧ Below w.heap.size w W) hbl
      (fun pre W W' h hb => h.below hb) (fun pre W h => hI.below h.2.1) (enters_of Try.func39 (by kernel_rfl) rfl)
      (fun pre x W h hp => (of1_take w.heap.size w l hbl hl pre x W h hp).mono (fun e W' he => by
        rcases he with ⟨e1, e2⟩ | ⟨e1, e2, e3⟩
        · exact .inl ⟨e1, e2⟩
        · exact .inr ⟨e1, ⟨x, hp.subset (by simp), e2⟩, e3⟩))
      ⟨⟨_, Boxed.new w 36 _, jb_nil _ _⟩, (Below.refl _ _).alloc (Nat.le_refl _) _, by simp, by simp, by simp⟩)
    have HI := hd hI
    clear hI
    go_enter Try.func17, Try.ntmps17
    go_wp2_with fail
    refine Calls.mono HT.out ?_
    rintro e w1 (⟨rfl, hcl, ⟨vf, hbx, hjb⟩, hb1, hs1, hpr, hrec⟩ | ⟨rfl, hno⟩)
    · have HM := hd (show May l from ⟨hl, hcl, hrec⟩)
      have hbn := hbs_len (L := locs 0 l) (fun y hy => hfr_ok hbl hl hy (hrec y hy))
      have hn9 := locs_len hbl _ (Nat.le_refl _) 0
      have ok := ffr_ok hbl hl
      have hes := en_small ok.2 ok.1
      have HF := hd (fun m => footOf_is (.slice a l.length c) l (w1.drewN m) ((HI.out.below hb1).below (below_drewN (Below.refl _ _) m)))
      have HW := hd (fun w => written_is (ffr (edg l)) w ok.2 ok.1)
      have HO := hd (show hof l = hbs (locs 0 l) ++ en (ffr (edg l)) from rfl)
      generalize fv (ffr (edg l)) = FV at *
      generalize en (ffr (edg l)) = el at *
      have hbB : (hbs (locs 0 l)).length ≤ 100000000000 := by omega
      generalize hbs (locs 0 l) = bs at *
      have q0 := hbx.cell
      have HBX := hd hbx
      have HJB := hd hjb
      have HB1 := hd hb1
      clear HT hcl hrec hpr hbn hn9 hbx hjb hb1 ok hbl
      go_wp2_with fail
      have HFm : Hid (∀ m, Calls Try.prog 43 #[.slice a l.length c] (w1.drewN m) fun e w' => e = .returned (.agg FV) ∧ Below w1.heap.size w1 w') := fun m => (HF.out m).mono fun e w' ⟨h1, h2⟩ => ⟨h1, (below_drewN (Below.refl _ _) m).trans h2⟩
      clear HF
      go_region_with (first
        | (go_at_call 43; refine Calls.mono (HFm.out _) ?_; rintro e w2 ⟨rfl, hb2⟩; have q2 := (boxed_below HBX.out (Array.getElem?_eq_some_iff.1 HBX.out).1 hb2).cell; have HB2 := hd hb2; clear hb2)
        | (go_at_call 41; refine Calls.mono (HW.out _) ?_; rintro e w3 ⟨u, rfl, hj3, hb3⟩; have hb13 := HB2.out.trans (hb3.mono HB2.out.size); have hbx3 := boxed_below HBX.out (Array.getElem?_eq_some_iff.1 HBX.out).1 hb13; have hjx3 := HJB.out.keepAll hb13; have hs13 := hb13.size; obtain ⟨a', cap, w4, hr, hJ4, hg4⟩ := run_append_jb 36 w3 (w.heap.size + 1) vf u bs el hjx3 hj3.isB (by omega) (by omega); have hr' : (apH #[36, 36] 36 #[vf, u]).run Try.prog w3 = .ok (.slice a' (bs.length + el.length) cap) w4 := hr; have q3 := hbx3.cell; have HJ4 := hd hJ4; have HG4 := hd (JB.grown hjx3 (HB1.out.trans (hb13.mono (by omega))) (by omega) (by omega) hg4); clear hj3 hb3 hb13 hbx3 hjx3 hr hJ4 hg4))
      all_goals
        go_wp2_with fail
        go_ret2
        exact ⟨.inl ⟨HM.out, _, rfl, by rw [HO.out]; exact HJ4.out.base (by omega)⟩, HG4.out⟩
    · have HM := hd (show ¬ May l ∧ Below w.heap.size w w1 by
        rcases hno with ⟨hncl, pre, hj⟩ | ⟨pre, _, ⟨x, hx, hxr⟩, hb⟩
        · exact ⟨fun h => hncl h.2.1, hj.2.1⟩
        · exact ⟨fun h => (by rw [h.2.2 x hx] at hxr; cases hxr), hb⟩)
      clear HT hno
      go_wp2_with fail
      go_ret2
      exact ⟨.inr ⟨HM.out.1, rfl⟩, HM.out.2⟩
end Vt
end Go.Proofs.Ytnjhbidialngmaa
namespace Go.Proofs.Ytnjhbidialngmaa
namespace Vt
/-- what is read of some frames -/
def stf (s : Option St) (fs : List Fr) : Option St := fs.foldl (fun s f => s.bind fun s => stp s f) s
theorem sts_stf (L : List Lc) : ∀ s, sts s L = stf s (L.map fun x => x.2.2) := by
  induction L with
  | nil => intro s; rfl
  | cons x r ih => intro s; exact ih _
theorem stf_app (s : Option St) (fs gs : List Fr) : stf s (fs ++ gs) = stf (stf s fs) gs := by unfold stf; rw [List.foldl_append]
/-- pointers one behind the other -/
def pch : Int → List Ptr → Prop
  | _, [] => True
  | a, p :: r => p.at_ = a ∧ pch (a + p.len) r
def psum (ps : List Ptr) : Int := (ps.map fun p => p.len).sum
theorem psum_cons (p : Ptr) (r : List Ptr) : psum (p :: r) = p.len + psum r := by simp [psum]
theorem stf_hints (ps : List Ptr) : ∀ (qs : List Ptr) (e : Edg) (a : Int), pch a ps → stf (some ⟨qs, e, false, a⟩) (ps.map hfr) = some ⟨qs ++ ps, e, false, a + psum ps⟩ := by
  induction ps with
  | nil => intro qs e a _; simp [stf, psum]
  | cons p r ih =>
    intro qs e a ⟨h1, h2⟩
    have e1 : stp ⟨qs, e, false, a⟩ (hfr p) = some ⟨qs ++ [p], e, false, a + p.len⟩ := by
      unfold stp hfr
      simp [h1]
    have := ih (qs ++ [p]) e (a + p.len) h2
    rw [List.map_cons]
    show stf (stp ⟨qs, e, false, a⟩ (hfr p)) (r.map hfr) = _
    rw [e1, this, psum_cons]
    simp [Int.add_assoc]
theorem stf_file (ps : List Ptr) (e : Edg) (h : pch 0 ps) : stf (some st0) (ps.map hfr ++ [ffr e]) = some ⟨ps, e, true, psum ps⟩ := by
  rw [stf_app]
  have := stf_hints ps [] ze 0 h
  unfold st0
  rw [this]
  simp [stf, stp, ffr]
/-- what is a hint file by its form -/
def file (ps : List Ptr) (e : Edg) : List Nat := ((ps.map hfr ++ [ffr e]).map en).flatten
theorem file_ok {ps : List Ptr} {e : Edg} (h1 : ∀ p ∈ ps, rf (hfr p) = 0 ∧ (hfr p).Wf) (h2 : rf (ffr e) = 0 ∧ (ffr e).Wf) : (∀ f ∈ ps.map hfr ++ [ffr e], f.Wf ∧ rf f = 0) ∧ Byt (file ps e) := by
  have h : ∀ f ∈ ps.map hfr ++ [ffr e], f.Wf ∧ rf f = 0 := by
    intro f hf
    rcases List.mem_append.1 hf with hf | hf
    · obtain ⟨p, hp, rfl⟩ := List.mem_map.1 hf
      exact ⟨(h1 p hp).2, (h1 p hp).1⟩
    · rw [List.mem_singleton] at hf; subst hf; exact ⟨h2.2, h2.1⟩
  refine ⟨h, ?_⟩
  intro x hx
  obtain ⟨q, hq, hxq⟩ := List.mem_flatten.1 hx
  obtain ⟨f, hf, rfl⟩ := List.mem_map.1 hq
  exact en_bytH (h f hf).2 x hxq
theorem ldS_file {ps : List Ptr} {e : Edg} (h1 : ∀ p ∈ ps, rf (hfr p) = 0 ∧ (hfr p).Wf) (h2 : rf (ffr e) = 0 ∧ (ffr e).Wf) (hc : pch 0 ps) (he : e.count = (ps.length : Int) ∧ e.frames = (ps.length : Int) ∧ e.bytes = psum ps) : ldS (file ps e) = some ⟨ps, e, true, psum ps⟩ := by
  obtain ⟨h, hb⟩ := file_ok h1 h2
  unfold ldS
  unfold file at hb ⊢
  rw [if_pos (lay_cl h hb), locs_lay h hb, sts_stf, lay_snd, stf_file ps e hc]
  have hg : good ⟨ps, e, true, psum ps⟩ := ⟨rfl, he⟩
  simp [hg]
/-- places one behind the other -/
def chn : Nat → List Lc → Prop
  | _, [] => True
  | a, x :: r => x.1 = a ∧ chn (a + x.2.1) r
theorem cl_chn {l : List Nat} (hb : Byt l) : ∀ n, l.length ≤ n → ∀ at_, sml (locs at_ l) = l.length → chn at_ (locs at_ l) := by
  intro n
  induction n generalizing l with
  | zero =>
    intro h at_ _
    obtain rfl : l = [] := List.length_eq_zero_iff.1 (by omega)
    simp [locs, chn]
  | succ n ih =>
    intro h at_ hs
    by_cases hne : l = []
    · subst hne; simp [locs, chn]
    · have hlen : 1 ≤ l.length := by cases l with
        | nil => exact absurd rfl hne
        | cons x r => simp
      by_cases he : (dcd l).2.2 = 0
      · obtain ⟨_, _, e3, e4, e5⟩ := en_dcd hb he
        have hp := en_pos (dcd l).1
        rw [locs_ok hb at_ he] at hs ⊢
        rw [sml_cons] at hs
        simp only at hs
        have := ih (l := l.drop (dcd l).2.1) (byt_drop hb _) (by rw [List.length_drop]; omega) (at_ + (dcd l).2.1) (by rw [List.length_drop]; omega)
        exact ⟨rfl, this⟩
      · rw [locs_err he] at hs
        have := sml_le (byt_drop hb 1) _ (Nat.le_refl _) (at_ + 1)
        rw [List.length_drop] at this
        omega
theorem chn_pch (L : List Lc) : ∀ a : Nat, chn a L → pch (a : Int) (L.map pto) := by
  induction L with
  | nil => intro a _; trivial
  | cons x r ih =>
    intro a ⟨h1, h2⟩
    refine ⟨by show ((x.1 : Nat) : Int) = _; rw [h1], ?_⟩
    have := ih (a + x.2.1) h2
    rw [Int.natCast_add] at this
    exact this
theorem psum_pto (L : List Lc) : psum (L.map pto) = (sml L : Int) := by
  induction L with
  | nil => rfl
  | cons x r ih => rw [List.map_cons, psum_cons, ih, sml_cons]; simp [pto, ptr]
theorem hof_file (l : List Nat) : hof l = file ((locs 0 l).map pto) (edg l) := by
  unfold hof hbs file
  simp [Function.comp_def]
theorem ldS_hof {l : List Nat} (hb : Byt l) (h : May l) : ldS (hof l) = some ⟨(locs 0 l).map pto, edg l, true, (l.length : Int)⟩ := by
  obtain ⟨h1, h2, h3⟩ := h
  have hps : psum ((locs 0 l).map pto) = (l.length : Int) := by rw [psum_pto]; exact congrArg _ h2
  have hfo : ∀ p ∈ (locs 0 l).map pto, rf (hfr p) = 0 ∧ (hfr p).Wf := fun p hp => by
    obtain ⟨x, hx, rfl⟩ := List.mem_map.1 hp
    exact hfr_ok hb h1 hx (h3 x hx)
  rw [hof_file, ldS_file hfo (ffr_ok hb h1) (chn_pch _ 0 (cl_chn hb _ (Nat.le_refl _) 0 h2)) (by rw [List.length_map, hps]; exact ⟨rfl, rfl, rfl⟩), hps]
end Vt
end Go.Proofs.Ytnjhbidialngmaa
