/-
  WHERE RECORDS STAND, PLAINLY: a segment's bytes are its frames; a frame is found at a record's own place alone.
  RECORDS PUT ONE BEHIND THE OTHER, whatever they are, PLAINLY: nothing is refused; where they stand; which stand in which segment.
-/
import Derived.Test.YtolddolfpnkndaaGreatXubg
import Derived.Test.YtolddolfpnkndaaGreatXubk
namespace Go.Proofs.YtolddolfpnkndaaGreat
open Go.RowKit
namespace Sg
open Vt Dk
noncomputable def fA (ls : List Ln) (i : Nat) : List Nat := fB (ls.getD i zl) i
noncomputable def dat (ls : List Ln) (s : List Nat) : List Nat := (s.map (fA ls)).flatten
theorem files_inj {k : Nat} {a b : List (List Nat)} (h : files k a = files k b) : a = b := by
  induction a generalizing k b with
  | nil =>
    cases b with
    | nil => rfl
    | cons y r => cases h
  | cons x r ih =>
    cases b with
    | nil => cases h
    | cons y q =>
      injection h with h1 h2
      injection h1 with _ h1 _
      rw [h1, ih h2]
theorem Iv.uniq {W : Ws} {S : Ds} {o o' : List (List Nat)} {c c' : List Nat} {s s' : Nat} (h : Iv W S o c s) (g : Iv W S o' c' s') : o = o' ∧ c = c' := by
  have e := h.fs.symm.trans g.fs
  have hl : (files 1 o).length = (files 1 o').length := by
    have := congrArg List.length e
    simpa using this
  obtain ⟨e1, e2⟩ := List.append_inj e hl
  injection e2 with e2 _
  injection e2 with _ e2 _
  exact ⟨files_inj e1, e2⟩
/-- which lines stand in which segment -/
structure Sx (ls : List Ln) (X : Ws × Ds) (k : Nat) (segs : List (List Nat)) : Prop where
  flat : segs.flatten = List.range k
  iv : (k = 0 ∧ segs = []) ∨ ∃ init last las, segs = init ++ [last] ∧ Iv (sat ls X k).1 (sat ls X k).2 (init.map (dat ls)) (dat ls last) las
  pl : ∀ (j : Nat) (s : List Nat), segs[j]? = some s → ∀ a i b, s = a ++ i :: b → plc (ls.getD i zl) i (sat ls X i) = (j + 1, (dat ls a).length, (fA ls i).length)
theorem files_mem {k j : Nat} {a : List (List Nat)} {x : List Nat} (h : a[j]? = some x) : (⟨nmS (k + j), x, x.length⟩ : Fi) ∈ files k a := by
  induction a generalizing k j with
  | nil => simp at h
  | cons y r ih =>
    cases j with
    | zero =>
      have : y = x := by simpa using h
      subst this
      exact List.mem_cons_self
    | succ j =>
      have := ih (k := k + 1) (j := j) (by simpa using h)
      rw [show k + 1 + j = k + (j + 1) by omega] at this
      exact List.mem_cons_of_mem _ this
/-- the file of a segment -/
theorem Sx.file {ls : List Ln} {X : Ws × Ds} {k : Nat} {segs : List (List Nat)} (h : Sx ls X k segs) {j : Nat} {s : List Nat} (hj : segs[j]? = some s) : ∃ las, get (sat ls X k).2.fs (nmS (j + 1)) = some ⟨nmS (j + 1), dat ls s, las⟩ := by
  rcases h.iv with ⟨_, rfl⟩ | ⟨init, last, las, rfl, hi⟩
  · simp at hj
  · by_cases hji : j < init.length
    · rw [List.getElem?_append_left hji] at hj
      refine ⟨(dat ls s).length, get_of_mem hi.good.names (f := ⟨nmS (j + 1), dat ls s, (dat ls s).length⟩) ?_⟩
      rw [hi.fs]
      refine List.mem_append_left _ ?_
      rw [Nat.add_comm j 1]
      exact files_mem (by rw [List.getElem?_map, hj]; rfl)
    · rw [List.getElem?_append_right (by omega)] at hj
      have hj0 : j = init.length := by
        rcases Nat.lt_or_ge (j - init.length) 1 with q | q
        · omega
        · rw [List.getElem?_eq_none (by simpa using q)] at hj; cases hj
      subst hj0
      rw [Nat.sub_self] at hj
      have e0 : last = s := by simpa using hj
      subst e0
      refine ⟨las, get_of_mem hi.good.names (f := ⟨nmS (init.length + 1), dat ls last, las⟩) ?_⟩
      rw [hi.fs, List.length_map]
      exact List.mem_append_right _ (List.mem_singleton.2 rfl)
theorem en_bytS {f : Fr} (h : rf f = 0) : Byt (en f) := by
  rw [en_eq]
  intro x hx
  rcases List.mem_cons.1 hx with rfl | hx
  · decide
  · exact byt_app (dg_byt _ _) (byt_app (wr_byt (bd_byt h)) (dg_byt _ _)) x hx
end Sg
end Go.Proofs.YtolddolfpnkndaaGreat
namespace Go.Proofs.YtolddolfpnkndaaGreat
open Go.RowKit
namespace Sg
open Vt Dk
/-- records that may be, the first N of a row -/
structure Rok (rs : Nat → Rec) (N : Nat) : Prop where
  rf : ∀ i, i < N → rf (ofR (rs i)) = 0
  wf : ∀ i, i < N → (ofR (rs i)).Wf
  len : ∀ i, i < N → (en (ofR (rs i))).length ≤ 4409
  kind : ∀ i, i < N → (rs i).kind = 1 ∨ (rs i).kind = 2
  le : N ≤ 101
section
variable (rs : Nat → Rec) (sy : Nat → Bool) (ex : Nat → Nat)
/-- acts besides, that change nothing (reads) -/
def bump (n : Nat) (X : Ws × Ds) : Ws × Ds := (X.1, { X.2 with acts := X.2.acts + n })
/-- the frame of the i-th record -/
noncomputable def gB (i : Nat) : List Nat := en (ofR (rs i))
noncomputable def gst0 (i : Nat) (X : Ws × Ds) : Ws × Ds := if sy i then (syR (pt X.1 X.2 (gB rs i)).2.1 (pt X.1 X.2 (gB rs i)).2.2).2 else (pt X.1 X.2 (gB rs i)).2
noncomputable def gstp (i : Nat) (X : Ws × Ds) : Ws × Ds := bump (ex i) (gst0 rs sy i X)
noncomputable def gsat (X : Ws × Ds) : Nat → Ws × Ds
  | 0 => X
  | k + 1 => gstp rs sy ex k (gsat X k)
noncomputable def gplc (i : Nat) (X : Ws × Ds) : Nat × Nat × Nat := ((pre X.1 X.2 (gB rs i).length).2.1.num, (pre X.1 X.2 (gB rs i).length).2.1.laid, (gB rs i).length)
noncomputable def gpls (X : Ws × Ds) (c : Nat) : Nat → List (Nat × Nat × Nat)
  | 0 => []
  | k + 1 => gpls X c k ++ [gplc rs (c + k) (gsat rs sy ex X (c + k))]
end
/-- what holds behind k records -/
structure Gk (cp lim evy : Nat) (k : Nat) (X : Ws × Ds) : Prop where
  lim : X.1.lim = lim
  evy : X.1.evy = evy
  cap : X.2.cap = cp
  used : X.2.used ≤ 4409 * k
  acts : X.2.acts ≤ 6 * k
  uns : X.1.uns ≤ k
  at_ : (k = 0 ∧ Iv0 X.1 X.2) ∨ (0 < k ∧ ∃ old cur las, Iv X.1 X.2 old cur las ∧ old.length < k ∧ cur.length ≤ 4409 * k ∧ 0 < cur.length)
theorem gk0 (cp lim evy : Nat) (h : cp ≤ 4194304) : Gk cp lim evy 0 (⟨lim, evy, true, 0, 0, 0⟩, ds0 cp) :=
  ⟨rfl, rfl, rfl, Nat.zero_le _, Nat.le_refl _, Nat.le_refl _, .inl ⟨rfl, rfl, rfl, rfl, rfl, rfl, ⟨rfl, rfl, rfl⟩, good0 (by omega)⟩⟩
section
variable {rs : Nat → Rec} {sy : Nat → Bool} {ex : Nat → Nat} {N : Nat}
theorem Iv.bump {X : Ws × Ds} {o : List (List Nat)} {c : List Nat} {s : Nat} (h : Iv X.1 X.2 o c s) (n : Nat) : Iv (bump n X).1 (bump n X).2 o c s := by
  obtain ⟨h1, h2, h3, h4, h5, ⟨f1, f2, f3⟩, g⟩ := h
  refine ⟨h1, h2, h3, h4, h5, ⟨f1, f2, f3⟩, ?_⟩
  obtain ⟨g1, g2, g3, g4, g5, g6, g7, g8, g9⟩ := g
  exact ⟨g1, g2, g3, g4, g5, g6, g7, g8, by show X.2.fs.length ≤ X.2.acts + n + 200; omega⟩
/-- one record more: what is answered, where it stands, what holds then -/
theorem Gk.step (hr : Rok rs N) (he : ∀ i, ex i ≤ 1) {cp lim evy k : Nat} {X : Ws × Ds} (hcp : 600000 ≤ cp) (h : Gk cp lim evy k X) (hk : k < N) :
    (pt X.1 X.2 (gB rs k)).1 = 0 ∧ (syR (pt X.1 X.2 (gB rs k)).2.1 (pt X.1 X.2 (gB rs k)).2.2).1 = 0 ∧ Gk cp lim evy (k + 1) (gstp rs sy ex k X) ∧ (pt X.1 X.2 (gB rs k)).2.1.op = true ∧ (pt X.1 X.2 (gB rs k)).2.2.acts ≤ 6 * k + 4 ∧ Nam.Nu (pt X.1 X.2 (gB rs k)).2.1.num ∧
    ∃ old cur0 las, Iv (gstp rs sy ex k X).1 (gstp rs sy ex k X).2 old (cur0 ++ gB rs k) las ∧ gplc rs k X = (old.length + 1, cur0.length, (gB rs k).length) ∧ (sy k = true → las = (cur0 ++ gB rs k).length) ∧
      ((k = 0 ∧ old = [] ∧ cur0 = []) ∨ ∃ o c s, Iv X.1 X.2 o c s ∧ ((fit X.1 (gB rs k).length = true ∧ old = o ∧ cur0 = c) ∨ (fit X.1 (gB rs k).length = false ∧ old = o ++ [c] ∧ cur0 = []))) := by
  have hN := hr.le
  have hfl : (gB rs k).length ≤ 4409 := hr.len k hk
  have hroom : X.2.used + (gB rs k).length ≤ X.2.cap := by rw [h.cap]; have := h.used; omega
  have main : ∀ {old cur0 : List _} {las0 uns0 las' : Nat}, (pt X.1 X.2 (gB rs k)).1 = 0 → Pu X.1 (pt X.1 X.2 (gB rs k)).2.1 X.2 (pt X.1 X.2 (gB rs k)).2.2 old cur0 (gB rs k) las0 uns0 las' → uns0 ≤ k → old.length ≤ k → cur0.length ≤ 4409 * k →
      (syR (pt X.1 X.2 (gB rs k)).2.1 (pt X.1 X.2 (gB rs k)).2.2).1 = 0 ∧ Gk cp lim evy (k + 1) (gstp rs sy ex k X) ∧ (pt X.1 X.2 (gB rs k)).2.1.op = true ∧ (pt X.1 X.2 (gB rs k)).2.2.acts ≤ 6 * k + 4 ∧ Nam.Nu (pt X.1 X.2 (gB rs k)).2.1.num ∧ ∃ las, Iv (gstp rs sy ex k X).1 (gstp rs sy ex k X).2 old (cur0 ++ gB rs k) las ∧ (sy k = true → las = (cur0 ++ gB rs k).length) := by
    intro old cur0 las0 uns0 las' h0 hp hu ho hc
    obtain ⟨s1, s2, s3, s4⟩ := sy_iv hp.iv
    have ha := hp.st.acts
    have hus := hp.st.used
    have hcp' := hp.st.cap
    have h1 := h.acts
    have h2 := h.used
    have hun : (pt X.1 X.2 (gB rs k)).2.1.uns ≤ k + 1 := by rcases hp.las with ⟨_, q, _⟩ | ⟨_, q⟩ <;> omega
    have hcl : (cur0 ++ gB rs k).length ≤ 4409 * (k + 1) := by rw [List.length_append]; omega
    have hcp0 : 0 < (cur0 ++ gB rs k).length := by rw [List.length_append]; unfold gB; rw [en_len]; omega
    refine ⟨s1, ?_, hp.iv.op, by omega, by rw [hp.iv.num]; exact ⟨by omega, by omega⟩, ?_⟩
    · have hek := he k
      by_cases hs : sy k = true
      · have e0 : gst0 rs sy k X = (syR (pt X.1 X.2 (gB rs k)).2.1 (pt X.1 X.2 (gB rs k)).2.2).2 := by unfold gst0; rw [if_pos hs]
        unfold gstp
        rw [e0]
        have a4 := s4.acts
        have u4 := s4.used
        refine ⟨?_, ?_, ?_, ?_, ?_, ?_, .inr ⟨by omega, old, cur0 ++ gB rs k, (cur0 ++ gB rs k).length, Iv.bump ?_ _, by omega, hcl, hcp0⟩⟩
        · show (syR _ _).2.1.lim = _; rw [s2]; exact hp.lim.trans h.lim
        · show (syR _ _).2.1.evy = _; rw [s2]; exact hp.evy.trans h.evy
        · show (syR _ _).2.2.cap = _; rw [s4.cap, hcp', h.cap]
        · show (syR _ _).2.2.used ≤ _; omega
        · show (syR _ _).2.2.acts + ex k ≤ _; omega
        · show (syR _ _).2.1.uns ≤ _; rw [s2]; exact Nat.zero_le _
        · rw [s2]; exact s3
      · have e0 : gst0 rs sy k X = (pt X.1 X.2 (gB rs k)).2 := by unfold gst0; rw [if_neg hs]
        unfold gstp
        rw [e0]
        refine ⟨hp.lim.trans h.lim, hp.evy.trans h.evy, hcp'.trans h.cap, ?_, ?_, hun, .inr ⟨by omega, old, _, _, hp.iv.bump _, by omega, hcl, hcp0⟩⟩
        · show (pt X.1 X.2 (gB rs k)).2.2.used ≤ _; omega
        · show (pt X.1 X.2 (gB rs k)).2.2.acts + ex k ≤ _; omega
    · by_cases hs : sy k = true
      · have e0 : gst0 rs sy k X = (syR (pt X.1 X.2 (gB rs k)).2.1 (pt X.1 X.2 (gB rs k)).2.2).2 := by unfold gst0; rw [if_pos hs]
        unfold gstp
        rw [e0]
        refine ⟨_, Iv.bump (by rw [s2]; exact s3) _, fun _ => rfl⟩
      · have e0 : gst0 rs sy k X = (pt X.1 X.2 (gB rs k)).2 := by unfold gst0; rw [if_neg hs]
        unfold gstp
        rw [e0]
        exact ⟨_, hp.iv.bump _, fun q => absurd q hs⟩
  rcases h.at_ with ⟨rfl, hi⟩ | ⟨hk0, o, c, s, hi, ho, hc, _⟩
  · obtain ⟨p1, p2, p3, las', p4⟩ := pt_iv0 hi (gB rs 0) hroom
    obtain ⟨m1, m2, m3, m4, m5, las, m6, m7⟩ := main p1 p4 (Nat.le_refl _) (Nat.le_refl _) (Nat.le_refl _)
    exact ⟨p1, m1, m2, m3, m4, m5, [], [], las, m6, by unfold gplc; rw [p2, p3]; rfl, m7, .inl ⟨rfl, rfl, rfl⟩⟩
  · obtain ⟨p1, las', ⟨f1, p2, p3, p4⟩ | ⟨f1, p2, p3, p4⟩⟩ := pt_iv hi (gB rs k) hroom (by omega)
    · obtain ⟨m1, m2, m3, m4, m5, las, m6, m7⟩ := main p1 p4 h.uns (by omega) hc
      exact ⟨p1, m1, m2, m3, m4, m5, o, c, las, m6, by unfold gplc; rw [p2, p3], m7, .inr ⟨o, c, s, hi, .inl ⟨f1, rfl, rfl⟩⟩⟩
    · obtain ⟨m1, m2, m3, m4, m5, las, m6, m7⟩ := main p1 p4 (Nat.zero_le _) (by rw [List.length_append]; simp; omega) (Nat.zero_le _)
      exact ⟨p1, m1, m2, m3, m4, m5, o ++ [c], [], las, m6, by unfold gplc; rw [p2, p3]; simp, m7, .inr ⟨o, c, s, hi, .inr ⟨f1, rfl, rfl⟩⟩⟩
theorem gsat_ok (hr : Rok rs N) (he : ∀ i, ex i ≤ 1) {cp lim evy : Nat} (hcp : 600000 ≤ cp) {X : Ws × Ds} (h0 : Gk cp lim evy 0 X) : ∀ k, k ≤ N → Gk cp lim evy k (gsat rs sy ex X k)
  | 0, _ => h0
  | k + 1, h => ((gsat_ok hr he hcp h0 k (by omega)).step (sy := sy) (ex := ex) hr he hcp (by omega)).2.2.1
end
section
variable (rs : Nat → Rec) (sy : Nat → Bool) (ex : Nat → Nat)
noncomputable def gdat (s : List Nat) : List Nat := (s.map (gB rs)).flatten
theorem gdat_cons (i : Nat) (s : List Nat) : gdat rs (i :: s) = gB rs i ++ gdat rs s := rfl
theorem gdat_app (a b : List Nat) : gdat rs (a ++ b) = gdat rs a ++ gdat rs b := by unfold gdat; rw [List.map_append, List.flatten_append]
theorem gdat_one (i : Nat) : gdat rs [i] = gB rs i := by unfold gdat; simp
/-- which records stand in which segment -/
structure Gx (X : Ws × Ds) (k : Nat) (segs : List (List Nat)) : Prop where
  flat : segs.flatten = List.range k
  iv : (k = 0 ∧ segs = []) ∨ ∃ init last las, segs = init ++ [last] ∧ Iv (gsat rs sy ex X k).1 (gsat rs sy ex X k).2 (init.map (gdat rs)) (gdat rs last) las
  pl : ∀ (j : Nat) (s : List Nat), segs[j]? = some s → ∀ a i b, s = a ++ i :: b → gplc rs i (gsat rs sy ex X i) = (j + 1, (gdat rs a).length, (gB rs i).length)
end
section
variable {rs : Nat → Rec} {sy : Nat → Bool} {ex : Nat → Nat} {N : Nat}
/-- the file of a segment -/
theorem Gx.file {X : Ws × Ds} {k : Nat} {segs : List (List Nat)} (h : Gx rs sy ex X k segs) {j : Nat} {s : List Nat} (hj : segs[j]? = some s) : ∃ las, get (gsat rs sy ex X k).2.fs (nmS (j + 1)) = some ⟨nmS (j + 1), gdat rs s, las⟩ := by
  rcases h.iv with ⟨_, rfl⟩ | ⟨init, last, las, rfl, hi⟩
  · simp at hj
  · by_cases hji : j < init.length
    · rw [List.getElem?_append_left hji] at hj
      refine ⟨(gdat rs s).length, get_of_mem hi.good.names (f := ⟨nmS (j + 1), gdat rs s, (gdat rs s).length⟩) ?_⟩
      rw [hi.fs]
      refine List.mem_append_left _ ?_
      rw [Nat.add_comm j 1]
      exact files_mem (by rw [List.getElem?_map, hj]; rfl)
    · rw [List.getElem?_append_right (by omega)] at hj
      have hj0 : j = init.length := by
        rcases Nat.lt_or_ge (j - init.length) 1 with q | q
        · omega
        · rw [List.getElem?_eq_none (by simpa using q)] at hj; cases hj
      subst hj0
      rw [Nat.sub_self] at hj
      have e0 : last = s := by simpa using hj
      subst e0
      refine ⟨las, get_of_mem hi.good.names (f := ⟨nmS (init.length + 1), gdat rs last, las⟩) ?_⟩
      rw [hi.fs, List.length_map]
      exact List.mem_append_right _ (List.mem_singleton.2 rfl)
theorem gdat_byt (hr : Rok rs N) : ∀ s : List Nat, (∀ i ∈ s, i < N) → Byt (gdat rs s)
  | [], _ => fun x hx => by cases hx
  | i :: s, h => by
    rw [gdat_cons]
    exact byt_app (en_bytS (hr.rf i (h i List.mem_cons_self))) (gdat_byt hr s fun k hk => h k (List.mem_cons_of_mem _ hk))
theorem Gx.lt {X : Ws × Ds} {n : Nat} {segs : List (List Nat)} (h : Gx rs sy ex X n segs) {j i : Nat} {s : List Nat} (hj : segs[j]? = some s) (hi : i ∈ s) : i < n := by
  have : i ∈ segs.flatten := List.mem_flatten.2 ⟨s, List.mem_of_getElem? hj, hi⟩
  rw [h.flat] at this
  exact List.mem_range.1 this
end
end Sg
end Go.Proofs.YtolddolfpnkndaaGreat
