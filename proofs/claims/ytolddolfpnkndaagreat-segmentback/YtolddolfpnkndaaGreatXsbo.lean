/-
  WHERE RECORDS STAND, PLAINLY: a segment's bytes are its frames; a frame is found at a record's own place alone.
  RECORDS PUT ONE BEHIND THE OTHER, whatever they are, PLAINLY: nothing is refused; where they stand; which stand in which segment.
  THE WALK OF THE LAW'S written, from any state behind records that were put: all lines are put, their places gathered.
-/
import Derived.Test.YtolddolfpnkndaaGreatXsbk
import Derived.Test.YtolddolfpnkndaaGreatXsbn
import Derived.Test.YtolddolfpnkndaaGreatXsbl
namespace Go.Proofs.YtolddolfpnkndaaGreat
open Go.RowKit
namespace Sg
open Vt Dk
noncomputable def fA (ls : List Ln) (i : Nat) : List Nat := fB (ls.getD i zl) i
noncomputable def dat (ls : List Ln) (s : List Nat) : List Nat := (s.map (fA ls)).flatten
theorem files_inj {k : Nat} {a b : List (List Nat)} (h : files k a = files k b) : a = b := by
  induction a generalizing k b with
  | nil =>
    cases b with
    | nil => rfl
    | cons y r => cases h
  | cons x r ih =>
    cases b with
    | nil => cases h
    | cons y q =>
      injection h with h1 h2
      injection h1 with _ h1 _
      rw [h1, ih h2]
theorem Iv.uniq {W : Ws} {S : Ds} {o o' : List (List Nat)} {c c' : List Nat} {s s' : Nat} (h : Iv W S o c s) (g : Iv W S o' c' s') : o = o' ∧ c = c' := by
  have e := h.fs.symm.trans g.fs
  have hl : (files 1 o).length = (files 1 o').length := by
    have := congrArg List.length e
    simpa using this
  obtain ⟨e1, e2⟩ := List.append_inj e hl
  injection e2 with e2 _
  injection e2 with _ e2 _
  exact ⟨files_inj e1, e2⟩
/-- which lines stand in which segment -/
structure Sx (ls : List Ln) (X : Ws × Ds) (k : Nat) (segs : List (List Nat)) : Prop where
  flat : segs.flatten = List.range k
  iv : (k = 0 ∧ segs = []) ∨ ∃ init last las, segs = init ++ [last] ∧ Iv (sat ls X k).1 (sat ls X k).2 (init.map (dat ls)) (dat ls last) las
  pl : ∀ (j : Nat) (s : List Nat), segs[j]? = some s → ∀ a i b, s = a ++ i :: b → plc (ls.getD i zl) i (sat ls X i) = (j + 1, (dat ls a).length, (fA ls i).length)
theorem snoc_split {l a b : List Nat} {x i : Nat} (h : l ++ [x] = a ++ i :: b) : (b = [] ∧ i = x ∧ a = l) ∨ ∃ b', b = b' ++ [x] ∧ l = a ++ i :: b' := by
  rcases List.eq_nil_or_concat b with rfl | ⟨b', y, rfl⟩
  · have := List.append_inj' h rfl
    injection this.2 with h2
    exact .inl ⟨rfl, h2.symm, this.1.symm⟩
  · rw [List.concat_eq_append] at h ⊢
    have h' : l ++ [x] = (a ++ i :: b') ++ [y] := by rw [h]; simp
    have := List.append_inj' h' rfl
    injection this.2 with h2
    exact .inr ⟨b', by rw [h2], this.1⟩
theorem files_mem {k j : Nat} {a : List (List Nat)} {x : List Nat} (h : a[j]? = some x) : (⟨nmS (k + j), x, x.length⟩ : Fi) ∈ files k a := by
  induction a generalizing k j with
  | nil => simp at h
  | cons y r ih =>
    cases j with
    | zero =>
      have : y = x := by simpa using h
      subst this
      exact List.mem_cons_self
    | succ j =>
      have := ih (k := k + 1) (j := j) (by simpa using h)
      rw [show k + 1 + j = k + (j + 1) by omega] at this
      exact List.mem_cons_of_mem _ this
/-- the file of a segment -/
theorem Sx.file {ls : List Ln} {X : Ws × Ds} {k : Nat} {segs : List (List Nat)} (h : Sx ls X k segs) {j : Nat} {s : List Nat} (hj : segs[j]? = some s) : ∃ las, get (sat ls X k).2.fs (nmS (j + 1)) = some ⟨nmS (j + 1), dat ls s, las⟩ := by
  rcases h.iv with ⟨_, rfl⟩ | ⟨init, last, las, rfl, hi⟩
  · simp at hj
  · by_cases hji : j < init.length
    · rw [List.getElem?_append_left hji] at hj
      refine ⟨(dat ls s).length, get_of_mem hi.good.names (f := ⟨nmS (j + 1), dat ls s, (dat ls s).length⟩) ?_⟩
      rw [hi.fs]
      refine List.mem_append_left _ ?_
      rw [Nat.add_comm j 1]
      exact files_mem (by rw [List.getElem?_map, hj]; rfl)
    · rw [List.getElem?_append_right (by omega)] at hj
      have hj0 : j = init.length := by
        rcases Nat.lt_or_ge (j - init.length) 1 with q | q
        · omega
        · rw [List.getElem?_eq_none (by simpa using q)] at hj; cases hj
      subst hj0
      rw [Nat.sub_self] at hj
      have e0 : last = s := by simpa using hj
      subst e0
      refine ⟨las, get_of_mem hi.good.names (f := ⟨nmS (init.length + 1), dat ls last, las⟩) ?_⟩
      rw [hi.fs, List.length_map]
      exact List.mem_append_right _ (List.mem_singleton.2 rfl)
theorem en_bytS {f : Fr} (h : rf f = 0) : Byt (en f) := by
  rw [en_eq]
  intro x hx
  rcases List.mem_cons.1 hx with rfl | hx
  · decide
  · exact byt_app (dg_byt _ _) (byt_app (wr_byt (bd_byt h)) (dg_byt _ _)) x hx
end Sg
end Go.Proofs.YtolddolfpnkndaaGreat
namespace Go.Proofs.YtolddolfpnkndaaGreat
open Go.RowKit
namespace Sg
open Vt Dk
/-- records that may be, the first N of a row -/
structure Rok (rs : Nat → Rec) (N : Nat) : Prop where
  rf : ∀ i, i < N → rf (ofR (rs i)) = 0
  wf : ∀ i, i < N → (ofR (rs i)).Wf
  len : ∀ i, i < N → (en (ofR (rs i))).length ≤ 4409
  kind : ∀ i, i < N → (rs i).kind = 1 ∨ (rs i).kind = 2
  le : N ≤ 101
section
variable (rs : Nat → Rec) (sy : Nat → Bool) (ex : Nat → Nat)
/-- acts besides, that change nothing (reads) -/
def bump (n : Nat) (X : Ws × Ds) : Ws × Ds := (X.1, { X.2 with acts := X.2.acts + n })
/-- the frame of the i-th record -/
noncomputable def gB (i : Nat) : List Nat := en (ofR (rs i))
noncomputable def gst0 (i : Nat) (X : Ws × Ds) : Ws × Ds := if sy i then (syR (pt X.1 X.2 (gB rs i)).2.1 (pt X.1 X.2 (gB rs i)).2.2).2 else (pt X.1 X.2 (gB rs i)).2
noncomputable def gstp (i : Nat) (X : Ws × Ds) : Ws × Ds := bump (ex i) (gst0 rs sy i X)
noncomputable def gsat (X : Ws × Ds) : Nat → Ws × Ds
  | 0 => X
  | k + 1 => gstp rs sy ex k (gsat X k)
noncomputable def gplc (i : Nat) (X : Ws × Ds) : Nat × Nat × Nat := ((pre X.1 X.2 (gB rs i).length).2.1.num, (pre X.1 X.2 (gB rs i).length).2.1.laid, (gB rs i).length)
noncomputable def gpls (X : Ws × Ds) (c : Nat) : Nat → List (Nat × Nat × Nat)
  | 0 => []
  | k + 1 => gpls X c k ++ [gplc rs (c + k) (gsat rs sy ex X (c + k))]
theorem gpls_len (X : Ws × Ds) (c k : Nat) : (gpls rs sy ex X c k).length = k := by
  induction k with
  | zero => rfl
  | succ k ih => show (gpls rs sy ex X c k ++ [_]).length = _; rw [List.length_append, ih]; rfl
theorem gpls_at (X : Ws × Ds) (c : Nat) {k n : Nat} (h : k < n) : (gpls rs sy ex X c n)[k]? = some (gplc rs (c + k) (gsat rs sy ex X (c + k))) := by
  induction n with
  | zero => omega
  | succ n ih =>
    show (gpls rs sy ex X c n ++ [_])[k]? = _
    by_cases e : k < n
    · rw [List.getElem?_append_left (by rw [gpls_len]; exact e)]; exact ih e
    · obtain rfl : k = n := by omega
      rw [List.getElem?_append_right (by rw [gpls_len]; exact Nat.le_refl _), gpls_len, Nat.sub_self]; rfl
end
/-- what holds behind k records -/
structure Gk (cp lim evy : Nat) (k : Nat) (X : Ws × Ds) : Prop where
  lim : X.1.lim = lim
  evy : X.1.evy = evy
  cap : X.2.cap = cp
  used : X.2.used ≤ 4409 * k
  acts : X.2.acts ≤ 6 * k
  uns : X.1.uns ≤ k
  at_ : (k = 0 ∧ Iv0 X.1 X.2) ∨ (0 < k ∧ ∃ old cur las, Iv X.1 X.2 old cur las ∧ old.length < k ∧ cur.length ≤ 4409 * k ∧ 0 < cur.length)
theorem gk0 (cp lim evy : Nat) (h : cp ≤ 4194304) : Gk cp lim evy 0 (⟨lim, evy, true, 0, 0, 0⟩, ds0 cp) :=
  ⟨rfl, rfl, rfl, Nat.zero_le _, Nat.le_refl _, Nat.le_refl _, .inl ⟨rfl, rfl, rfl, rfl, rfl, rfl, ⟨rfl, rfl, rfl⟩, good0 (by omega)⟩⟩
section
variable {rs : Nat → Rec} {sy : Nat → Bool} {ex : Nat → Nat} {N : Nat}
theorem Iv.bump {X : Ws × Ds} {o : List (List Nat)} {c : List Nat} {s : Nat} (h : Iv X.1 X.2 o c s) (n : Nat) : Iv (bump n X).1 (bump n X).2 o c s := by
  obtain ⟨h1, h2, h3, h4, h5, ⟨f1, f2, f3⟩, g⟩ := h
  refine ⟨h1, h2, h3, h4, h5, ⟨f1, f2, f3⟩, ?_⟩
  obtain ⟨g1, g2, g3, g4, g5, g6, g7, g8, g9⟩ := g
  exact ⟨g1, g2, g3, g4, g5, g6, g7, g8, by show X.2.fs.length ≤ X.2.acts + n + 200; omega⟩
/-- one record more: what is answered, where it stands, what holds then -/
theorem Gk.step (hr : Rok rs N) (he : ∀ i, ex i ≤ 1) {cp lim evy k : Nat} {X : Ws × Ds} (hcp : 600000 ≤ cp) (h : Gk cp lim evy k X) (hk : k < N) :
    (pt X.1 X.2 (gB rs k)).1 = 0 ∧ (syR (pt X.1 X.2 (gB rs k)).2.1 (pt X.1 X.2 (gB rs k)).2.2).1 = 0 ∧ Gk cp lim evy (k + 1) (gstp rs sy ex k X) ∧ (pt X.1 X.2 (gB rs k)).2.1.op = true ∧ (pt X.1 X.2 (gB rs k)).2.2.acts ≤ 6 * k + 4 ∧ Nam.Nu (pt X.1 X.2 (gB rs k)).2.1.num ∧
    ∃ old cur0 las, Iv (gstp rs sy ex k X).1 (gstp rs sy ex k X).2 old (cur0 ++ gB rs k) las ∧ gplc rs k X = (old.length + 1, cur0.length, (gB rs k).length) ∧ (sy k = true → las = (cur0 ++ gB rs k).length) ∧
      ((k = 0 ∧ old = [] ∧ cur0 = []) ∨ ∃ o c s, Iv X.1 X.2 o c s ∧ ((fit X.1 (gB rs k).length = true ∧ old = o ∧ cur0 = c) ∨ (fit X.1 (gB rs k).length = false ∧ old = o ++ [c] ∧ cur0 = []))) := by
  have hN := hr.le
  have hfl : (gB rs k).length ≤ 4409 := hr.len k hk
  have hroom : X.2.used + (gB rs k).length ≤ X.2.cap := by rw [h.cap]; have := h.used; omega
  have main : ∀ {old cur0 : List _} {las0 uns0 las' : Nat}, (pt X.1 X.2 (gB rs k)).1 = 0 → Pu X.1 (pt X.1 X.2 (gB rs k)).2.1 X.2 (pt X.1 X.2 (gB rs k)).2.2 old cur0 (gB rs k) las0 uns0 las' → uns0 ≤ k → old.length ≤ k → cur0.length ≤ 4409 * k →
      (syR (pt X.1 X.2 (gB rs k)).2.1 (pt X.1 X.2 (gB rs k)).2.2).1 = 0 ∧ Gk cp lim evy (k + 1) (gstp rs sy ex k X) ∧ (pt X.1 X.2 (gB rs k)).2.1.op = true ∧ (pt X.1 X.2 (gB rs k)).2.2.acts ≤ 6 * k + 4 ∧ Nam.Nu (pt X.1 X.2 (gB rs k)).2.1.num ∧ ∃ las, Iv (gstp rs sy ex k X).1 (gstp rs sy ex k X).2 old (cur0 ++ gB rs k) las ∧ (sy k = true → las = (cur0 ++ gB rs k).length) := by
    intro old cur0 las0 uns0 las' h0 hp hu ho hc
    obtain ⟨s1, s2, s3, s4⟩ := sy_iv hp.iv
    have ha := hp.st.acts
    have hus := hp.st.used
    have hcp' := hp.st.cap
    have h1 := h.acts
    have h2 := h.used
    have hun : (pt X.1 X.2 (gB rs k)).2.1.uns ≤ k + 1 := by rcases hp.las with ⟨_, q, _⟩ | ⟨_, q⟩ <;> omega
    have hcl : (cur0 ++ gB rs k).length ≤ 4409 * (k + 1) := by rw [List.length_append]; omega
    have hcp0 : 0 < (cur0 ++ gB rs k).length := by rw [List.length_append]; unfold gB; rw [en_len]; omega
    refine ⟨s1, ?_, hp.iv.op, by omega, by rw [hp.iv.num]; exact ⟨by omega, by omega⟩, ?_⟩
    · have hek := he k
      by_cases hs : sy k = true
      · have e0 : gst0 rs sy k X = (syR (pt X.1 X.2 (gB rs k)).2.1 (pt X.1 X.2 (gB rs k)).2.2).2 := by unfold gst0; rw [if_pos hs]
        unfold gstp
        rw [e0]
        have a4 := s4.acts
        have u4 := s4.used
        refine ⟨?_, ?_, ?_, ?_, ?_, ?_, .inr ⟨by omega, old, cur0 ++ gB rs k, (cur0 ++ gB rs k).length, Iv.bump ?_ _, by omega, hcl, hcp0⟩⟩
        · show (syR _ _).2.1.lim = _; rw [s2]; exact hp.lim.trans h.lim
        · show (syR _ _).2.1.evy = _; rw [s2]; exact hp.evy.trans h.evy
        · show (syR _ _).2.2.cap = _; rw [s4.cap, hcp', h.cap]
        · show (syR _ _).2.2.used ≤ _; omega
        · show (syR _ _).2.2.acts + ex k ≤ _; omega
        · show (syR _ _).2.1.uns ≤ _; rw [s2]; exact Nat.zero_le _
        · rw [s2]; exact s3
      · have e0 : gst0 rs sy k X = (pt X.1 X.2 (gB rs k)).2 := by unfold gst0; rw [if_neg hs]
        unfold gstp
        rw [e0]
        refine ⟨hp.lim.trans h.lim, hp.evy.trans h.evy, hcp'.trans h.cap, ?_, ?_, hun, .inr ⟨by omega, old, _, _, hp.iv.bump _, by omega, hcl, hcp0⟩⟩
        · show (pt X.1 X.2 (gB rs k)).2.2.used ≤ _; omega
        · show (pt X.1 X.2 (gB rs k)).2.2.acts + ex k ≤ _; omega
    · by_cases hs : sy k = true
      · have e0 : gst0 rs sy k X = (syR (pt X.1 X.2 (gB rs k)).2.1 (pt X.1 X.2 (gB rs k)).2.2).2 := by unfold gst0; rw [if_pos hs]
        unfold gstp
        rw [e0]
        refine ⟨_, Iv.bump (by rw [s2]; exact s3) _, fun _ => rfl⟩
      · have e0 : gst0 rs sy k X = (pt X.1 X.2 (gB rs k)).2 := by unfold gst0; rw [if_neg hs]
        unfold gstp
        rw [e0]
        exact ⟨_, hp.iv.bump _, fun q => absurd q hs⟩
  rcases h.at_ with ⟨rfl, hi⟩ | ⟨hk0, o, c, s, hi, ho, hc, _⟩
  · obtain ⟨p1, p2, p3, las', p4⟩ := pt_iv0 hi (gB rs 0) hroom
    obtain ⟨m1, m2, m3, m4, m5, las, m6, m7⟩ := main p1 p4 (Nat.le_refl _) (Nat.le_refl _) (Nat.le_refl _)
    exact ⟨p1, m1, m2, m3, m4, m5, [], [], las, m6, by unfold gplc; rw [p2, p3]; rfl, m7, .inl ⟨rfl, rfl, rfl⟩⟩
  · obtain ⟨p1, las', ⟨f1, p2, p3, p4⟩ | ⟨f1, p2, p3, p4⟩⟩ := pt_iv hi (gB rs k) hroom (by omega)
    · obtain ⟨m1, m2, m3, m4, m5, las, m6, m7⟩ := main p1 p4 h.uns (by omega) hc
      exact ⟨p1, m1, m2, m3, m4, m5, o, c, las, m6, by unfold gplc; rw [p2, p3], m7, .inr ⟨o, c, s, hi, .inl ⟨f1, rfl, rfl⟩⟩⟩
    · obtain ⟨m1, m2, m3, m4, m5, las, m6, m7⟩ := main p1 p4 (Nat.zero_le _) (by rw [List.length_append]; simp; omega) (Nat.zero_le _)
      exact ⟨p1, m1, m2, m3, m4, m5, o ++ [c], [], las, m6, by unfold gplc; rw [p2, p3]; simp, m7, .inr ⟨o, c, s, hi, .inr ⟨f1, rfl, rfl⟩⟩⟩
theorem gsat_ok (hr : Rok rs N) (he : ∀ i, ex i ≤ 1) {cp lim evy : Nat} (hcp : 600000 ≤ cp) {X : Ws × Ds} (h0 : Gk cp lim evy 0 X) : ∀ k, k ≤ N → Gk cp lim evy k (gsat rs sy ex X k)
  | 0, _ => h0
  | k + 1, h => ((gsat_ok hr he hcp h0 k (by omega)).step (sy := sy) (ex := ex) hr he hcp (by omega)).2.2.1
end
section
variable (rs : Nat → Rec) (sy : Nat → Bool) (ex : Nat → Nat)
noncomputable def gdat (s : List Nat) : List Nat := (s.map (gB rs)).flatten
theorem gdat_cons (i : Nat) (s : List Nat) : gdat rs (i :: s) = gB rs i ++ gdat rs s := rfl
theorem gdat_app (a b : List Nat) : gdat rs (a ++ b) = gdat rs a ++ gdat rs b := by unfold gdat; rw [List.map_append, List.flatten_append]
theorem gdat_one (i : Nat) : gdat rs [i] = gB rs i := by unfold gdat; simp
theorem gdat_nil : gdat rs [] = [] := rfl
/-- which records stand in which segment -/
structure Gx (X : Ws × Ds) (k : Nat) (segs : List (List Nat)) : Prop where
  flat : segs.flatten = List.range k
  iv : (k = 0 ∧ segs = []) ∨ ∃ init last las, segs = init ++ [last] ∧ Iv (gsat rs sy ex X k).1 (gsat rs sy ex X k).2 (init.map (gdat rs)) (gdat rs last) las
  pl : ∀ (j : Nat) (s : List Nat), segs[j]? = some s → ∀ a i b, s = a ++ i :: b → gplc rs i (gsat rs sy ex X i) = (j + 1, (gdat rs a).length, (gB rs i).length)
end
section
variable {rs : Nat → Rec} {sy : Nat → Bool} {ex : Nat → Nat} {N : Nat}
theorem gx_all (hr : Rok rs N) (he : ∀ i, ex i ≤ 1) {cp lim evy : Nat} (hcp : 600000 ≤ cp) {X : Ws × Ds} (h0 : Gk cp lim evy 0 X) : ∀ k, k ≤ N → ∃ segs, Gx rs sy ex X k segs
  | 0, _ => ⟨[], rfl, .inl ⟨rfl, rfl⟩, fun j s h => by simp at h⟩
  | k + 1, hk => by
    obtain ⟨segs, hx⟩ := gx_all hr he hcp h0 k (by omega)
    obtain ⟨_, _, _, _, _, _, old, cur0, las, h4, h5, _, h6⟩ := (gsat_ok (sy := sy) (ex := ex) hr he hcp h0 k (by omega)).step (sy := sy) (ex := ex) hr he hcp (by omega)
    have hsn : gsat rs sy ex X (k + 1) = gstp rs sy ex k (gsat rs sy ex X k) := rfl
    rcases hx.iv with ⟨rfl, rfl⟩ | ⟨init, last, las0, rfl, hi⟩
    · rcases h6 with ⟨_, rfl, rfl⟩ | ⟨o, c, s, hi, _⟩
      · refine ⟨[[0]], rfl, .inr ⟨[], [0], las, rfl, ?_⟩, ?_⟩
        · rw [hsn, gdat_one]; exact h4
        · intro j s hj a i b e
          cases j with
          | zero =>
            have e0 : [0] = s := by simpa using hj
            subst e0
            rcases snoc_split (l := []) e with ⟨rfl, rfl, rfl⟩ | ⟨b', _, e2⟩
            · exact h5
            · simp at e2
          | succ j => simp at hj
      · rcases (gsat_ok (sy := sy) (ex := ex) hr he hcp h0 0 (by omega)).at_ with ⟨_, q⟩ | ⟨q, _⟩
        · have := q.num; rw [hi.num] at this; omega
        · omega
    · rcases h6 with ⟨rfl, _, _⟩ | ⟨o, c, s, hi2, ⟨_, rfl, rfl⟩ | ⟨_, rfl, rfl⟩⟩
      · rcases (gsat_ok (sy := sy) (ex := ex) hr he hcp h0 0 (by omega)).at_ with ⟨_, q⟩ | ⟨q, _⟩
        · have := q.num; rw [hi.num] at this; omega
        · omega
      · obtain ⟨rfl, rfl⟩ := hi.uniq hi2
        refine ⟨init ++ [last ++ [k]], ?_, .inr ⟨init, last ++ [k], las, rfl, ?_⟩, ?_⟩
        · have := hx.flat
          rw [List.flatten_append] at this ⊢
          simp only [List.flatten_cons, List.flatten_nil, List.append_nil] at this ⊢
          rw [← List.append_assoc, this, List.range_succ]
        · rw [hsn, gdat_app, gdat_one]; exact h4
        · intro j s hj a i b e
          by_cases hji : j < init.length
          · rw [List.getElem?_append_left hji] at hj
            exact hx.pl j s (by rw [List.getElem?_append_left hji]; exact hj) a i b e
          · rw [List.getElem?_append_right (by omega)] at hj
            have hj0 : j = init.length := by
              rcases Nat.lt_or_ge (j - init.length) 1 with q | q
              · omega
              · rw [List.getElem?_eq_none (by simpa using q)] at hj; cases hj
            subst hj0
            rw [Nat.sub_self] at hj
            have e0 : last ++ [k] = s := by simpa using hj
            subst e0
            rcases snoc_split e with ⟨rfl, rfl, rfl⟩ | ⟨b', rfl, e2⟩
            · rw [h5, List.length_map]
            · exact hx.pl init.length last (by rw [List.getElem?_append_right (Nat.le_refl _), Nat.sub_self]; rfl) a i b' e2
      · obtain ⟨rfl, rfl⟩ := hi.uniq hi2
        refine ⟨(init ++ [last]) ++ [[k]], ?_, .inr ⟨init ++ [last], [k], las, rfl, ?_⟩, ?_⟩
        · rw [List.flatten_append, hx.flat, List.range_succ]; rfl
        · rw [hsn, List.map_append, gdat_one]; exact h4
        · intro j s hj a i b e
          by_cases hji : j < (init ++ [last]).length
          · rw [List.getElem?_append_left hji] at hj
            exact hx.pl j s hj a i b e
          · rw [List.getElem?_append_right (by omega)] at hj
            have hj0 : j = (init ++ [last]).length := by
              rcases Nat.lt_or_ge (j - (init ++ [last]).length) 1 with q | q
              · omega
              · rw [List.getElem?_eq_none (by simpa using q)] at hj; cases hj
            subst hj0
            rw [Nat.sub_self] at hj
            have e0 : [k] = s := by simpa using hj
            subst e0
            rcases snoc_split (l := []) e with ⟨rfl, rfl, rfl⟩ | ⟨b', _, e2⟩
            · rw [h5]; simp [gdat_nil]
            · simp at e2
/-- the file of a segment -/
theorem Gx.file {X : Ws × Ds} {k : Nat} {segs : List (List Nat)} (h : Gx rs sy ex X k segs) {j : Nat} {s : List Nat} (hj : segs[j]? = some s) : ∃ las, get (gsat rs sy ex X k).2.fs (nmS (j + 1)) = some ⟨nmS (j + 1), gdat rs s, las⟩ := by
  rcases h.iv with ⟨_, rfl⟩ | ⟨init, last, las, rfl, hi⟩
  · simp at hj
  · by_cases hji : j < init.length
    · rw [List.getElem?_append_left hji] at hj
      refine ⟨(gdat rs s).length, get_of_mem hi.good.names (f := ⟨nmS (j + 1), gdat rs s, (gdat rs s).length⟩) ?_⟩
      rw [hi.fs]
      refine List.mem_append_left _ ?_
      rw [Nat.add_comm j 1]
      exact files_mem (by rw [List.getElem?_map, hj]; rfl)
    · rw [List.getElem?_append_right (by omega)] at hj
      have hj0 : j = init.length := by
        rcases Nat.lt_or_ge (j - init.length) 1 with q | q
        · omega
        · rw [List.getElem?_eq_none (by simpa using q)] at hj; cases hj
      subst hj0
      rw [Nat.sub_self] at hj
      have e0 : last = s := by simpa using hj
      subst e0
      refine ⟨las, get_of_mem hi.good.names (f := ⟨nmS (init.length + 1), gdat rs last, las⟩) ?_⟩
      rw [hi.fs, List.length_map]
      exact List.mem_append_right _ (List.mem_singleton.2 rfl)
theorem gdat_byt (hr : Rok rs N) : ∀ s : List Nat, (∀ i ∈ s, i < N) → Byt (gdat rs s)
  | [], _ => fun x hx => by cases hx
  | i :: s, h => by
    rw [gdat_cons]
    exact byt_app (en_bytS (hr.rf i (h i List.mem_cons_self))) (gdat_byt hr s fun k hk => h k (List.mem_cons_of_mem _ hk))
theorem gdec_own (hr : Rok rs N) (a : List Nat) (i : Nat) (b : List Nat) (hi : i < N) : decF (((gdat rs (a ++ i :: b)).drop (gdat rs a).length).take (gB rs i).length) 0 = (ofR (rs i), (gB rs i).length, 0) := by
  have e : ((gdat rs (a ++ i :: b)).drop (gdat rs a).length).take (gB rs i).length = gB rs i := by
    rw [gdat_app, List.drop_left, gdat_cons, List.take_left]
  rw [e]
  have hp : 9 ≤ (gB rs i).length := by unfold gB; rw [en_len]; omega
  unfold decF
  rw [if_neg (by omega)]
  have := dcd_en (hr.wf i hi) (hr.rf i hi) []
  rw [List.append_nil] at this
  exact this
theorem Gx.seg {X : Ws × Ds} {n : Nat} {segs : List (List Nat)} (h : Gx rs sy ex X n segs) {i : Nat} (hi : i < n) : ∃ j s a b, segs[j]? = some s ∧ s = a ++ i :: b ∧ gplc rs i (gsat rs sy ex X i) = (j + 1, (gdat rs a).length, (gB rs i).length) := by
  have hm : i ∈ segs.flatten := by rw [h.flat]; exact List.mem_range.2 hi
  obtain ⟨s, hs, his⟩ := List.mem_flatten.1 hm
  obtain ⟨a, b, e⟩ := List.append_of_mem his
  obtain ⟨j, hj⟩ := List.mem_iff_getElem?.1 hs
  exact ⟨j, s, a, b, hj, e, h.pl j s hj a i b e⟩
theorem Gx.lt {X : Ws × Ds} {n : Nat} {segs : List (List Nat)} (h : Gx rs sy ex X n segs) {j i : Nat} {s : List Nat} (hj : segs[j]? = some s) (hi : i ∈ s) : i < n := by
  have : i ∈ segs.flatten := List.mem_flatten.2 ⟨s, List.mem_of_getElem? hj, hi⟩
  rw [h.flat] at this
  exact List.mem_range.1 this
end
end Sg
end Go.Proofs.YtolddolfpnkndaaGreat
namespace Go.Proofs.YtolddolfpnkndaaGreat
open Go.RowKit Go.Maps Go.Sort
namespace Sg
open Vt Dk
attribute [local go_sem ↓] append_hid
/-- what stands in memory behind k lines -/
structure Gq (rs : Nat → Rec) (sy : Nat → Bool) (ex : Nat → Nat) (c : Nat) (B : Nat) (w : World) (b d : Nat) (X : Ws × Ds) (k : Nat) (v : Value) (wq : World) : Prop where
  own : ∃ O, WK wq b d O (gsat rs sy ex X (c + k)).1 (gsat rs sy ex X (c + k)).2 ∧ (∀ x, O x → B ≤ x) ∧ ∀ g, v.ownBlock = some g → ¬ O g ∧ g ≠ b
  row : JR TPl 3 wq B v ((gpls rs sy ex X c k).map plC)
  bel : Below B w wq
  le : B ≤ b
theorem Gq.bels {rs : Nat → Rec} {sy : Nat → Bool} {ex : Nat → Nat} {c : Nat} {B : Nat} {w : World} {b d : Nat} {X : Ws × Ds} {k : Nat} {v : Value} {wq w' : World} (h : Gq rs sy ex c B w b d X k v wq) (hb : Below wq.heap.size wq w') (hB : B ≤ wq.heap.size) : Gq rs sy ex c B w b d X k v w' := by
  obtain ⟨O, h1, h2, h3⟩ := h.own
  exact ⟨⟨O, h1.below hb, h2, h3⟩, h.row.keepAll hb, h.bel.trans (hb.mono hB), h.le⟩
/-- what a Put, and a Sync if it is asked for, leave of it -/
theorem Gq.put {rs : Nat → Rec} {sy : Nat → Bool} {ex : Nat → Nat} {c : Nat} {B : Nat} {w : World} {b d : Nat} {X : Ws × Ds} {k : Nat} {v : Value} {wq : World} (h : Gq rs sy ex c B w b d X k v wq) {N cp lim evy : Nat} (hr : Rok rs N) (he : ∀ i, ex i ≤ 1) (hcp : 600000 ≤ cp) (hok : Gk cp lim evy (c + k) (gsat rs sy ex X (c + k))) (hk : c + k < N) (hB : B ≤ wq.heap.size) :
    Calls Tryz.prog 9 #[.pointer (some ⟨b, 0, none⟩), .agg (rv (rs (c + k)))] wq fun e w' => e = .returned (.tuple #[.agg #[.int .u32 ((gplc rs (c + k) (gsat rs sy ex X (c + k))).1 : Int), .int .i64 ((gplc rs (c + k) (gsat rs sy ex X (c + k))).2.1 : Int), .int .i64 ((gplc rs (c + k) (gsat rs sy ex X (c + k))).2.2 : Int)], .int .i64 0]) ∧ (∃ O, WK w' b d O (pt (gsat rs sy ex X (c + k)).1 (gsat rs sy ex X (c + k)).2 (gB rs (c + k))).2.1 (pt (gsat rs sy ex X (c + k)).1 (gsat rs sy ex X (c + k)).2 (gB rs (c + k))).2.2 ∧ (∀ x, O x → B ≤ x) ∧ ∀ g, v.ownBlock = some g → ¬ O g ∧ g ≠ b) ∧ JR TPl 3 w' B v ((gpls rs sy ex X c k).map plC) ∧ Below B w w' ∧ B ≤ w'.heap.size := by
  obtain ⟨O, h1, h2, h3⟩ := h.own
  obtain ⟨s1, s2, s3, s4, s5, s6, _⟩ := hok.step (sy := sy) (ex := ex) hr he hcp hk
  have hfl := hr.len _ hk
  have hN := hr.le
  have hop : (gsat rs sy ex X (c + k)).1.op = true := by rcases hok.at_ with ⟨_, q⟩ | ⟨_, _, _, _, q, _⟩ <;> exact q.op
  have hnum : (gsat rs sy ex X (c + k)).1.num ≠ 0 → Nam.Nu (gsat rs sy ex X (c + k)).1.num := by
    rcases hok.at_ with ⟨_, q⟩ | ⟨_, o, c, s, q, q2, _, _⟩
    · intro e; exact absurd q.num e
    · intro _; rw [q.num]; exact ⟨by omega, by omega⟩
  have hun : (gsat rs sy ex X (c + k)).1.uns ≠ 0 → (gsat rs sy ex X (c + k)).1.num ≠ 0 := by
    rcases hok.at_ with ⟨_, q⟩ | ⟨_, o, c, s, q, q2, _, _⟩
    · intro e; exact absurd q.uns e
    · intro _; rw [q.num]; omega
  have hla : (gsat rs sy ex X (c + k)).1.laid < 1000000000 := by
    rcases hok.at_ with ⟨_, q⟩ | ⟨_, o, c, s, q, q2, q3, _⟩
    · rw [q.laid]; omega
    · rw [q.laid]; omega
  refine (put_is wq b d O _ _ (rs (c + k)) h1 hop (by have := hok.acts; omega) hnum hun (hr.wf _ hk) (hr.rf _ hk) hla (by omega) (by have := hok.uns; omega)).mono ?_
  rintro e w' ⟨rfl, O', k1, k2, k3⟩
  have hs1 : (pt (gsat rs sy ex X (c + k)).1 (gsat rs sy ex X (c + k)).2 (en (ofR (rs (c + k))))).1 = 0 := s1
  refine ⟨?_, ⟨O', k1, fun x q => (k3 x q).elim (h2 x) (fun q => Nat.le_trans hB q), fun g hg => ⟨fun q => (k3 g q).elim (h3 g hg).1 (fun q => by have := h.row.blk_lt g hg; omega), (h3 g hg).2⟩⟩, ?_, ?_, Nat.le_trans hB k2.size⟩
  · rw [if_pos hs1, hs1]; rfl
  · exact jr_same h.row fun g hg => k2.block g (h.row.blk_lt g hg) (fun q => q.elim (h3 g hg).1 (h3 g hg).2)
  · exact h.bel.trans (k2.below (fun x q => q.elim (h2 x) (fun e => by rw [e]; exact h.le)) hB)
set_option maxRecDepth 100000 in
set_option maxHeartbeats 1000000 in
theorem gwritten_is (rs : Nat → Rec) (sy : Nat → Bool) (ex : Nat → Nat) (N c cp lim evy : Nat) (X : Ws × Ds) (hr : Rok rs N) (he : ∀ i, ex i ≤ 1) (hcp : 600000 ≤ cp) (hok : ∀ k, k ≤ N → Gk cp lim evy k (gsat rs sy ex X k)) (B : Nat) (w : World) (b d : Nat) (O : Nat → Prop) (v : Value) (ls : List Ln) (hcN : c + min ls.length 60 ≤ N) (hrs : ∀ k, k < 60 → k < ls.length → rs (c + k) = lnR (ls.getD k zl) k ∧ sy (c + k) = (ls.getD k zl).syn ∧ ex (c + k) = 0) (h : WK w b d O (gsat rs sy ex X c).1 (gsat rs sy ex X c).2) (hO : ∀ x, O x → B ≤ x) (hbB : B ≤ b) (hBs : B ≤ w.heap.size) (hL : IsL B w v ls) :
    Calls Tryz.prog 17 #[.pointer (some ⟨b, 0, none⟩), v] w fun e w' => ∃ u, e = .returned (.tuple #[u, .bool true]) ∧ Gq rs sy ex c B w b d X (min ls.length 60) u w' := by
  obtain ⟨a, cc, rfl⟩ := hL.shape
  have HOK := hd hok
  have HR := hd hr
  have HE := hd he
  have HRS := hd hrs
  have hN := hr.le
  have H0 : Hid (Gq rs sy ex c B w b d X 0 (.slice none 0 0) w) := by
    refine ⟨⟨O, ?_, hO, fun g hg => by cases hg⟩, jr_nil w B, Below.refl _ _, hbB⟩
    exact h
  have HL := hd hL
  have hBm : ls.length ≤ 140737488355328 := hL.2.1
  clear h hO hbB hL hok hr hrs he
  go_enter Tryz.func17, Tryz.ntmps17
  go_wp2_with fail
  go_loopw [6, 7] (fun u i wq => ∃ k : Nat, k ≤ ls.length ∧ k ≤ 60 ∧ i = .int .i64 (k : Int) ∧ Gq rs sy ex c B w b d X k u wq) (fun _ i _ => ls.length - (intOf i).toNat)
  case atStart => exact ⟨0, by omega, by omega, rfl, H0.out⟩
  case round =>
    obtain ⟨k, hk, hk6, rfl, hW⟩ := hrel
    have HW := hd hW
    clear hW
    by_cases hlt : k < ls.length
    · by_cases h60 : k < 60
      · obtain ⟨lb, off, l, rfl, hlk, hgd, hks, hvs, d0, d1, d2, d3⟩ := (HL.out.below HW.out.bel).at hlt
        have HLS := hd hgd
        clear hlk hgd
        have hBr : B ≤ wr.heap.size := Nat.le_trans hBs HW.out.bel.size
        go_wp2_with fail
        refine Calls.mono (record_is l k wr hks hvs (by omega)) ?_
        rintro e w2 ⟨rfl, hB2⟩
        have hW2 := HW.out.bels hB2 hBr
        have hpu := (hW2.put HR.out HE.out hcp (HOK.out (c + k) (by omega)) (by omega) (Nat.le_trans hBr hB2.size))
        obtain ⟨hrs1, hrs2, hrs3⟩ := HRS.out k h60 hlt
        rw [HLS.out] at hrs1 hrs2
        rw [hrs1] at hpu
        have HPU := hd hpu
        have HSC := hd hrs2
        have HEC := hd hrs3
        clear hpu hrs1 hrs2 hrs3
        have HD3 : Hid (∀ w', Below B w w' → w'.cell? ⟨lb, off + k * 4 + 3, none⟩ = some (.bool l.syn)) := by
          intro w' hb'
          obtain ⟨lb', off', l', e1, _, e2, _, _, _, _, _, q3⟩ := (HL.out.below hb').at hlt
          injection e1 with e1
          injection e1 with e1 e4
          subst e1 e4
          rw [← HLS.out, e2]; exact q3
        have hst := (HOK.out (c + k) (by omega)).step (sy := sy) (ex := ex) HR.out HE.out hcp (by omega)
        have HNX : Hid (gsat rs sy ex X (c + (k + 1)) = gstp rs sy ex (c + k) (gsat rs sy ex X (c + k)) ∧ gpls rs sy ex X c (k + 1) = gpls rs sy ex X c k ++ [gplc rs (c + k) (gsat rs sy ex X (c + k))]) := ⟨rfl, rfl⟩
        have HPL := hd (gpls_len rs sy ex X c k)
        have HLE := hd HW.out.le
        clear hB2 hW2 d0 d1 d2 d3
        have HST := hd hst
        clear hst
        obtain ⟨⟨p1, p2, p3⟩, hp⟩ : ∃ p, gplc rs (c + k) (gsat rs sy ex X (c + k)) = p := ⟨_, rfl⟩
        rw [hp] at HPU HNX
        clear hp
        have HCC : Hid (∀ (ww : World) (A : Obj) (j : Nat) (u : Value), ([.int .u32 (p1 : Int), .int .i64 (p2 : Int), .int .i64 (p3 : Int)] : List Value)[j]? = some u → ((ww.alloc A).alloc (.cells #[.int .u32 (p1 : Int), .int .i64 (p2 : Int), .int .i64 (p3 : Int)] TPl)).cell? ⟨ww.heap.size + 1, j, none⟩ = some u) := by
          intro ww A j u hu
          have := Blk.new (ww.alloc A) TPl [.int .u32 (p1 : Int), .int .i64 (p2 : Int), .int .i64 (p3 : Int)]
          rw [alloc_size] at this
          exact this.cell j u hu
        go_wp2_with fail
        refine Calls.mono HPU.out ?_
        rintro e w3 ⟨rfl, hex, hrow, hbel, hBs3⟩
        have HEX := hd hex
        have HROW := hd hrow
        have HBEL := hd hbel
        clear hex hrow hbel
        have HONE : Hid (∀ u ∈ ([.int .u32 (p1 : Int), .int .i64 (p2 : Int), .int .i64 (p3 : Int)] : List Value), u.oneCell' = true) := by
          intro u hu; simp at hu; rcases hu with rfl | rfl | rfl <;> rfl
        cases hsy : l.syn
        · have HSY := hd hsy
          rw [hsy] at HD3
          clear hsy
          go_wp2_with (at_builtin; refine wpList_append_jr Tryz.underlying65 info_pl rfl (by decide) _ rfl _ _ rfl B u6 ((gpls rs sy ex X c k).map plC) (w3.heap.size + 1) 1 [.int .u32 (p1 : Int), .int .i64 (p2 : Int), .int .i64 (p3 : Int)] rfl rfl ((HROW.out.alloc _).alloc _) rfl HONE.out (HCC.out w3 _) (k + 1) (by rw [List.length_map, HPL.out]) (by omega) (by unfold maxLen; omega) (by rw [alloc_size, alloc_size]; omega) ?_; intro g' cap w5 hJ5 hg5 ho5; have hz := app_all (n := k + 1) (cap := cap) HEX.out HROW.out HBEL.out hBs3 hg5 ho5; have e3 := HD3.out w5 hz.2.1; have HZ := hd hz; have HJ5 := hd hJ5; clear hJ5 hg5 ho5 hz)
          go_roundw
          case rel =>
            refine ⟨k + 1, by omega, by omega, by go_num, ?_⟩
            have hs1 : gsat rs sy ex X (c + (k + 1)) = (pt (gsat rs sy ex X (c + k)).1 (gsat rs sy ex X (c + k)).2 (gB rs (c + k))).2 := by rw [HNX.out.1]; unfold gstp gst0; rw [HSC.out, HSY.out, HEC.out]; rfl
            refine ⟨?_, ?_, HZ.out.2.1, HLE.out⟩
            · rw [hs1]; exact HZ.out.1
            · rw [HNX.out.2, List.map_append]; exact HJ5.out
          case measure => simp [intOf]; omega
        · have HSY := hd hsy
          rw [hsy] at HD3
          clear hsy
          go_wp2_with (at_builtin; refine wpList_append_jr Tryz.underlying65 info_pl rfl (by decide) _ rfl _ _ rfl B u6 ((gpls rs sy ex X c k).map plC) (w3.heap.size + 1) 1 [.int .u32 (p1 : Int), .int .i64 (p2 : Int), .int .i64 (p3 : Int)] rfl rfl ((HROW.out.alloc _).alloc _) rfl HONE.out (HCC.out w3 _) (k + 1) (by rw [List.length_map, HPL.out]) (by omega) (by unfold maxLen; omega) (by rw [alloc_size, alloc_size]; omega) ?_; intro g' cap w5 hJ5 hg5 ho5; have hz := app_all (n := k + 1) (cap := cap) HEX.out HROW.out HBEL.out hBs3 hg5 ho5; have e3 := HD3.out w5 hz.2.1; have HZ := hd hz; have HJ5 := hd hJ5; clear hJ5 hg5 ho5 hz)
          obtain ⟨O5, hk5, ho5', hv5⟩ := HZ.out.1
          have hun : (pt (gsat rs sy ex X (c + k)).1 (gsat rs sy ex X (c + k)).2 (gB rs (c + k))).2.1.uns ≠ 0 → Nam.Nu (pt (gsat rs sy ex X (c + k)).1 (gsat rs sy ex X (c + k)).2 (gB rs (c + k))).2.1.num := fun _ => HST.out.2.2.2.2.2.1
          have HWS := hd (wsync_is w5 b d O5 _ _ hk5 HST.out.2.2.2.1 (by have := HST.out.2.2.2.2.1; omega) hun)
          rw [HST.out.2.1] at HWS
          have HO5 := hd ho5'
          have HV5 := hd hv5
          clear hk5 ho5' hv5 hun
          refine Calls.mono HWS.out ?_
          rintro e w6 ⟨rfl, hN6⟩
          have hlt5 : ∀ g, (Value.slice (some ⟨g', 0, none⟩) (k + 1) cap).ownBlock = some g → g < w5.heap.size := HJ5.out.blk_lt
          have HE6 := hd (ex_sync HO5.out HV5.out HZ.out.2.2 hlt5 hN6)
          have HN6 := hd hN6
          clear hN6 hlt5
          go_wp2_with fail
          go_roundw
          case rel =>
            refine ⟨k + 1, by omega, by omega, by go_num, ?_⟩
            have hs1 : gsat rs sy ex X (c + (k + 1)) = (syR (pt (gsat rs sy ex X (c + k)).1 (gsat rs sy ex X (c + k)).2 (gB rs (c + k))).2.1 (pt (gsat rs sy ex X (c + k)).1 (gsat rs sy ex X (c + k)).2 (gB rs (c + k))).2.2).2 := by rw [HNX.out.1]; unfold gstp gst0; rw [HSC.out, HSY.out, HEC.out]; rfl
            obtain ⟨O6, _, q2, _⟩ := HN6.out
            refine ⟨?_, ?_, ?_, HLE.out⟩
            · rw [hs1]; exact HE6.out
            · rw [HNX.out.2, List.map_append]
              exact jr_same HJ5.out fun g hg => q2.block g (HJ5.out.blk_lt g hg) (fun q => q.elim (HV5.out g hg).1 (HV5.out g hg).2)
            · exact HZ.out.2.1.trans (q2.below (fun x q => q.elim (HO5.out x) (fun e => by rw [e]; exact HLE.out)) HZ.out.2.2)
          case measure => simp [intOf]; omega
      · obtain rfl : k = 60 := by omega
        go_wp2_with fail
        go_ret2
        exact ⟨_, rfl, by rw [show min ls.length 60 = 60 by omega]; exact HW.out⟩
    · obtain rfl : k = ls.length := by omega
      go_wp2_with fail
      go_ret2
      exact ⟨_, rfl, by rw [show min ls.length 60 = ls.length by omega]; exact HW.out⟩
end Sg
end Go.Proofs.YtolddolfpnkndaaGreat
