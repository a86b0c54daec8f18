/-
  WHERE RECORDS STAND, PLAINLY: a segment's bytes are its frames; a frame is found at a record's own place alone.
-/
import Derived.Test.YtnakaomgceoobaaGreatSg6
import Derived.Test.YtnakaomgceoobaaGreatSgr
import Derived.Test.YtnakaomgceoobaaGreatM1
namespace Go.Proofs.YtnakaomgceoobaaGreat
open Go.RowKit
namespace Sg
open Vt Dk
noncomputable def fA (ls : List Ln) (i : Nat) : List Nat := fB (ls.getD i zl) i
noncomputable def dat (ls : List Ln) (s : List Nat) : List Nat := (s.map (fA ls)).flatten
theorem dat_cons (ls : List Ln) (i : Nat) (s : List Nat) : dat ls (i :: s) = fA ls i ++ dat ls s := rfl
theorem dat_app (ls : List Ln) (a b : List Nat) : dat ls (a ++ b) = dat ls a ++ dat ls b := by unfold dat; rw [List.map_append, List.flatten_append]
theorem dat_one (ls : List Ln) (i : Nat) : dat ls [i] = fA ls i := by unfold dat; simp
theorem dat_nil (ls : List Ln) : dat ls [] = [] := rfl
theorem files_inj {k : Nat} {a b : List (List Nat)} (h : files k a = files k b) : a = b := by
  induction a generalizing k b with
  | nil =>
    cases b with
    | nil => rfl
    | cons y r => cases h
  | cons x r ih =>
    cases b with
    | nil => cases h
    | cons y q =>
      injection h with h1 h2
      injection h1 with _ h1 _
      rw [h1, ih h2]
theorem Iv.uniq {W : Ws} {S : Ds} {o o' : List (List Nat)} {c c' : List Nat} {s s' : Nat} (h : Iv W S o c s) (g : Iv W S o' c' s') : o = o' ∧ c = c' := by
  have e := h.fs.symm.trans g.fs
  have hl : (files 1 o).length = (files 1 o').length := by
    have := congrArg List.length e
    simpa using this
  obtain ⟨e1, e2⟩ := List.append_inj e hl
  injection e2 with e2 _
  injection e2 with _ e2 _
  exact ⟨files_inj e1, e2⟩
/-- which lines stand in which segment -/
structure Sx (ls : List Ln) (X : Ws × Ds) (k : Nat) (segs : List (List Nat)) : Prop where
  flat : segs.flatten = List.range k
  iv : (k = 0 ∧ segs = []) ∨ ∃ init last las, segs = init ++ [last] ∧ Iv (sat ls X k).1 (sat ls X k).2 (init.map (dat ls)) (dat ls last) las
  pl : ∀ (j : Nat) (s : List Nat), segs[j]? = some s → ∀ a i b, s = a ++ i :: b → plc (ls.getD i zl) i (sat ls X i) = (j + 1, (dat ls a).length, (fA ls i).length)
theorem snoc_split {l a b : List Nat} {x i : Nat} (h : l ++ [x] = a ++ i :: b) : (b = [] ∧ i = x ∧ a = l) ∨ ∃ b', b = b' ++ [x] ∧ l = a ++ i :: b' := by
  rcases List.eq_nil_or_concat b with rfl | ⟨b', y, rfl⟩
  · have := List.append_inj' h rfl
    injection this.2 with h2
    exact .inl ⟨rfl, h2.symm, this.1.symm⟩
  · rw [List.concat_eq_append] at h ⊢
    have h' : l ++ [x] = (a ++ i :: b') ++ [y] := by rw [h]; simp
    have := List.append_inj' h' rfl
    injection this.2 with h2
    exact .inr ⟨b', by rw [h2], this.1⟩
theorem sx_all (lim evy : Int) (ls : List Ln) : ∀ k, k ≤ 60 → ∃ segs, Sx ls (w0S lim evy, ds0 1000000) k segs
  | 0, _ => ⟨[], rfl, .inl ⟨rfl, rfl⟩, fun j s h => by simp at h⟩
  | k + 1, hk => by
    obtain ⟨segs, hx⟩ := sx_all lim evy ls k (by omega)
    obtain ⟨_, _, _, _, _, _, old, cur0, las, h4, h5, _, h6⟩ := (sat_ok lim evy ls k (by omega)).step (by omega) (ls.getD k zl)
    have hsn : sat ls (w0S lim evy, ds0 1000000) (k + 1) = stp (ls.getD k zl) k (sat ls (w0S lim evy, ds0 1000000) k) := rfl
    rcases hx.iv with ⟨rfl, rfl⟩ | ⟨init, last, las0, rfl, hi⟩
    · rcases h6 with ⟨_, rfl, rfl⟩ | ⟨o, c, s, hi, _⟩
      · refine ⟨[[0]], rfl, .inr ⟨[], [0], las, rfl, ?_⟩, ?_⟩
        · rw [hsn, dat_one]; exact h4
        · intro j s hj a i b e
          cases j with
          | zero =>
            have e0 : [0] = s := by simpa using hj
            subst e0
            rcases snoc_split (l := []) e with ⟨rfl, rfl, rfl⟩ | ⟨b', _, e2⟩
            · exact h5
            · simp at e2
          | succ j => simp at hj
      · rcases (sat_ok lim evy ls 0 (by omega)).at_ with ⟨_, q⟩ | ⟨q, _⟩
        · have := q.num; rw [hi.num] at this; omega
        · omega
    · rcases h6 with ⟨rfl, _, _⟩ | ⟨o, c, s, hi2, ⟨_, rfl, rfl⟩ | ⟨_, rfl, rfl⟩⟩
      · have := congrArg List.length hx.flat
        rcases (sat_ok lim evy ls 0 (by omega)).at_ with ⟨_, q⟩ | ⟨q, _⟩
        · have := q.num; rw [hi.num] at this; omega
        · omega
      · obtain ⟨rfl, rfl⟩ := hi.uniq hi2
        refine ⟨init ++ [last ++ [k]], ?_, .inr ⟨init, last ++ [k], las, rfl, ?_⟩, ?_⟩
        · have := hx.flat
          rw [List.flatten_append] at this ⊢
          simp only [List.flatten_cons, List.flatten_nil, List.append_nil] at this ⊢
          rw [← List.append_assoc, this, List.range_succ]
        · rw [hsn, dat_app, dat_one]; exact h4
        · intro j s hj a i b e
          by_cases hji : j < init.length
          · rw [List.getElem?_append_left hji] at hj
            exact hx.pl j s (by rw [List.getElem?_append_left hji]; exact hj) a i b e
          · rw [List.getElem?_append_right (by omega)] at hj
            have hj0 : j = init.length := by
              rcases Nat.lt_or_ge (j - init.length) 1 with q | q
              · omega
              · rw [List.getElem?_eq_none (by simpa using q)] at hj; cases hj
            subst hj0
            rw [Nat.sub_self] at hj
            have e0 : last ++ [k] = s := by simpa using hj
            subst e0
            rcases snoc_split e with ⟨rfl, rfl, rfl⟩ | ⟨b', rfl, e2⟩
            · rw [h5, List.length_map]; rfl
            · exact hx.pl init.length last (by rw [List.getElem?_append_right (Nat.le_refl _), Nat.sub_self]; rfl) a i b' e2
      · obtain ⟨rfl, rfl⟩ := hi.uniq hi2
        refine ⟨(init ++ [last]) ++ [[k]], ?_, .inr ⟨init ++ [last], [k], las, rfl, ?_⟩, ?_⟩
        · rw [List.flatten_append, hx.flat, List.range_succ]; rfl
        · rw [hsn, List.map_append, dat_one]; exact h4
        · intro j s hj a i b e
          by_cases hji : j < (init ++ [last]).length
          · rw [List.getElem?_append_left hji] at hj
            exact hx.pl j s hj a i b e
          · rw [List.getElem?_append_right (by omega)] at hj
            have hj0 : j = (init ++ [last]).length := by
              rcases Nat.lt_or_ge (j - (init ++ [last]).length) 1 with q | q
              · omega
              · rw [List.getElem?_eq_none (by simpa using q)] at hj; cases hj
            subst hj0
            rw [Nat.sub_self] at hj
            have e0 : [k] = s := by simpa using hj
            subst e0
            rcases snoc_split (l := []) e with ⟨rfl, rfl, rfl⟩ | ⟨b', _, e2⟩
            · rw [h5]; simp [dat_nil]; rfl
            · simp at e2
theorem files_mem {k j : Nat} {a : List (List Nat)} {x : List Nat} (h : a[j]? = some x) : (⟨nmS (k + j), x, x.length⟩ : Fi) ∈ files k a := by
  induction a generalizing k j with
  | nil => simp at h
  | cons y r ih =>
    cases j with
    | zero =>
      have : y = x := by simpa using h
      subst this
      exact List.mem_cons_self
    | succ j =>
      have := ih (k := k + 1) (j := j) (by simpa using h)
      rw [show k + 1 + j = k + (j + 1) by omega] at this
      exact List.mem_cons_of_mem _ this
/-- the file of a segment -/
theorem Sx.file {ls : List Ln} {X : Ws × Ds} {k : Nat} {segs : List (List Nat)} (h : Sx ls X k segs) {j : Nat} {s : List Nat} (hj : segs[j]? = some s) : ∃ las, get (sat ls X k).2.fs (nmS (j + 1)) = some ⟨nmS (j + 1), dat ls s, las⟩ := by
  rcases h.iv with ⟨_, rfl⟩ | ⟨init, last, las, rfl, hi⟩
  · simp at hj
  · by_cases hji : j < init.length
    · rw [List.getElem?_append_left hji] at hj
      refine ⟨(dat ls s).length, get_of_mem hi.good.names (f := ⟨nmS (j + 1), dat ls s, (dat ls s).length⟩) ?_⟩
      rw [hi.fs]
      refine List.mem_append_left _ ?_
      rw [Nat.add_comm j 1]
      exact files_mem (by rw [List.getElem?_map, hj]; rfl)
    · rw [List.getElem?_append_right (by omega)] at hj
      have hj0 : j = init.length := by
        rcases Nat.lt_or_ge (j - init.length) 1 with q | q
        · omega
        · rw [List.getElem?_eq_none (by simpa using q)] at hj; cases hj
      subst hj0
      rw [Nat.sub_self] at hj
      have e0 : last = s := by simpa using hj
      subst e0
      refine ⟨las, get_of_mem hi.good.names (f := ⟨nmS (init.length + 1), dat ls last, las⟩) ?_⟩
      rw [hi.fs, List.length_map]
      exact List.mem_append_right _ (List.mem_singleton.2 rfl)
theorem fA_en (ls : List Ln) (i : Nat) : fA ls i = en (ofR (lnR (ls.getD i zl) i)) := rfl
/-- a lead byte stands where a frame begins -/
theorem lead_at (ls : List Ln) : ∀ (s : List Nat) (A : Nat), A < (dat ls s).length → (dat ls s).getD A 0 = 167 → ∃ a i b, s = a ++ i :: b ∧ A = (dat ls a).length
  | [], A, h, _ => by simp [dat_nil] at h
  | i :: s, A, h, h2 => by
    rw [dat_cons] at h h2
    by_cases h0 : A = 0
    · exact ⟨[], i, s, rfl, by rw [h0]; rfl⟩
    · by_cases h1 : A < (fA ls i).length
      · exfalso
        rw [List.getD_eq_getElem?_getD, List.getElem?_append_left h1, ← List.getD_eq_getElem?_getD] at h2
        rw [fA_en] at h1 h2
        exact en_no (by omega) h1 h2
      · rw [List.length_append] at h
        rw [List.getD_eq_getElem?_getD, List.getElem?_append_right (by omega), ← List.getD_eq_getElem?_getD] at h2
        obtain ⟨a, i2, b, rfl, e⟩ := lead_at ls s (A - (fA ls i).length) (by omega) h2
        exact ⟨i :: a, i2, b, rfl, by rw [dat_cons, List.length_append]; omega⟩
theorem en_bytS {f : Fr} (h : rf f = 0) : Byt (en f) := by
  rw [en_eq]
  intro x hx
  rcases List.mem_cons.1 hx with rfl | hx
  · decide
  · exact byt_app (dg_byt _ _) (byt_app (wr_byt (bd_byt h)) (dg_byt _ _)) x hx
theorem fA_byt (ls : List Ln) (i : Nat) : Byt (fA ls i) := en_bytS (lnR_rf _ _)
theorem dat_byt (ls : List Ln) : ∀ s, Byt (dat ls s)
  | [] => by intro x hx; simp [dat_nil] at hx
  | i :: s => by rw [dat_cons]; exact byt_app (fA_byt ls i) (dat_byt ls s)
theorem fA_dcd (ls : List Ln) (i : Nat) (hi : i < 1000000) (r : List Nat) : dcd (fA ls i ++ r) = (ofR (lnR (ls.getD i zl) i), (fA ls i).length, 0) := dcd_en (lnR_wf _ _ hi) (lnR_rf _ _) r
theorem fA_pos (ls : List Ln) (i : Nat) : 9 ≤ (fA ls i).length := by rw [fA_en, en_len]; omega
/-- at its own place a record is read -/
theorem dec_own (ls : List Ln) (a : List Nat) (i : Nat) (b : List Nat) (hi : i < 1000000) : decF (((dat ls (a ++ i :: b)).drop (dat ls a).length).take (fA ls i).length) 0 = (ofR (lnR (ls.getD i zl) i), (fA ls i).length, 0) := by
  have e : ((dat ls (a ++ i :: b)).drop (dat ls a).length).take (fA ls i).length = fA ls i := by
    rw [dat_app, List.drop_left, dat_cons, List.take_left]
  rw [e]
  have hp := fA_pos ls i
  unfold decF
  rw [if_neg (by omega)]
  have := fA_dcd ls i hi []
  rw [List.append_nil] at this
  exact this
/-- where just one frame is read, a record has its place -/
theorem dec_only (ls : List Ln) (s : List Nat) (hs : ∀ i ∈ s, i < 1000000) (A n : Nat) (h1 : (decF (((dat ls s).drop A).take n) 0).2.2 = 0) (h2 : (decF (((dat ls s).drop A).take n) 0).2.1 = n) : ∃ a i b, s = a ++ i :: b ∧ A = (dat ls a).length ∧ n = (fA ls i).length := by
  obtain ⟨D, hD⟩ : ∃ D, D = dat ls s := ⟨_, rfl⟩
  have hbD : Byt D := by rw [hD]; exact dat_byt ls s
  rw [← hD] at h1 h2
  have hbb : Byt ((D.drop A).take n) := fun x hx => hbD x (List.mem_of_mem_drop (List.mem_of_mem_take hx))
  obtain ⟨z, hz, hzl, hrf, hwf, hc, hle, htk⟩ := decF_ok hbb h1
  have hz0 : z = 0 := by omega
  subst hz0
  rw [h2] at hc hle htk
  rw [List.drop_zero, List.take_take, Nat.min_self] at htk
  generalize (decF ((D.drop A).take n) 0).1 = f at *
  have hlen : ((D.drop A).take n).length = n := by
    have := List.length_take_le n (D.drop A)
    omega
  have hsplit : D.drop A = en f ++ (D.drop A).drop n := by rw [← htk, List.take_append_drop]
  have hAD : A < D.length := by
    rcases Nat.lt_or_ge A D.length with q | q
    · exact q
    · rw [List.drop_eq_nil_of_le q] at hlen
      simp at hlen
      have := en_pos f
      omega
  have hlead : D.getD A 0 = 167 := by
    have e1 : (D.drop A).getD 0 0 = D.getD A 0 := by
      rw [List.getD_eq_getElem?_getD, List.getElem?_drop, Nat.add_zero, ← List.getD_eq_getElem?_getD]
    rw [← e1, hsplit]
    have := en_head f
    have hp := en_pos f
    rw [List.getD_eq_getElem?_getD, List.getElem?_append_left (by omega), ← List.getD_eq_getElem?_getD]
    exact this
  rw [hD] at hAD hlead
  obtain ⟨a, i, b, rfl, hA⟩ := lead_at ls s A hAD hlead
  refine ⟨a, i, b, rfl, hA, ?_⟩
  have hi : i < 1000000 := hs i (by simp)
  have e2 : D.drop A = fA ls i ++ dat ls b := by rw [hD, hA, dat_app, List.drop_left, dat_cons]
  have d1 := fA_dcd ls i hi (dat ls b)
  have d2 := dcd_en hwf hrf ((D.drop A).drop n)
  rw [← hsplit, e2, d1] at d2
  injection d2 with _ d2
  injection d2 with d2 _
  omega
end Sg
end Go.Proofs.YtnakaomgceoobaaGreat
