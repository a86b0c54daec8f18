/-
  CLEAN BYTES, plainly: frames one behind the other; what is laid behind them is cut as by itself.
-/
import Derived.Test.YtbcibgjphjlffaaSc6
import Derived.Test.YtbcibgjphjlffaaSc7
namespace Go.Proofs.Ytbcibgjphjlffaa
namespace Vt
/-- frames one behind the other -/
def ens (fs : List Fr) : List Nat := (fs.map en).flatten
def Fit (fs : List Fr) : Prop := ∀ f ∈ fs, f.Wf ∧ rf f = 0
theorem fit_cons {f : Fr} {q : List Fr} (h : Fit (f :: q)) : f.Wf ∧ rf f = 0 ∧ Fit q := ⟨(h f List.mem_cons_self).1, (h f List.mem_cons_self).2, fun x hx => h x (List.mem_cons_of_mem _ hx)⟩
theorem ens_cons (f : Fr) (q : List Fr) : ens (f :: q) = en f ++ ens q := rfl
theorem ens_byt {fs : List Fr} (h : Fit fs) : Byt (ens fs) := by
  induction fs with
  | nil => exact byt_nil
  | cons f q ih =>
    obtain ⟨_, h2, h3⟩ := fit_cons h
    rw [ens_cons]; exact byt_app (en_byt h2) (ih h3)
/-- where they stand -/
def plf : Nat → List Fr → List Lc
  | _, [] => []
  | p, f :: q => (p, (en f).length, f) :: plf (p + (en f).length) q
theorem locs_ens {fs : List Fr} (h : Fit fs) {r : List Nat} (hr : Byt r) : ∀ p, locs p (ens fs ++ r) = plf p fs ++ locs (p + (ens fs).length) r := by
  induction fs with
  | nil => intro p; rfl
  | cons f q ih =>
    intro p
    obtain ⟨h1, h2, h3⟩ := fit_cons h
    rw [ens_cons, List.append_assoc, locs_en h1 h2 (byt_app (en_byt h2) (byt_app (ens_byt h3) hr)), ih h3, plf, List.length_append, Nat.add_assoc]; rfl
/-- the extents of frames alone -/
def fex : Nat → List Fr → List Ex
  | _, [] => []
  | p, f :: q => (false, (p : Int), ((en f).length : Int)) :: fex (p + (en f).length) q
theorem exR_plf (fs : List Fr) (L : List Lc) (N : Nat) : ∀ p, exR p (plf p fs ++ L) N = fex p fs ++ exR (p + (ens fs).length) L N := by
  induction fs with
  | nil => intro p; rfl
  | cons f q ih =>
    intro p
    rw [plf, List.cons_append, exR, ih, jk1, if_pos rfl, List.nil_append, fex, ens_cons, List.length_append, Nat.add_assoc]; rfl
/-- what Clean leaves is frames one behind the other -/
theorem cln_ens {l : List Nat} (hb : Byt l) (L : List Lc) (h : ∀ x ∈ L, x ∈ locs 0 l) : ∃ fs, cln l L = ens fs ∧ Fit fs ∧ fs = L.map (fun x => x.2.2) := by
  induction L with
  | nil => exact ⟨[], rfl, (by intro f hf; cases hf), rfl⟩
  | cons x q ih =>
    obtain ⟨fs, e1, e2, e3⟩ := ih (fun y hy => h y (List.mem_cons_of_mem _ hy))
    obtain ⟨_, h2, h3, h4, h5, h6⟩ := locs_mem hb 0 x (h x List.mem_cons_self)
    rw [Nat.sub_zero] at h3
    obtain ⟨_, _, _, _, k5⟩ := en_dcd (byt_drop hb x.1) (by rw [h3])
    rw [h3] at k5
    refine ⟨x.2.2 :: fs, ?_, ?_, by rw [e3]; rfl⟩
    · rw [show cln l (x :: q) = (l.drop x.1).take x.2.1 ++ cln l q from rfl, e1, ens_cons]; rw [k5]
    · intro f hf
      rcases List.mem_cons.1 hf with rfl | hf
      · exact ⟨h6, h5⟩
      · exact e2 f hf
theorem cln_all {l : List Nat} (hb : Byt l) : ∃ fs, cln l (locs 0 l) = ens fs ∧ Fit fs ∧ fs = (locs 0 l).map (fun x => x.2.2) := cln_ens hb _ (fun _ h => h)
def exsh (q : Nat) (x : Ex) : Ex := (x.1, (q : Int) + x.2.1, x.2.2)
theorem jk1_shift (q a b : Nat) : jk1 (q + a) (q + b) = (jk1 a b).map (exsh q) := by
  unfold jk1
  by_cases h : a = b
  · rw [if_pos h, if_pos (by omega)]; rfl
  · rw [if_neg h, if_neg (by omega)]
    simp only [List.map_cons, List.map_nil, exsh]
    congr 3 <;> omega
theorem exR_shift (q N : Nat) (L : List Lc) : ∀ e, exR (q + e) (L.map fun x => (q + x.1, x.2)) (q + N) = (exR e L N).map (exsh q) := by
  induction L with
  | nil => intro e; exact jk1_shift q e N
  | cons x r ih =>
    intro e
    rw [List.map_cons, exR, exR, List.map_append, List.map_cons, ← ih, jk1_shift, Nat.add_assoc]
    rfl
theorem exts_ens {fs : List Fr} (h : Fit fs) : exts (ens fs) = fex 0 fs := by
  have h1 := locs_ens h (r := []) byt_nil 0
  rw [List.append_nil, locs_nil, List.append_nil] at h1
  have h2 := exR_plf fs [] (ens fs).length 0
  rw [List.append_nil, Nat.zero_add] at h2
  rw [exts_eq, h1, h2, exR, jk1, if_pos rfl, List.append_nil]
theorem exts_join {fs : List Fr} (h : Fit fs) {b : List Nat} (hb : Byt b) : exts (ens fs ++ b) = exts (ens fs) ++ (exts b).map (exsh (ens fs).length) := by
  rw [exts_ens h, exts_eq, locs_ens h hb 0, exR_plf, Nat.zero_add, List.length_append, exts_eq b]
  congr 1
  have h1 := locs_shift b (ens fs).length 0
  have h2 := exR_shift (ens fs).length b.length (locs 0 b) 0
  rw [Nat.add_zero] at h1 h2
  rw [h1, h2]
theorem cln_len {l : List Nat} (hb : Byt l) : (cln l (locs 0 l)).length ≤ l.length := by
  have key : ∀ L : List Lc, (∀ x ∈ L, x ∈ locs 0 l) → (cln l L).length = (L.map fun x => x.2.1).sum := by
    intro L
    induction L with
    | nil => intro _; rfl
    | cons x q ih =>
      intro h
      obtain ⟨_, h2, _⟩ := locs_mem hb 0 x (h x List.mem_cons_self)
      rw [show cln l (x :: q) = (l.drop x.1).take x.2.1 ++ cln l q from rfl, List.length_append, ih (fun y hy => h y (List.mem_cons_of_mem _ hy)), List.map_cons, List.sum_cons, List.length_take, List.length_drop]
      omega
  rw [key _ (fun _ h => h)]
  exact locs_sum hb _ (Nat.le_refl _) 0
theorem exts_len {l : List Nat} (hb : Byt l) : (exts l).length ≤ 2 * l.length + 1 := by
  unfold exts
  rw [List.length_append]
  have h1 := exF_len (locs 0 l)
  have h2 := jk1_len (exF (locs 0 l)).2 l.length
  have h3 := locs_len hb _ (Nat.le_refl _) 0
  omega
end Vt
end Go.Proofs.Ytbcibgjphjlffaa
