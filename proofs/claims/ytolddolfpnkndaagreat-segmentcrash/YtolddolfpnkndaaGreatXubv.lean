/-
  WHAT A SEGMENT OF RECORDS TELLS, PLAINLY: its bytes are clean, its records are those that were put, in their order; what Files and Read tell of it.
  The law's sameFiles.
-/
import Derived.Test.YtolddolfpnkndaaGreatXubl
import Derived.Test.YtolddolfpnkndaaGreatXubu
import Derived.Test.YtolddolfpnkndaaGreatXubt
import Derived.Test.YtolddolfpnkndaaGreatXuai
namespace Go.Proofs.YtolddolfpnkndaaGreat
open Go.RowKit
namespace Sg
open Vt Dk
noncomputable def gfr (rs : Nat → Rec) (s : List Nat) : List Fr := s.map fun i => ofR (rs i)
section
variable {rs : Nat → Rec} {sy : Nat → Bool} {ex : Nat → Nat} {N : Nat}
theorem gdat_ens (s : List Nat) : gdat rs s = ens (gfr rs s) := by unfold gdat ens gfr; rw [List.map_map]; rfl
theorem gfr_fit (hr : Rok rs N) {s : List Nat} (hs : ∀ i ∈ s, i < N) : Fit (gfr rs s) := by
  intro f hf
  obtain ⟨i, hi, rfl⟩ := List.mem_map.1 hf
  exact ⟨hr.wf i (hs i hi), hr.rf i (hs i hi)⟩
theorem plf_map : ∀ (fs : List Fr) (p : Nat), (plf p fs).map (fun x => x.2.2) = fs
  | [], _ => rfl
  | f :: q, p => by show f :: (plf _ q).map _ = _; rw [plf_map q]
theorem plf_len (fs : List Fr) (p : Nat) : (plf p fs).length = fs.length := by
  have := congrArg List.length (plf_map fs p)
  rw [List.length_map] at this; exact this
theorem locs_nilS (p : Nat) : locs p [] = [] := by rw [locs]
theorem locs_gdat (hr : Rok rs N) {s : List Nat} (hs : ∀ i ∈ s, i < N) : locs 0 (gdat rs s) = plf 0 (gfr rs s) := by
  have h := locs_ens (gfr_fit hr hs) (r := []) (fun x hx => by cases hx) 0
  rw [List.append_nil, locs_nilS, List.append_nil] at h
  rw [gdat_ens]; exact h
theorem recs_gdat (hr : Rok rs N) {s : List Nat} (hs : ∀ i ∈ s, i < N) : recs [1, 2] (gdat rs s) = plf 0 (gfr rs s) := by
  unfold recs
  rw [locs_gdat hr hs, List.filter_eq_self]
  intro x hx
  have hm : x.2.2 ∈ gfr rs s := by rw [← plf_map (gfr rs s) 0]; exact List.mem_map.2 ⟨x, hx, rfl⟩
  obtain ⟨i, hi, e⟩ := List.mem_map.1 hm
  unfold isw
  rw [← e]
  have hk : (ofR (rs i)).kind = (rs i).kind := rfl
  rw [hk]
  rcases hr.kind i (hs i hi) with q | q <;> rw [q] <;> decide
/-- the k-th record of a segment -/
theorem recs_at (hr : Rok rs N) {s : List Nat} (hs : ∀ i ∈ s, i < N) {k i : Nat} (hk : s[k]? = some i) : ∃ x, (recs [1, 2] (gdat rs s))[k]? = some x ∧ x.2.2 = ofR (rs i) := by
  rw [recs_gdat hr hs]
  have hl : k < (plf 0 (gfr rs s)).length := by
    rw [plf_len]; unfold gfr; rw [List.length_map]
    exact (List.getElem?_eq_some_iff.1 hk).1
  refine ⟨(plf 0 (gfr rs s))[k], List.getElem?_eq_getElem hl, ?_⟩
  have h1 : ((plf 0 (gfr rs s)).map (fun x => x.2.2))[k]? = some ((plf 0 (gfr rs s))[k]).2.2 := by rw [List.getElem?_map, List.getElem?_eq_getElem hl]; rfl
  rw [plf_map] at h1
  have h2 : (gfr rs s)[k]? = some (ofR (rs i)) := by unfold gfr; rw [List.getElem?_map, hk]; rfl
  rw [h1] at h2
  injection h2
theorem recs_len' (hr : Rok rs N) {s : List Nat} (hs : ∀ i ∈ s, i < N) : (recs [1, 2] (gdat rs s)).length = s.length := by
  rw [recs_gdat hr hs, plf_len]; unfold gfr; rw [List.length_map]
theorem gdat_len (hr : Rok rs N) : ∀ s : List Nat, (∀ i ∈ s, i < N) → (gdat rs s).length ≤ 4409 * s.length
  | [], _ => Nat.zero_le _
  | i :: s, h => by
    have h1 := hr.len i (h i List.mem_cons_self)
    have h2 := gdat_len hr s fun k hk => h k (List.mem_cons_of_mem _ hk)
    have h3 : (gB rs i).length ≤ 4409 := h1
    rw [gdat_cons, List.length_append, List.length_cons]
    omega
/-- segments' sizes -/
theorem seg_len {k : Nat} {segs : List (List Nat)} (h : segs.flatten = List.range k) {s : List Nat} (hs : s ∈ segs) : s.length ≤ k := by
  have h1 := List.length_flatten (L := segs)
  rw [h, List.length_range] at h1
  have h2 : s.length ≤ (segs.map List.length).sum := by
    clear h1 h
    induction segs with
    | nil => cases hs
    | cons x r ih =>
      rw [List.map_cons, List.sum_cons]
      rcases List.mem_cons.1 hs with rfl | hs
      · omega
      · have := ih hs; omega
  omega
/-- which record stands k-th in the j-th segment -/
theorem seg_at {K : Nat} {segs : List (List Nat)} (h : segs.flatten = List.range K) {j k : Nat} {s : List Nat} (hj : segs[j]? = some s) (hk : k < s.length) : s[k]? = some ((segs.take j).flatten.length + k) ∧ (segs.take j).flatten.length + k < K := by
  have hjl := (List.getElem?_eq_some_iff.1 hj).1
  have e1 : segs = segs.take j ++ s :: segs.drop (j + 1) := by
    have := List.take_append_drop j segs
    rw [List.drop_eq_getElem_cons hjl] at this
    rw [← (List.getElem?_eq_some_iff.1 hj).2]
    exact this.symm
  have e2 : (segs.take j).flatten ++ (s ++ (segs.drop (j + 1)).flatten) = List.range K := by
    rw [← h]
    conv => rhs; rw [e1]
    rw [List.flatten_append, List.flatten_cons]
  have e3 : (List.range K)[(segs.take j).flatten.length + k]? = s[k]? := by
    rw [← e2, List.getElem?_append_right (by omega), show (segs.take j).flatten.length + k - (segs.take j).flatten.length = k by omega, List.getElem?_append_left hk]
  rw [List.getElem?_eq_getElem hk] at e3 ⊢
  have h4 := List.getElem?_eq_some_iff.1 e3
  obtain ⟨h5, h6⟩ := h4
  rw [List.length_range] at h5
  refine ⟨?_, h5⟩
  rw [List.getElem_range] at h6
  rw [h6]
theorem take_next {segs : List (List Nat)} {j : Nat} {s : List Nat} (hj : segs[j]? = some s) : (segs.take (j + 1)).flatten.length = (segs.take j).flatten.length + s.length := by
  rw [List.take_add_one, hj, Option.toList_some, List.flatten_append, List.length_append]
  simp
theorem take_all {K : Nat} {segs : List (List Nat)} (h : segs.flatten = List.range K) : (segs.take segs.length).flatten.length = K := by
  rw [List.take_length, h, List.length_range]
theorem files_at (k : Nat) (a : List (List Nat)) (j : Nat) (x : List Nat) (h : a[j]? = some x) : (files k a)[j]? = some ⟨nmS (k + j), x, x.length⟩ := by
  induction a generalizing k j with
  | nil => simp at h
  | cons y r ih =>
    cases j with
    | zero =>
      have : y = x := by simpa using h
      subst this
      rfl
    | succ j =>
      have := ih (k + 1) j (by simpa using h)
      rw [show k + 1 + j = k + (j + 1) by omega] at this
      exact this
end
end Sg
end Go.Proofs.YtolddolfpnkndaaGreat
namespace Go.Proofs.YtolddolfpnkndaaGreat
open Go.RowKit Go.Maps Go.Sort
namespace Dk
open Vt
/-- cell by cell -/
theorem FLs.at {w : World} {lo : Nat} {v : Value} {l : List (ByteArray × List Nat)} (h : FLs w lo v l) {k : Nat} {s : ByteArray} {x : List Nat} (hk : l[k]? = some (s, x)) : ∃ g c ua uc, v = .slice (some ⟨g, 0, none⟩) l.length c ∧ l.length ≤ c ∧ c ≤ maxLen ∧ w.cell? ⟨g, k * 2, none⟩ = some (.string s) ∧ w.cell? ⟨g, k * 2 + 1, none⟩ = some (.slice ua x.length uc) ∧ JB w lo (.slice ua x.length uc) x := by
  obtain ⟨cs, rfl, hP, hc⟩ := h
  rw [List.getElem?_map] at hk
  obtain ⟨c, hck, hcx⟩ := Option.map_eq_some_iff.1 hk
  injection hcx with h1 h2
  subst h1 h2
  have hJ := hc c (List.mem_of_getElem? hck)
  obtain ⟨ua, uc, hu, _⟩ := hJ.shape
  obtain ⟨_, h0, ⟨rfl, hn⟩ | ⟨g, cap, cur, rfl, hge, hh, hl, hm, hsz, ht⟩⟩ := hP
  · rw [List.length_map] at hn
    rw [List.eq_nil_of_length_eq_zero hn] at hck
    cases hck
  · rw [List.length_map] at hl ht
    have hp := Ow.pc_at (cs.map fun c => (Value.string c.1, c.2.2)) k (.string c.1, c.2.2) (by rw [List.getElem?_map, hck]; rfl)
    have hcell : ∀ j u, (Ow.pc (cs.map fun c => (Value.string c.1, c.2.2)))[j]? = some u → w.cell? ⟨g, j, none⟩ = some u := by
      intro j u hj
      rw [← ht, List.getElem?_take] at hj
      split at hj
      · simp only [World.cell?, hh]
        simpa using hj
      · cases hj
    refine ⟨g, cap, ua, uc, by simp, by simpa using hl, hm, hcell _ _ hp.1, ?_, by rw [← hu]; exact hJ⟩
    rw [← hu]; exact hcell _ _ hp.2
end Dk
end Go.Proofs.YtolddolfpnkndaaGreat
