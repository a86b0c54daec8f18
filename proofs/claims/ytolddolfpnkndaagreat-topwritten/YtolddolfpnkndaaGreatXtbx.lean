/-
  WHAT A SEGMENT OF RECORDS TELLS, PLAINLY: its bytes are clean, its records are those that were put, in their order; what Files and Read tell of it.
  The law's sameFiles.
-/
import Derived.Test.YtolddolfpnkndaaGreatXtbn
import Derived.Test.YtolddolfpnkndaaGreatXtbw
import Derived.Test.YtolddolfpnkndaaGreatXtbv
import Derived.Test.YtolddolfpnkndaaGreatXtak
namespace Go.Proofs.YtolddolfpnkndaaGreat
open Go.RowKit
namespace Sg
open Vt Dk
noncomputable def gfr (rs : Nat → Rec) (s : List Nat) : List Fr := s.map fun i => ofR (rs i)
section
variable {rs : Nat → Rec} {sy : Nat → Bool} {ex : Nat → Nat} {N : Nat}
theorem gdat_ens (s : List Nat) : gdat rs s = ens (gfr rs s) := by unfold gdat ens gfr; rw [List.map_map]; rfl
theorem gfr_fit (hr : Rok rs N) {s : List Nat} (hs : ∀ i ∈ s, i < N) : Fit (gfr rs s) := by
  intro f hf
  obtain ⟨i, hi, rfl⟩ := List.mem_map.1 hf
  exact ⟨hr.wf i (hs i hi), hr.rf i (hs i hi)⟩
theorem plf_map : ∀ (fs : List Fr) (p : Nat), (plf p fs).map (fun x => x.2.2) = fs
  | [], _ => rfl
  | f :: q, p => by show f :: (plf _ q).map _ = _; rw [plf_map q]
theorem locs_nilS (p : Nat) : locs p [] = [] := by rw [locs]
theorem locs_gdat (hr : Rok rs N) {s : List Nat} (hs : ∀ i ∈ s, i < N) : locs 0 (gdat rs s) = plf 0 (gfr rs s) := by
  have h := locs_ens (gfr_fit hr hs) (r := []) (fun x hx => by cases hx) 0
  rw [List.append_nil, locs_nilS, List.append_nil] at h
  rw [gdat_ens]; exact h
theorem recs_gdat (hr : Rok rs N) {s : List Nat} (hs : ∀ i ∈ s, i < N) : recs [1, 2] (gdat rs s) = plf 0 (gfr rs s) := by
  unfold recs
  rw [locs_gdat hr hs, List.filter_eq_self]
  intro x hx
  have hm : x.2.2 ∈ gfr rs s := by rw [← plf_map (gfr rs s) 0]; exact List.mem_map.2 ⟨x, hx, rfl⟩
  obtain ⟨i, hi, e⟩ := List.mem_map.1 hm
  unfold isw
  rw [← e]
  have hk : (ofR (rs i)).kind = (rs i).kind := rfl
  rw [hk]
  rcases hr.kind i (hs i hi) with q | q <;> rw [q] <;> decide
theorem gdat_len (hr : Rok rs N) : ∀ s : List Nat, (∀ i ∈ s, i < N) → (gdat rs s).length ≤ 4409 * s.length
  | [], _ => Nat.zero_le _
  | i :: s, h => by
    have h1 := hr.len i (h i List.mem_cons_self)
    have h2 := gdat_len hr s fun k hk => h k (List.mem_cons_of_mem _ hk)
    have h3 : (gB rs i).length ≤ 4409 := h1
    rw [gdat_cons, List.length_append, List.length_cons]
    omega
/-- segments' sizes -/
theorem seg_len {k : Nat} {segs : List (List Nat)} (h : segs.flatten = List.range k) {s : List Nat} (hs : s ∈ segs) : s.length ≤ k := by
  have h1 := List.length_flatten (L := segs)
  rw [h, List.length_range] at h1
  have h2 : s.length ≤ (segs.map List.length).sum := by
    clear h1 h
    induction segs with
    | nil => cases hs
    | cons x r ih =>
      rw [List.map_cons, List.sum_cons]
      rcases List.mem_cons.1 hs with rfl | hs
      · omega
      · have := ih hs; omega
  omega
/-- what Read tells of a record's place -/
theorem gread {X : Ws × Ds} {n : Nat} {segs : List (List Nat)} (h : Gx rs sy ex X n segs) (hr : Rok rs N) (hn : n ≤ N) (hc : (gsat rs sy ex X n).2.acts ≤ 1000) {i : Nat} (hi : i < n) (S : Ds) (hS : S.fs = (gsat rs sy ex X n).2.fs) (hnf : Nf S) {sg A M : Nat} (hp : gplc rs i (gsat rs sy ex X i) = (sg, A, M)) :
    (Dk.read S (nmS sg) (A : Int) (M : Int)).1 = 0 ∧ (Dk.read S (nmS sg) (A : Int) (M : Int)).2 = tick S ∧ Nam.Nu sg ∧ 1 ≤ M ∧ rdX S sg (A : Int) (M : Int) = (rs i, 0) := by
  obtain ⟨j, s, a, b, hj, es, hp0⟩ := h.seg hi
  rw [hp0] at hp
  injection hp with q1 q2
  injection q2 with q2 q3
  subst q1 q2 q3
  obtain ⟨las, hg⟩ := h.file hj
  rw [← hS] at hg
  have hjb : j < 4000000 := by
    rcases h.iv with ⟨rfl, _⟩ | ⟨init, last, l9, e, hi⟩
    · omega
    · have hjl : j < segs.length := (List.getElem?_eq_some_iff.1 hj).1
      have hc2 := hi.good.cnt
      have hfs : (gsat rs sy ex X n).2.fs.length = segs.length := by rw [hi.fs, e]; simp [files_len]
      omega
  have hlk : Dk.look S (nmS (j + 1)) (decide ((0 : Int) ≤ ((gdat rs a).length : Int)) && decide ((0 : Int) ≤ ((gB rs i).length : Int))) = 0 := by
    rw [show (decide ((0 : Int) ≤ ((gdat rs a).length : Int)) && decide ((0 : Int) ≤ ((gB rs i).length : Int))) = true by simp]
    exact look_nf hnf (nmS_isNm _) hg
  have hby : Dk.bytes S (nmS (j + 1)) ((gdat rs a).length : Int) ((gB rs i).length : Int) = ((gdat rs s).drop (gdat rs a).length).take (gB rs i).length := by
    unfold Dk.bytes; rw [hg]; simp
  refine ⟨by unfold Dk.read; rw [hlk, act_nf hnf], by unfold Dk.read; rw [hlk, act_nf hnf]; rfl, ⟨by omega, by omega⟩, by unfold gB; rw [en_len]; omega, ?_⟩
  unfold rdX
  rw [hby, es, gdec_own hr a i b (by omega)]
  simp only
  rw [if_neg]
  · rfl
  · rintro (q | q | ⟨q, q'⟩)
    · exact q rfl
    · exact q rfl
    · exact (hr.kind i (by omega)).elim q q'
end
end Sg
end Go.Proofs.YtolddolfpnkndaaGreat
namespace Go.Proofs.YtolddolfpnkndaaGreat
open Go.RowKit Go.Maps Go.Sort
namespace Dk
open Vt
/-- cell by cell -/
theorem FLs.at {w : World} {lo : Nat} {v : Value} {l : List (ByteArray × List Nat)} (h : FLs w lo v l) {k : Nat} {s : ByteArray} {x : List Nat} (hk : l[k]? = some (s, x)) : ∃ g c ua uc, v = .slice (some ⟨g, 0, none⟩) l.length c ∧ l.length ≤ c ∧ c ≤ maxLen ∧ w.cell? ⟨g, k * 2, none⟩ = some (.string s) ∧ w.cell? ⟨g, k * 2 + 1, none⟩ = some (.slice ua x.length uc) ∧ JB w lo (.slice ua x.length uc) x := by
  obtain ⟨cs, rfl, hP, hc⟩ := h
  rw [List.getElem?_map] at hk
  obtain ⟨c, hck, hcx⟩ := Option.map_eq_some_iff.1 hk
  injection hcx with h1 h2
  subst h1 h2
  have hJ := hc c (List.mem_of_getElem? hck)
  obtain ⟨ua, uc, hu, _⟩ := hJ.shape
  obtain ⟨_, h0, ⟨rfl, hn⟩ | ⟨g, cap, cur, rfl, hge, hh, hl, hm, hsz, ht⟩⟩ := hP
  · rw [List.length_map] at hn
    rw [List.eq_nil_of_length_eq_zero hn] at hck
    cases hck
  · rw [List.length_map] at hl ht
    have hp := Ow.pc_at (cs.map fun c => (Value.string c.1, c.2.2)) k (.string c.1, c.2.2) (by rw [List.getElem?_map, hck]; rfl)
    have hcell : ∀ j u, (Ow.pc (cs.map fun c => (Value.string c.1, c.2.2)))[j]? = some u → w.cell? ⟨g, j, none⟩ = some u := by
      intro j u hj
      rw [← ht, List.getElem?_take] at hj
      split at hj
      · simp only [World.cell?, hh]
        simpa using hj
      · cases hj
    refine ⟨g, cap, ua, uc, by simp, by simpa using hl, hm, hcell _ _ hp.1, ?_, by rw [← hu]; exact hJ⟩
    rw [← hu]; exact hcell _ _ hp.2
end Dk
end Go.Proofs.YtolddolfpnkndaaGreat
