/-
  THE LAW'S works(): junk and two frames, as the chapter fixes it: it answers true.
  EXTENTS COVER EVERY BYTE ONCE, plainly: they lie end to end; at a frame's first byte a frame is read, at no other place.
  CLEAN BYTES, plainly: frames one behind the other; what is laid behind them is cut as by itself.
  PARTS AND DAMAGE, plainly: a part has just the frames that lie in it whole; where a byte is changed all frames that do not hold it stay.
  A REGION THAT DRAWS ITS ORDER, WITHIN A FENCE, AS Rd HAS IT; what is not yet listed has not yet written; the world of a region with two operations that turn it.
  THE WALK OF the law's own lent (layer 5): bytes that are lent, with marked places behind them.
  THE LAW'S spots AND has: the places of the frames, as Extents tells them.
  WHAT A SEGMENT OF RECORDS TELLS, PLAINLY: its bytes are clean, its records are those that were put, in their order; what Files and Read tell of it.
-/
import Derived.Test.YtolddolfpnkndaaGreatXsbu
import Derived.Test.YtolddolfpnkndaaGreatXsbv
import Derived.Test.YtolddolfpnkndaaGreatXsbw
import Derived.Test.YtolddolfpnkndaaGreatXsbc
import Derived.Test.YtolddolfpnkndaaGreatXsbq
import Derived.Test.YtolddolfpnkndaaGreatXsbt
import Derived.Test.YtolddolfpnkndaaGreatXsab
import Derived.Test.YtolddolfpnkndaaGreatXsbo
namespace Go.Proofs.YtolddolfpnkndaaGreat
open Go.RowKit Go.Shelf
namespace Vt
/-- a Put of the key tea -/
def tf (n : Nat) : Fr := ⟨1, ⟨n, 1, ⟨#[116, 101, 97]⟩, ⟨#[103, 114, 101, 101, 110]⟩⟩, zp, ze⟩
/-- junk and two frames -/
def two : List Nat := [1, 2] ++ (en (tf 1) ++ en (tf 2))
theorem en_byt {f : Fr} (h : rf f = 0) : Byt (en f) := by
  rw [en_eq]
  intro x hx
  rcases List.mem_cons.1 hx with rfl | hx
  · decide
  · exact byt_app (dg_byt _ _) (byt_app (wr_byt (bd_byt h)) (dg_byt _ _)) x hx
theorem en_len_le {f : Fr} (hw : f.Wf) (h : rf f = 0) : (en f).length ≤ 4409 := by
  have h1 := (bd_len hw h).1
  have h2 := (wr_len (bd f)).2
  rw [en_len]; omega
end Vt
end Go.Proofs.YtolddolfpnkndaaGreat
namespace Go.Proofs.YtolddolfpnkndaaGreat
namespace Vt
/-- extents that lie end to end from at_ on to the end; pj: is the one ahead junk? -/
def Tiles (l : List Nat) : Nat → Bool → List Ex → Prop
  | at_, _, [] => at_ = l.length
  | at_, pj, x :: r => ∃ n : Nat, x.2.1 = (at_ : Int) ∧ x.2.2 = (n : Int) ∧ 1 ≤ n ∧ at_ + n ≤ l.length ∧ (x.1 = true → pj = false) ∧
      (∀ k, at_ ≤ k → k < at_ + n → ((dcd (l.drop k)).2.2 = 0 ↔ (x.1 = false ∧ k = at_))) ∧ (x.1 = false → (dcd (l.drop at_)).2.1 = n) ∧ Tiles l (at_ + n) x.1 r
end Vt
end Go.Proofs.YtolddolfpnkndaaGreat
namespace Go.Proofs.YtolddolfpnkndaaGreat
namespace Vt
/-- frames one behind the other -/
def ens (fs : List Fr) : List Nat := (fs.map en).flatten
def Fit (fs : List Fr) : Prop := ∀ f ∈ fs, f.Wf ∧ rf f = 0
theorem fit_cons {f : Fr} {q : List Fr} (h : Fit (f :: q)) : f.Wf ∧ rf f = 0 ∧ Fit q := ⟨(h f List.mem_cons_self).1, (h f List.mem_cons_self).2, fun x hx => h x (List.mem_cons_of_mem _ hx)⟩
theorem ens_cons (f : Fr) (q : List Fr) : ens (f :: q) = en f ++ ens q := rfl
theorem ens_byt {fs : List Fr} (h : Fit fs) : Byt (ens fs) := by
  induction fs with
  | nil => exact byt_nil
  | cons f q ih =>
    obtain ⟨_, h2, h3⟩ := fit_cons h
    rw [ens_cons]; exact byt_app (en_byt h2) (ih h3)
/-- where they stand -/
def plf : Nat → List Fr → List Lc
  | _, [] => []
  | p, f :: q => (p, (en f).length, f) :: plf (p + (en f).length) q
theorem locs_ens {fs : List Fr} (h : Fit fs) {r : List Nat} (hr : Byt r) : ∀ p, locs p (ens fs ++ r) = plf p fs ++ locs (p + (ens fs).length) r := by
  induction fs with
  | nil => intro p; rfl
  | cons f q ih =>
    intro p
    obtain ⟨h1, h2, h3⟩ := fit_cons h
    rw [ens_cons, List.append_assoc, locs_en h1 h2 (byt_app (en_byt h2) (byt_app (ens_byt h3) hr)), ih h3, plf, List.length_append, Nat.add_assoc]; rfl
/-- the extents of frames alone -/
def fex : Nat → List Fr → List Ex
  | _, [] => []
  | p, f :: q => (false, (p : Int), ((en f).length : Int)) :: fex (p + (en f).length) q
/-- what Clean leaves is frames one behind the other -/
theorem cln_ens {l : List Nat} (hb : Byt l) (L : List Lc) (h : ∀ x ∈ L, x ∈ locs 0 l) : ∃ fs, cln l L = ens fs ∧ Fit fs ∧ fs = L.map (fun x => x.2.2) := by
  induction L with
  | nil => exact ⟨[], rfl, (by intro f hf; cases hf), rfl⟩
  | cons x q ih =>
    obtain ⟨fs, e1, e2, e3⟩ := ih (fun y hy => h y (List.mem_cons_of_mem _ hy))
    obtain ⟨_, h2, h3, h4, h5, h6⟩ := locs_mem hb 0 x (h x List.mem_cons_self)
    rw [Nat.sub_zero] at h3
    obtain ⟨_, _, _, _, k5⟩ := en_dcd (byt_drop hb x.1) (by rw [h3])
    rw [h3] at k5
    refine ⟨x.2.2 :: fs, ?_, ?_, by rw [e3]; rfl⟩
    · rw [show cln l (x :: q) = (l.drop x.1).take x.2.1 ++ cln l q from rfl, e1, ens_cons]; rw [k5]
    · intro f hf
      rcases List.mem_cons.1 hf with rfl | hf
      · exact ⟨h6, h5⟩
      · exact e2 f hf
theorem cln_all {l : List Nat} (hb : Byt l) : ∃ fs, cln l (locs 0 l) = ens fs ∧ Fit fs ∧ fs = (locs 0 l).map (fun x => x.2.2) := cln_ens hb _ (fun _ h => h)
def exsh (q : Nat) (x : Ex) : Ex := (x.1, (q : Int) + x.2.1, x.2.2)
end Vt
end Go.Proofs.YtolddolfpnkndaaGreat
namespace Go.Proofs.YtolddolfpnkndaaGreat
namespace Vt
/-- the places of the frames -/
noncomputable def sps (l : List Nat) : List (Nat × Nat) := (locs 0 l).map fun x => (x.1, x.2.1)
/-- the frames that lie whole in a part, seen from there -/
def inPart (i j : Nat) (s : Nat × Nat) : Bool := decide (i ≤ s.1) && decide (s.1 + s.2 ≤ j)
end Vt
end Go.Proofs.YtolddolfpnkndaaGreat
namespace Go.Proofs.YtolddolfpnkndaaGreat
open Go Go.RowKit
/-- the world of a region with two operations p, q that turn it, q behind p -/
def Wd3 (p q : Nat) (A B C : World) (L : Array Bool) (w : World) : Prop := (L.getD p false = false → L.getD q false = false ∧ w = A) ∧ (L.getD p false = true → L.getD q false = false → w = B) ∧ (L.getD q false = true → w = C)
theorem Wd3.keep {p q : Nat} {A B C : World} {L : Array Bool} {w : World} (h : Wd3 p q A B C L w) {i : Nat} (hi : i < L.size) (hp : p ≠ i) (hq : q ≠ i) : Wd3 p q A B C (L.setIfInBounds i true) w := by
  unfold Wd3 at *
  rw [set_getD _ _ _ hi, set_getD _ _ _ hi, if_neg hp, if_neg hq]
  exact h
theorem Wd3.first {p q : Nat} {A B C : World} {L : Array Bool} {w : World} (h : Wd3 p q A B C L w) (hi : p < L.size) (hq : q ≠ p) (h1 : L.getD p false = false) : Wd3 p q A B C (L.setIfInBounds p true) B := by
  have h2 := (h.1 h1).1
  unfold Wd3
  rw [set_getD _ _ _ hi, set_getD _ _ _ hi, if_pos rfl, if_neg hq, h2]
  exact ⟨fun h => (by cases h), fun _ _ => rfl, fun h => (by cases h)⟩
end Go.Proofs.YtolddolfpnkndaaGreat
namespace Go.Proofs.YtolddolfpnkndaaGreat
open Go.RowKit
namespace Vt
/-- the bytes with the eight marked places behind them -/
def mk8 (l : List Nat) : List Nat := l ++ List.replicate 8 238
end Vt
end Go.Proofs.YtolddolfpnkndaaGreat
namespace Go.Proofs.YtolddolfpnkndaaGreat
open Go.RowKit Go.Shelf
namespace Vt
attribute [local go_sem ↓] append_hide
def spv (s : Nat × Nat) : List Value := [.int .i64 (s.1 : Int), .int .i64 (s.2 : Int)]
/-- the extents that are no junk -/
def nj (E : List Ex) : List (List Value) := (E.filter (fun x => !x.1)).map fun x => [.int .i64 x.2.1, .int .i64 x.2.2]
theorem JR.grownJ {E E' : TypeId} {sz sz' : Nat} {w w' : World} {b1 b2 : Nat} {v u : Value} {l m : List (List Value)} (h : JR E sz w b1 v l) (hr : JR E' sz' w b2 u m) (hne : E ≠ E') (hg : w.grownBy w' u.ownBlock) : JR E sz w' b1 v l := by
  refine h.grownO hg fun g hgb e => ?_
  obtain ⟨_, _, ⟨rfl, _⟩ | ⟨g1, cap1, cur1, rfl, _, hh1, _⟩⟩ := h
  · cases hgb
  · obtain ⟨_, _, ⟨rfl, _⟩ | ⟨g2, cap2, cur2, rfl, _, hh2, _⟩⟩ := hr
    · cases e
    · cases hgb
      injection e with e
      have e' : g1 = g2 := e
      subst e'
      rw [hh1] at hh2
      injection hh2 with hh2
      injection hh2 with _ hh2
      exact hne hh2
end Vt
end Go.Proofs.YtolddolfpnkndaaGreat
namespace Go.Proofs.YtolddolfpnkndaaGreat
open Go.RowKit
namespace Sg
open Vt Dk
noncomputable def gfr (rs : Nat → Rec) (s : List Nat) : List Fr := s.map fun i => ofR (rs i)
section
variable {rs : Nat → Rec} {sy : Nat → Bool} {ex : Nat → Nat} {N : Nat}
theorem gdat_ens (s : List Nat) : gdat rs s = ens (gfr rs s) := by unfold gdat ens gfr; rw [List.map_map]; rfl
theorem gfr_fit (hr : Rok rs N) {s : List Nat} (hs : ∀ i ∈ s, i < N) : Fit (gfr rs s) := by
  intro f hf
  obtain ⟨i, hi, rfl⟩ := List.mem_map.1 hf
  exact ⟨hr.wf i (hs i hi), hr.rf i (hs i hi)⟩
theorem plf_map : ∀ (fs : List Fr) (p : Nat), (plf p fs).map (fun x => x.2.2) = fs
  | [], _ => rfl
  | f :: q, p => by show f :: (plf _ q).map _ = _; rw [plf_map q]
theorem plf_len (fs : List Fr) (p : Nat) : (plf p fs).length = fs.length := by
  have := congrArg List.length (plf_map fs p)
  rw [List.length_map] at this; exact this
theorem locs_nilS (p : Nat) : locs p [] = [] := by rw [locs]
theorem locs_gdat (hr : Rok rs N) {s : List Nat} (hs : ∀ i ∈ s, i < N) : locs 0 (gdat rs s) = plf 0 (gfr rs s) := by
  have h := locs_ens (gfr_fit hr hs) (r := []) (fun x hx => by cases hx) 0
  rw [List.append_nil, locs_nilS, List.append_nil] at h
  rw [gdat_ens]; exact h
theorem cln_gdat (hr : Rok rs N) {s : List Nat} (hs : ∀ i ∈ s, i < N) : cln (gdat rs s) (locs 0 (gdat rs s)) = gdat rs s := by
  obtain ⟨fs, h1, _, h3⟩ := cln_all (gdat_byt hr s hs)
  rw [h1, h3, locs_gdat hr hs, plf_map, gdat_ens]
theorem recs_gdat (hr : Rok rs N) {s : List Nat} (hs : ∀ i ∈ s, i < N) : recs [1, 2] (gdat rs s) = plf 0 (gfr rs s) := by
  unfold recs
  rw [locs_gdat hr hs, List.filter_eq_self]
  intro x hx
  have hm : x.2.2 ∈ gfr rs s := by rw [← plf_map (gfr rs s) 0]; exact List.mem_map.2 ⟨x, hx, rfl⟩
  obtain ⟨i, hi, e⟩ := List.mem_map.1 hm
  unfold isw
  rw [← e]
  have hk : (ofR (rs i)).kind = (rs i).kind := rfl
  rw [hk]
  rcases hr.kind i (hs i hi) with q | q <;> rw [q] <;> decide
/-- the k-th record of a segment -/
theorem recs_at (hr : Rok rs N) {s : List Nat} (hs : ∀ i ∈ s, i < N) {k i : Nat} (hk : s[k]? = some i) : ∃ x, (recs [1, 2] (gdat rs s))[k]? = some x ∧ x.2.2 = ofR (rs i) := by
  rw [recs_gdat hr hs]
  have hl : k < (plf 0 (gfr rs s)).length := by
    rw [plf_len]; unfold gfr; rw [List.length_map]
    exact (List.getElem?_eq_some_iff.1 hk).1
  refine ⟨(plf 0 (gfr rs s))[k], List.getElem?_eq_getElem hl, ?_⟩
  have h1 : ((plf 0 (gfr rs s)).map (fun x => x.2.2))[k]? = some ((plf 0 (gfr rs s))[k]).2.2 := by rw [List.getElem?_map, List.getElem?_eq_getElem hl]; rfl
  rw [plf_map] at h1
  have h2 : (gfr rs s)[k]? = some (ofR (rs i)) := by unfold gfr; rw [List.getElem?_map, hk]; rfl
  rw [h1] at h2
  injection h2
theorem recs_len' (hr : Rok rs N) {s : List Nat} (hs : ∀ i ∈ s, i < N) : (recs [1, 2] (gdat rs s)).length = s.length := by
  rw [recs_gdat hr hs, plf_len]; unfold gfr; rw [List.length_map]
theorem locs_len' (hr : Rok rs N) {s : List Nat} (hs : ∀ i ∈ s, i < N) : (locs 0 (gdat rs s)).length = s.length := by
  rw [locs_gdat hr hs, plf_len]; unfold gfr; rw [List.length_map]
theorem gdat_len (hr : Rok rs N) : ∀ s : List Nat, (∀ i ∈ s, i < N) → (gdat rs s).length ≤ 4409 * s.length
  | [], _ => Nat.zero_le _
  | i :: s, h => by
    have h1 := hr.len i (h i List.mem_cons_self)
    have h2 := gdat_len hr s fun k hk => h k (List.mem_cons_of_mem _ hk)
    have h3 : (gB rs i).length ≤ 4409 := h1
    rw [gdat_cons, List.length_append, List.length_cons]
    omega
/-- segments' sizes -/
theorem seg_len {k : Nat} {segs : List (List Nat)} (h : segs.flatten = List.range k) {s : List Nat} (hs : s ∈ segs) : s.length ≤ k := by
  have h1 := List.length_flatten (L := segs)
  rw [h, List.length_range] at h1
  have h2 : s.length ≤ (segs.map List.length).sum := by
    clear h1 h
    induction segs with
    | nil => cases hs
    | cons x r ih =>
      rw [List.map_cons, List.sum_cons]
      rcases List.mem_cons.1 hs with rfl | hs
      · omega
      · have := ih hs; omega
  omega
/-- which record stands k-th in the j-th segment -/
theorem seg_at {K : Nat} {segs : List (List Nat)} (h : segs.flatten = List.range K) {j k : Nat} {s : List Nat} (hj : segs[j]? = some s) (hk : k < s.length) : s[k]? = some ((segs.take j).flatten.length + k) ∧ (segs.take j).flatten.length + k < K := by
  have hjl := (List.getElem?_eq_some_iff.1 hj).1
  have e1 : segs = segs.take j ++ s :: segs.drop (j + 1) := by
    have := List.take_append_drop j segs
    rw [List.drop_eq_getElem_cons hjl] at this
    rw [← (List.getElem?_eq_some_iff.1 hj).2]
    exact this.symm
  have e2 : (segs.take j).flatten ++ (s ++ (segs.drop (j + 1)).flatten) = List.range K := by
    rw [← h]
    conv => rhs; rw [e1]
    rw [List.flatten_append, List.flatten_cons]
  have e3 : (List.range K)[(segs.take j).flatten.length + k]? = s[k]? := by
    rw [← e2, List.getElem?_append_right (by omega), show (segs.take j).flatten.length + k - (segs.take j).flatten.length = k by omega, List.getElem?_append_left hk]
  rw [List.getElem?_eq_getElem hk] at e3 ⊢
  have h4 := List.getElem?_eq_some_iff.1 e3
  obtain ⟨h5, h6⟩ := h4
  rw [List.length_range] at h5
  refine ⟨?_, h5⟩
  rw [List.getElem_range] at h6
  rw [h6]
theorem take_next {segs : List (List Nat)} {j : Nat} {s : List Nat} (hj : segs[j]? = some s) : (segs.take (j + 1)).flatten.length = (segs.take j).flatten.length + s.length := by
  rw [List.take_add_one, hj, Option.toList_some, List.flatten_append, List.length_append]
  simp
theorem take_all {K : Nat} {segs : List (List Nat)} (h : segs.flatten = List.range K) : (segs.take segs.length).flatten.length = K := by
  rw [List.take_length, h, List.length_range]
theorem files_at (k : Nat) (a : List (List Nat)) (j : Nat) (x : List Nat) (h : a[j]? = some x) : (files k a)[j]? = some ⟨nmS (k + j), x, x.length⟩ := by
  induction a generalizing k j with
  | nil => simp at h
  | cons y r ih =>
    cases j with
    | zero =>
      have : y = x := by simpa using h
      subst this
      rfl
    | succ j =>
      have := ih (k + 1) j (by simpa using h)
      rw [show k + 1 + j = k + (j + 1) by omega] at this
      exact this
/-- what Files tells -/
theorem gtold {X : Ws × Ds} {k : Nat} {segs : List (List Nat)} (h : Gx rs sy ex X k segs) (hk : 0 < k) (S : Ds) (hS : S.fs = (gsat rs sy ex X k).2.fs) (hc : (gsat rs sy ex X k).2.acts ≤ 1000) : (Dk.told S true).length = segs.length ∧ segs.length ≤ 1201 ∧ ∀ j s, segs[j]? = some s → (Dk.told S true)[j]? = some (nmS (j + 1), gdat rs s) := by
  rcases h.iv with ⟨rfl, _⟩ | ⟨init, last, las, rfl, hi⟩
  · omega
  · have hln : init.length < 1201 := by
      have := hi.good.cnt
      rw [hi.fs] at this
      simp [files_len] at this
      omega
    have ht := told_iv hi (by rw [List.length_map]; omega) true
    have he : Dk.told S true = Dk.told (gsat rs sy ex X k).2 true := by unfold Dk.told; rw [hS]
    rw [he, ht]
    refine ⟨by simp [files_len], by simp; omega, fun j s hj => ?_⟩
    by_cases hji : j < init.length
    · rw [List.getElem?_append_left hji] at hj
      rw [List.getElem?_append_left (by rw [List.length_map, files_len, List.length_map]; exact hji), List.getElem?_map]
      have hf := files_at 1 (init.map (gdat rs)) j (gdat rs s) (by rw [List.getElem?_map, hj]; rfl)
      rw [hf, Nat.add_comm 1 j]; rfl
    · rw [List.getElem?_append_right (by omega)] at hj
      have hj0 : j = init.length := by
        rcases Nat.lt_or_ge (j - init.length) 1 with q | q
        · omega
        · rw [List.getElem?_eq_none (by simpa using q)] at hj; cases hj
      subst hj0
      rw [Nat.sub_self] at hj
      have e0 : last = s := by simpa using hj
      subst e0
      rw [List.getElem?_append_right (by rw [List.length_map, files_len, List.length_map]; exact Nat.le_refl _)]
      simp [files_len]
/-- what Read tells of a record's place -/
theorem gread {X : Ws × Ds} {n : Nat} {segs : List (List Nat)} (h : Gx rs sy ex X n segs) (hr : Rok rs N) (hn : n ≤ N) (hc : (gsat rs sy ex X n).2.acts ≤ 1000) {i : Nat} (hi : i < n) (S : Ds) (hS : S.fs = (gsat rs sy ex X n).2.fs) (hnf : Nf S) {sg A M : Nat} (hp : gplc rs i (gsat rs sy ex X i) = (sg, A, M)) :
    (Dk.read S (nmS sg) (A : Int) (M : Int)).1 = 0 ∧ (Dk.read S (nmS sg) (A : Int) (M : Int)).2 = tick S ∧ Nam.Nu sg ∧ 1 ≤ M ∧ rdX S sg (A : Int) (M : Int) = (rs i, 0) := by
  obtain ⟨j, s, a, b, hj, es, hp0⟩ := h.seg hi
  rw [hp0] at hp
  injection hp with q1 q2
  injection q2 with q2 q3
  subst q1 q2 q3
  obtain ⟨las, hg⟩ := h.file hj
  rw [← hS] at hg
  have hjb : j < 4000000 := by
    rcases h.iv with ⟨rfl, _⟩ | ⟨init, last, l9, e, hi⟩
    · omega
    · have hjl : j < segs.length := (List.getElem?_eq_some_iff.1 hj).1
      have hc2 := hi.good.cnt
      have hfs : (gsat rs sy ex X n).2.fs.length = segs.length := by rw [hi.fs, e]; simp [files_len]
      omega
  have hlk : Dk.look S (nmS (j + 1)) (decide ((0 : Int) ≤ ((gdat rs a).length : Int)) && decide ((0 : Int) ≤ ((gB rs i).length : Int))) = 0 := by
    rw [show (decide ((0 : Int) ≤ ((gdat rs a).length : Int)) && decide ((0 : Int) ≤ ((gB rs i).length : Int))) = true by simp]
    exact look_nf hnf (nmS_isNm _) hg
  have hby : Dk.bytes S (nmS (j + 1)) ((gdat rs a).length : Int) ((gB rs i).length : Int) = ((gdat rs s).drop (gdat rs a).length).take (gB rs i).length := by
    unfold Dk.bytes; rw [hg]; simp
  refine ⟨by unfold Dk.read; rw [hlk, act_nf hnf], by unfold Dk.read; rw [hlk, act_nf hnf]; rfl, ⟨by omega, by omega⟩, by unfold gB; rw [en_len]; omega, ?_⟩
  unfold rdX
  rw [hby, es, gdec_own hr a i b (by omega)]
  simp only
  rw [if_neg]
  · rfl
  · rintro (q | q | ⟨q, q'⟩)
    · exact q rfl
    · exact q rfl
    · exact (hr.kind i (by omega)).elim q q'
end
end Sg
end Go.Proofs.YtolddolfpnkndaaGreat
