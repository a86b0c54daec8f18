/-
  THE WALK OF the theorems' own records: all records of a disk's files.
  WHAT A CRASH LEAVES OF RECORDS, PLAINLY: a beginning of them, with all that were synced.
-/
import Derived.Test.YtolddolfpnkndaaGreatXubv
import Derived.Test.YtolddolfpnkndaaGreatXubu
import Derived.Test.YtolddolfpnkndaaGreatXubi
import Derived.Deep.MidRow
import Derived.Test.YtolddolfpnkndaaGreatXubr
namespace Go.Proofs.YtolddolfpnkndaaGreat
open Go.RowKit Go.Maps Go.Sort Go.ChangeShapes Go.WideShapes Go.ChangeAt Go.Shelf
namespace Sg
open Vt Dk
abbrev TRec : TypeId := 38
/-- a record's cells -/
def rvl (r : Rec) : List Value := [.int .u64 (r.lsn : Int), .int .i64 r.kind, .string r.key, .string r.val]
/-- the records of a list of bytes, of files -/
noncomputable def rcl (l : List Nat) : List Rec := (recs [1, 2] l).map fun x => x.2.2.r
noncomputable def rcT (T : List (ByteArray × List Nat)) : List Rec := (T.map fun f => rcl f.2).flatten
end Sg
end Go.Proofs.YtolddolfpnkndaaGreat
namespace Go.Proofs.YtolddolfpnkndaaGreat
open Go.RowKit
namespace Sg
open Vt Dk
theorem plf_ge : ∀ (fs : List Fr) (p : Nat) (x : Lc), x ∈ plf p fs → p ≤ x.1
  | [], _, x, h => by cases h
  | f :: q, p, x, h => by
    rcases List.mem_cons.1 h with rfl | h
    · exact Nat.le_refl _
    · have := plf_ge q (p + (en f).length) x h
      omega
/-- frames that end no later than t -/
theorem plf_upto (t : Nat) : ∀ (fs : List Fr) (p : Nat), ∃ q, q ≤ fs.length ∧ (plf p fs).filter (fun x => decide (x.1 + x.2.1 ≤ t)) = plf p (fs.take q) ∧ ∀ a, a ≤ fs.length → p + (ens (fs.take a)).length ≤ t → a ≤ q
  | [], p => ⟨0, Nat.le_refl _, rfl, fun a ha _ => by simpa using ha⟩
  | f :: fs, p => by
    by_cases hf : p + (en f).length ≤ t
    · obtain ⟨q, h1, h2, h3⟩ := plf_upto t fs (p + (en f).length)
      refine ⟨q + 1, by simp; omega, ?_, fun a ha hat => ?_⟩
      · show ((p, (en f).length, f) :: plf (p + (en f).length) fs).filter _ = (p, (en f).length, f) :: plf (p + (en f).length) (fs.take q)
        rw [List.filter_cons, if_pos (by simpa using hf), h2]
      · cases a with
        | zero => omega
        | succ a =>
          have := h3 a (by simpa using ha) (by
            rw [List.take_succ_cons, ens_cons, List.length_append] at hat
            omega)
          omega
    · refine ⟨0, Nat.zero_le _, ?_, fun a ha hat => ?_⟩
      · show ((p, (en f).length, f) :: plf (p + (en f).length) fs).filter _ = []
        rw [List.filter_eq_nil_iff]
        intro x hx
        rcases List.mem_cons.1 hx with rfl | hx
        · simpa using hf
        · have := plf_ge fs _ x hx
          simp only [decide_eq_true_eq]
          omega
      · cases a with
        | zero => exact Nat.le_refl _
        | succ a =>
          rw [List.take_succ_cons, ens_cons, List.length_append] at hat
          omega
section
variable {rs : Nat → Rec} {sy : Nat → Bool} {ex : Nat → Nat} {N : Nat}
/-- how many are synced behind k -/
def lst (sy : Nat → Bool) : Nat → Nat
  | 0 => 0
  | k + 1 => if sy k then k + 1 else lst sy k
theorem lst_le (sy : Nat → Bool) : ∀ k, lst sy k ≤ k
  | 0 => Nat.le_refl _
  | k + 1 => by unfold lst; have := lst_le sy k; split <;> omega
/-- what lasts grows within a segment -/
theorem Gk.las (hr : Rok rs N) {cp lim evy k : Nat} {X : Ws × Ds} (hcp : 600000 ≤ cp) (h : Gk cp lim evy k X) (hk : k < N) {o : List (List Nat)} {c : List Nat} {s : Nat} (hi : Iv X.1 X.2 o c s) (hol : o.length ≤ 200) (hsc : s ≤ c.length) :
    (∃ las, Iv (gstp rs sy ex k X).1 (gstp rs sy ex k X).2 o (c ++ gB rs k) las ∧ s ≤ las) ∨ ∃ las, Iv (gstp rs sy ex k X).1 (gstp rs sy ex k X).2 (o ++ [c]) ([] ++ gB rs k) las := by
  have hN := hr.le
  have hfl : (gB rs k).length ≤ 4409 := hr.len k hk
  have hroom : X.2.used + (gB rs k).length ≤ X.2.cap := by rw [h.cap]; have := h.used; omega
  have main : ∀ {old cur0 : List _} {las0 uns0 las' : Nat}, Pu X.1 (pt X.1 X.2 (gB rs k)).2.1 X.2 (pt X.1 X.2 (gB rs k)).2.2 old cur0 (gB rs k) las0 uns0 las' → las0 ≤ cur0.length → ∃ las, Iv (gstp rs sy ex k X).1 (gstp rs sy ex k X).2 old (cur0 ++ gB rs k) las ∧ las0 ≤ las := by
    intro old cur0 las0 uns0 las' hp hl
    obtain ⟨s1, s2, s3, s4⟩ := sy_iv hp.iv
    unfold gstp
    by_cases hs : sy k = true
    · have e0 : gst0 rs sy k X = (syR (pt X.1 X.2 (gB rs k)).2.1 (pt X.1 X.2 (gB rs k)).2.2).2 := by unfold gst0; rw [if_pos hs]
      rw [e0]
      exact ⟨_, Iv.bump (by rw [s2]; exact s3) _, by rw [List.length_append]; omega⟩
    · have e0 : gst0 rs sy k X = (pt X.1 X.2 (gB rs k)).2 := by unfold gst0; rw [if_neg hs]
      rw [e0]
      refine ⟨_, hp.iv.bump _, ?_⟩
      rcases hp.las with ⟨q, _⟩ | ⟨q, _⟩
      · omega
      · rw [q, List.length_append]; omega
  obtain ⟨_, las', ⟨_, _, _, p4⟩ | ⟨_, _, _, p4⟩⟩ := pt_iv hi (gB rs k) hroom (by omega)
  · exact .inl (main p4 hsc)
  · obtain ⟨las, q, _⟩ := main p4 (Nat.zero_le _)
    exact .inr ⟨las, q⟩
theorem Iv.las_le {W : Ws} {S : Ds} {o : List (List Nat)} {c : List Nat} {s : Nat} (h : Iv W S o c s) : s ≤ c.length := h.good.las ⟨nmS (o.length + 1), c, s⟩ (by rw [h.fs]; exact List.mem_append_right _ (List.mem_singleton.2 rfl))
/-- all records that were synced stand in what lasts -/
theorem gy_all (hr : Rok rs N) (he : ∀ i, ex i ≤ 1) {cp lim evy : Nat} (hcp : 600000 ≤ cp) {X : Ws × Ds} (h0 : Gk cp lim evy 0 X) : ∀ k, k ≤ N → k = 0 ∨ ∃ init a b las, (init ++ [a ++ b]).flatten = List.range k ∧ Iv (gsat rs sy ex X k).1 (gsat rs sy ex X k).2 (init.map (gdat rs)) (gdat rs (a ++ b)) las ∧ (gdat rs a).length ≤ las ∧ lst sy k ≤ (init.flatten ++ a).length
  | 0, _ => .inl rfl
  | k + 1, hk => by
    right
    have hN := hr.le
    have hgk := gsat_ok (sy := sy) (ex := ex) hr he hcp h0 k (by omega)
    obtain ⟨_, _, hgk1, _, _, _, old, cur0, las, h4, _, h5, h6⟩ := hgk.step (sy := sy) (ex := ex) hr he hcp (by omega)
    have hsn : gsat rs sy ex X (k + 1) = gstp rs sy ex k (gsat rs sy ex X k) := rfl
    -- a sync makes all of it last
    have all : ∀ {init : List (List Nat)} {last : List Nat}, (init ++ [last ++ [k]]).flatten = List.range (k + 1) → old = init.map (gdat rs) → cur0 ++ gB rs k = gdat rs (last ++ [k]) → sy k = true → ∃ init a b las, (init ++ [a ++ b]).flatten = List.range (k + 1) ∧ Iv (gsat rs sy ex X (k + 1)).1 (gsat rs sy ex X (k + 1)).2 (init.map (gdat rs)) (gdat rs (a ++ b)) las ∧ (gdat rs a).length ≤ las ∧ lst sy (k + 1) ≤ (init.flatten ++ a).length := by
      intro init last e1 e2 e3 hs
      refine ⟨init, last ++ [k], [], las, by rw [List.append_nil]; exact e1, by rw [List.append_nil, hsn, ← e2, ← e3]; exact h4, by rw [h5 hs, e3]; exact Nat.le_refl _, ?_⟩
      have := congrArg List.length e1
      rw [List.length_range, List.flatten_append] at this
      have h9 := lst_le sy (k + 1)
      simp at this ⊢
      omega
    rcases gy_all hr he hcp h0 k (by omega) with rfl | ⟨init, a, b, las0, g1, g2, g3, g4⟩
    · rcases h6 with ⟨_, rfl, rfl⟩ | ⟨o, c, s, hi, _⟩
      · by_cases hs : sy 0 = true
        · exact all (init := []) (last := []) rfl rfl (by rw [List.nil_append, List.nil_append, gdat_one]) hs
        · refine ⟨[], [], [0], las, rfl, by rw [hsn, List.nil_append, gdat_one]; exact h4, Nat.zero_le _, ?_⟩
          unfold lst; rw [if_neg hs]; exact Nat.zero_le _
      · rcases hgk.at_ with ⟨_, q⟩ | ⟨q, _⟩
        · have := q.num; rw [hi.num] at this; omega
        · omega
    · rcases h6 with ⟨rfl, _, _⟩ | ⟨o, c, s, hi2, ⟨_, rfl, rfl⟩ | ⟨_, rfl, rfl⟩⟩
      · rcases hgk.at_ with ⟨_, q⟩ | ⟨q, _⟩
        · have := q.num; rw [g2.num] at this; omega
        · omega
      · obtain ⟨rfl, rfl⟩ := g2.uniq hi2
        have e1 : (init ++ [(a ++ b) ++ [k]]).flatten = List.range (k + 1) := by
          rw [List.flatten_append] at g1 ⊢
          simp only [List.flatten_cons, List.flatten_nil, List.append_nil] at g1 ⊢
          rw [← List.append_assoc, g1, List.range_succ]
        by_cases hs : sy k = true
        · exact all e1 rfl (by rw [gdat_app rs (a ++ b), gdat_one]) hs
        · have hil : init.length ≤ 200 := by
            rcases hgk.at_ with ⟨q, _⟩ | ⟨_, o2, c2, s2, q, q2, _, _⟩
            · subst q
              have h7 := congrArg List.length g1
              rw [List.flatten_append] at h7
              have := g2.good.cnt
              have h8 := hgk.acts
              rw [g2.fs] at this
              simp [files_len] at this
              omega
            · obtain ⟨e, _⟩ := g2.uniq q
              have := congrArg List.length e
              rw [List.length_map] at this
              omega
          rcases hgk.las (sy := sy) (ex := ex) hr hcp (by omega) g2 (by rw [List.length_map]; exact hil) g2.las_le with ⟨las2, q1, q2⟩ | ⟨las2, q1⟩
          · refine ⟨init, a, b ++ [k], las2, by rw [← List.append_assoc]; exact e1, by rw [hsn, ← List.append_assoc, gdat_app rs (a ++ b), gdat_one]; exact q1, by omega, ?_⟩
            unfold lst; rw [if_neg hs]; exact g4
          · exfalso
            obtain ⟨e, _⟩ := q1.uniq h4
            have := congrArg List.length e
            simp at this
      · obtain ⟨rfl, rfl⟩ := g2.uniq hi2
        have e1 : ((init ++ [a ++ b]) ++ [[] ++ [k]]).flatten = List.range (k + 1) := by
          rw [List.flatten_append, g1, List.range_succ]; rfl
        by_cases hs : sy k = true
        · exact all (init := init ++ [a ++ b]) (last := []) e1 (by rw [List.map_append]; rfl) (by rw [List.nil_append, List.nil_append, gdat_one]) hs
        · refine ⟨init ++ [a ++ b], [], [k], las, e1, by rw [hsn, List.map_append, List.nil_append, gdat_one]; exact h4, Nat.zero_le _, ?_⟩
          unfold lst; rw [if_neg hs]
          have h9 := lst_le sy k
          rw [g1, List.append_nil, List.length_range]; exact h9
theorem files_crashed (keep : Int) : ∀ (L : List (List Nat)) (k : Nat), (files k L).map (crashed keep) = files k L
  | [], _ => rfl
  | x :: r, k => by
    have ih := files_crashed keep r (k + 1)
    have h1 : crashed keep ⟨nmS k, x, x.length⟩ = (⟨nmS k, x, x.length⟩ : Fi) := by
      unfold crashed Dk.left
      simp only [Nat.sub_self, Nat.min_zero, Nat.add_zero, List.take_length]
    show crashed keep ⟨nmS k, x, x.length⟩ :: (files (k + 1) r).map (crashed keep) = _
    rw [ih, h1]; rfl
end
end Sg
end Go.Proofs.YtolddolfpnkndaaGreat
