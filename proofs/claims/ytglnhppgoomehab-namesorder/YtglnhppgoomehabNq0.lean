/-
  WHAT Sorted TELLS, plainly: names by their classes, each class by its bytes, each once; that this is the one list of its kind. No program here.
-/
import Derived.Test.YtglnhppgoomehabNm0
import Derived.Sort.KeysCollected
import Derived.Lib.SlicesCompact
namespace Go.Proofs.Ytglnhppgoomehab
namespace Nam
open Vt
abbrev U8s := List UInt8
/-- one stands ahead of the other, byte by byte -/
def SL (a b : U8s) : Prop := a ≤ b ∧ a ≠ b
theorem SL.asym {a b : U8s} (h : SL a b) (g : SL b a) : False := h.2 (List.le_antisymm h.1 g.1)
def key (s : ByteArray) : U8s := s.data.toList
def mkS (x : U8s) : ByteArray := ⟨x.toArray⟩
theorem mkS_key (s : ByteArray) : mkS (key s) = s := rfl
theorem key_mkS (x : U8s) : key (mkS x) = x := by simp [key, mkS]
theorem leB_tr : ∀ a b c : U8s, leB a b = true → leB b c = true → leB a c = true := fun a b c h1 h2 => by simp only [leB, decide_eq_true_eq] at *; exact List.le_trans h1 h2
theorem leB_to : ∀ a b : U8s, (leB a b || leB b a) = true := fun a b => by simp only [leB, Bool.or_eq_true, decide_eq_true_eq]; exact List.le_total a b
section
variable {zs : List U8s}
theorem get_mem {d : Array U8s} {j : Nat} (h : j < d.size) : d[j]! ∈ d.toList := by
  rw [getElem!_pos d j h]; exact Array.getElem_mem_toList h
theorem compact_mem (zs : List U8s) (x : U8s) : x ∈ Lib.compact zs ↔ x ∈ zs := by
  unfold Lib.compact Lib.compactUpTo
  rw [List.mem_map]
  constructor
  · rintro ⟨j, hj, rfl⟩
    have := List.mem_range.1 (List.mem_filter.1 hj).1
    exact get_mem (d := zs.toArray) (by simpa using this)
  · intro hx
    have key : ∀ j, j < zs.length → zs.toArray[j]! = x → ∃ i, i < zs.length ∧ zs.toArray[i]! = x ∧ Lib.keeps zs.toArray i = true := by
      intro j
      induction j with
      | zero => exact fun h e => ⟨0, h, e, by simp [Lib.keeps]⟩
      | succ j ih =>
        intro h e
        by_cases h2 : zs.toArray[j]! = x
        · exact ih (by omega) h2
        · exact ⟨j + 1, h, e, by simp only [Lib.keeps, Nat.add_sub_cancel]; exact decide_eq_true (.inr (by rw [e]; exact fun q => h2 q.symm))⟩
    obtain ⟨j, hj, e⟩ := List.getElem_of_mem hx
    obtain ⟨i, hi, e1, e2⟩ := key j hj (by rw [getElem!_pos _ j (by simpa using hj)]; simpa using e)
    exact ⟨i, List.mem_filter.2 ⟨List.mem_range.2 hi, e2⟩, e1⟩
theorem compact_pw (zs : List U8s) (h : zs.Pairwise fun a b => leB a b = true) : (Lib.compact zs).Pairwise SL := by
  have hle : ∀ i j, i ≤ j → j < zs.length → zs.toArray[i]! ≤ zs.toArray[j]! := by
    intro i j hij hj
    rcases Nat.lt_or_ge i j with h1 | h1
    · have := (List.pairwise_iff_getElem.1 h) i j (by omega) hj h1
      rw [getElem!_pos _ i (by simp; omega), getElem!_pos _ j (by simpa using hj)]
      simpa [leB] using this
    · obtain rfl : i = j := by omega
      exact List.le_refl _
  unfold Lib.compact Lib.compactUpTo
  rw [List.pairwise_map]
  refine List.Pairwise.imp_of_mem (R := fun a b => a < b) ?_ (List.pairwise_lt_range.filter _)
  intro i j hi hj hij
  have hj1 := List.mem_range.1 (List.mem_filter.1 hj).1
  have hj2 := (List.mem_filter.1 hj).2
  refine ⟨hle i j (by omega) hj1, fun e => ?_⟩
  simp only [Lib.keeps, decide_eq_true_eq] at hj2
  rcases hj2 with h0 | h0
  · omega
  · refine h0 (List.le_antisymm ?_ (hle (j - 1) j (by omega) hj1))
    rw [← e]
    exact hle i (j - 1) (by omega) (by omega)
end
/-- a name's class -/
def cls (s : ByteArray) : Nat := (prs (bl s)).1
/-- the names of a class, in order, each once -/
def grp (c : Nat) (ss : List ByteArray) : List ByteArray := (Lib.compact (((ss.filter fun s => cls s = c).map key).mergeSort leB)).map mkS
theorem grp_mem (c : Nat) (ss : List ByteArray) (s : ByteArray) : s ∈ grp c ss ↔ s ∈ ss ∧ cls s = c := by
  unfold grp
  rw [List.mem_map]
  constructor
  · rintro ⟨x, hx, rfl⟩
    rw [compact_mem, List.mem_mergeSort, List.mem_map] at hx
    obtain ⟨s, hs, rfl⟩ := hx
    have := List.mem_filter.1 hs
    exact ⟨this.1, by rw [mkS_key]; simpa using this.2⟩
  · rintro ⟨h1, h2⟩
    refine ⟨key s, ?_, rfl⟩
    rw [compact_mem, List.mem_mergeSort, List.mem_map]
    exact ⟨s, List.mem_filter.2 ⟨h1, by simpa using h2⟩, rfl⟩
/-- where a class stands -/
def rk (c : Nat) : Nat := if c = 0 then 9 else c
/-- one name stands ahead of the other -/
def lt (a b : ByteArray) : Prop := rk (cls a) < rk (cls b) ∨ (cls a = cls b ∧ SL (key a) (key b))
theorem lt_asym {a b : ByteArray} (h : lt a b) (g : lt b a) : False := by
  rcases h with h | ⟨h, h'⟩
  · rcases g with g | ⟨g, _⟩
    · omega
    · rw [g] at h; omega
  · rcases g with g | ⟨_, g'⟩
    · rw [h] at g; omega
    · exact h'.asym g'
theorem lt_irr (a : ByteArray) (h : lt a a) : False := lt_asym h h
theorem grp_pw (c : Nat) (ss : List ByteArray) : (grp c ss).Pairwise lt := by
  have h := compact_pw _ (List.pairwise_mergeSort leB_tr leB_to ((ss.filter fun s => cls s = c).map key))
  have hc : ∀ s ∈ grp c ss, cls s = c := fun s hs => ((grp_mem c ss s).1 hs).2
  unfold grp at *
  rw [List.pairwise_map]
  refine List.Pairwise.imp_of_mem ?_ h
  intro a b ha hb hab
  refine .inr ⟨by rw [hc _ (List.mem_map.2 ⟨a, ha, rfl⟩), hc _ (List.mem_map.2 ⟨b, hb, rfl⟩)], ?_⟩
  rw [key_mkS, key_mkS]; exact hab
/-- names in their order, each once -/
def srt (ss : List ByteArray) : List ByteArray := grp 1 ss ++ (grp 2 ss ++ (grp 3 ss ++ (grp 4 ss ++ grp 0 ss)))
theorem srt_mem (ss : List ByteArray) (s : ByteArray) : s ∈ srt ss ↔ s ∈ ss := by
  unfold srt
  simp only [List.mem_append, grp_mem]
  have hc : cls s = 0 ∨ cls s = 1 ∨ cls s = 2 ∨ cls s = 3 ∨ cls s = 4 := by have := prs_le (bl s); unfold cls; omega
  constructor
  · rintro (h | h | h | h | h) <;> exact h.1
  · intro h
    rcases hc with e | e | e | e | e
    · exact .inr (.inr (.inr (.inr ⟨h, e⟩)))
    · exact .inl ⟨h, e⟩
    · exact .inr (.inl ⟨h, e⟩)
    · exact .inr (.inr (.inl ⟨h, e⟩))
    · exact .inr (.inr (.inr (.inl ⟨h, e⟩)))
theorem pw_app {c : Nat} {ss l : List ByteArray} (h : l.Pairwise lt) (hl : ∀ b ∈ l, rk c < rk (cls b)) : (grp c ss ++ l).Pairwise lt := by
  rw [List.pairwise_append]
  refine ⟨grp_pw c ss, h, fun a ha b hb => .inl ?_⟩
  rw [((grp_mem c ss a).1 ha).2]
  exact hl b hb
theorem srt_pw (ss : List ByteArray) : (srt ss).Pairwise lt := by
  have hg : ∀ c b, b ∈ grp c ss → cls b = c := fun c b hb => ((grp_mem c ss b).1 hb).2
  unfold srt
  refine pw_app (pw_app (pw_app (pw_app (grp_pw 0 ss) ?_) ?_) ?_) ?_
  all_goals
    intro b hb
    try simp only [List.mem_append] at hb
  · rw [hg 0 b hb]; decide
  · rcases hb with hb | hb <;> rw [hg _ b hb] <;> decide
  · rcases hb with hb | hb | hb <;> rw [hg _ b hb] <;> decide
  · rcases hb with hb | hb | hb | hb <;> rw [hg _ b hb] <;> decide
theorem uniq : ∀ (l1 l2 : List ByteArray), l1.Pairwise lt → l2.Pairwise lt → (∀ x, x ∈ l1 ↔ x ∈ l2) → l1 = l2
  | [], l2, _, _, h => by
    cases l2 with
    | nil => rfl
    | cons b r => exact absurd ((h b).2 List.mem_cons_self) (by simp)
  | a :: r, [], _, _, h => absurd ((h a).1 List.mem_cons_self) (by simp)
  | a :: r, b :: r2, h1, h2, h => by
    have p1 := List.pairwise_cons.1 h1
    have p2 := List.pairwise_cons.1 h2
    have e : a = b := by
      rcases List.mem_cons.1 ((h a).1 List.mem_cons_self) with e | e
      · exact e
      · rcases List.mem_cons.1 ((h b).2 List.mem_cons_self) with e2 | e2
        · exact e2.symm
        · exact (lt_asym (p1.1 b e2) (p2.1 a e)).elim
    subst e
    rw [uniq r r2 p1.2 p2.2 fun x => ?_]
    constructor
    · intro hx
      rcases List.mem_cons.1 ((h x).1 (List.mem_cons_of_mem _ hx)) with e | e
      · subst e; exact (lt_irr _ (p1.1 x hx)).elim
      · exact e
    · intro hx
      rcases List.mem_cons.1 ((h x).2 (List.mem_cons_of_mem _ hx)) with e | e
      · subst e; exact (lt_irr _ (p2.1 x hx)).elim
      · exact e
theorem srt_of {l ss : List ByteArray} (h : l.Pairwise lt) (hm : ∀ x, x ∈ l ↔ x ∈ ss) : srt ss = l := uniq _ _ (srt_pw ss) h fun x => by rw [srt_mem, hm]
theorem srt_srt (ss : List ByteArray) : srt (srt ss) = srt ss := srt_of (srt_pw ss) fun _ => Iff.rfl
theorem srt_same {a b : List ByteArray} (h : ∀ x, x ∈ a ↔ x ∈ b) : srt a = srt b := srt_of (srt_pw b) fun x => by rw [srt_mem, h]
/-- each once -/
theorem srt_count (ss : List ByteArray) (s : ByteArray) (h : s ∈ ss) : (srt ss).countP (fun x => decide (x = s)) = 1 := by
  have hm := (srt_mem ss s).2 h
  have hp := srt_pw ss
  generalize srt ss = l at *
  induction l with
  | nil => simp at hm
  | cons a r ih =>
    have p := List.pairwise_cons.1 hp
    rw [List.countP_cons]
    by_cases e : a = s
    · subst e
      have : r.countP (fun x => decide (x = a)) = 0 := by
        rw [List.countP_eq_zero]
        intro x hx
        simp only [decide_eq_true_eq]
        intro e; subst e; exact lt_irr _ (p.1 x hx)
      rw [this]; simp
    · rcases List.mem_cons.1 hm with h1 | h1
      · exact absurd h1.symm e
      · rw [ih h1 p.2]; simp [e]
theorem compact_le (zs : List U8s) : (Lib.compact zs).length ≤ zs.length := by
  unfold Lib.compact Lib.compactUpTo
  rw [List.length_map]
  have := List.length_filter_le (Lib.keeps zs.toArray) (List.range zs.length)
  simpa using this
theorem grp_le (c : Nat) (ss : List ByteArray) : (grp c ss).length ≤ (ss.filter fun s => cls s = c).length := by
  unfold grp
  rw [List.length_map]
  refine Nat.le_trans (compact_le _) ?_
  rw [List.length_mergeSort, List.length_map]
  exact Nat.le_refl _
theorem filters_le (ss : List ByteArray) : (ss.filter fun s => cls s = 1).length + ((ss.filter fun s => cls s = 2).length + ((ss.filter fun s => cls s = 3).length + ((ss.filter fun s => cls s = 4).length + (ss.filter fun s => cls s = 0).length))) ≤ ss.length := by
  induction ss with
  | nil => simp
  | cons s r ih =>
    simp only [List.filter_cons, decide_eq_true_eq]
    have hc : cls s = 0 ∨ cls s = 1 ∨ cls s = 2 ∨ cls s = 3 ∨ cls s = 4 := by have := prs_le (bl s); unfold cls; omega
    rcases hc with e | e | e | e | e <;> simp [e] <;> omega
theorem srt_le (ss : List ByteArray) : (srt ss).length ≤ ss.length := by
  have h := filters_le ss
  have h0 := grp_le 0 ss
  have h1 := grp_le 1 ss
  have h2 := grp_le 2 ss
  have h3 := grp_le 3 ss
  have h4 := grp_le 4 ss
  unfold srt
  simp only [List.length_append]
  omega
end Nam
end Go.Proofs.Ytglnhppgoomehab
