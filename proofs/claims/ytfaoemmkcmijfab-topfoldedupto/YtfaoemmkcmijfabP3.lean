/-
  RECORDS IN ORDER, PLAINLY; a record as an argument; two records held against one another.
-/
import Derived.Test.YtfaoemmkcmijfabP2
namespace Go.Proofs.Ytfaoemmkcmijfab
open Go.ChangeShapes Go.WideShapes Go.ChangeAt Go.RowKit
namespace Vt
theorem cb_neg (a b : List Nat) : cb b a = -cb a b := by
  induction a generalizing b with
  | nil => cases b <;> rfl
  | cons x a ih =>
    cases b with
    | nil => rfl
    | cons y b =>
      unfold cb
      have := ih b
      by_cases h : x < y
      · rw [if_pos h, if_neg (by omega), if_pos h]; rfl
      · by_cases h2 : y < x
        · rw [if_pos h2, if_neg h, if_pos h2]
        · rw [if_neg h2, if_neg h, if_neg h, if_neg h2]; exact this
theorem cb_range (a b : List Nat) : cb a b = -1 ∨ cb a b = 0 ∨ cb a b = 1 := by
  induction a generalizing b with
  | nil => cases b with
    | nil => exact .inr (.inl rfl)
    | cons y b => exact .inl rfl
  | cons x a ih =>
    cases b with
    | nil => exact .inr (.inr rfl)
    | cons y b =>
      unfold cb
      by_cases h : x < y
      · rw [if_pos h]; exact .inl rfl
      · rw [if_neg h]
        by_cases h2 : y < x
        · rw [if_pos h2]; exact .inr (.inr rfl)
        · rw [if_neg h2]; exact ih b
theorem cb_zero {a b : List Nat} (h : cb a b = 0) : a = b := by
  induction a generalizing b with
  | nil => cases b with
    | nil => rfl
    | cons y b => simp [cb] at h
  | cons x a ih =>
    cases b with
    | nil => simp [cb] at h
    | cons y b =>
      unfold cb at h
      by_cases h1 : x < y
      · rw [if_pos h1] at h; omega
      · rw [if_neg h1] at h
        by_cases h2 : y < x
        · rw [if_pos h2] at h; omega
        · rw [if_neg h2] at h
          rw [ih h, show x = y by omega]
theorem cb_trans {a b c : List Nat} (h1 : cb a b ≤ 0) (h2 : cb b c ≤ 0) : cb a c ≤ 0 ∧ (cb a b < 0 ∨ cb b c < 0 → cb a c < 0) := by
  induction a generalizing b c with
  | nil =>
    cases c with
    | nil =>
      cases b with
      | nil => exact ⟨by simp [cb], by simp [cb]⟩
      | cons y b => simp [cb] at h2
    | cons z c => exact ⟨by simp [cb], by simp [cb]⟩
  | cons x a ih =>
    cases b with
    | nil => simp [cb] at h1
    | cons y b =>
      cases c with
      | nil => simp [cb] at h2
      | cons z c =>
        unfold cb at h1 h2 ⊢
        by_cases p1 : x < y
        · by_cases p2 : y < z
          · rw [if_pos (by omega : x < z)]; simp
          · by_cases p3 : z < y
            · rw [if_neg p2, if_pos p3] at h2; omega
            · rw [if_pos (by omega : x < z)]; simp
        · by_cases p1' : y < x
          · rw [if_neg p1, if_pos p1'] at h1; omega
          · rw [if_neg p1, if_neg p1'] at h1 ⊢
            by_cases p2 : y < z
            · rw [if_pos (by omega : x < z)]; simp
            · by_cases p3 : z < y
              · rw [if_neg p2, if_pos p3] at h2; omega
              · rw [if_neg p2, if_neg p3] at h2 ⊢
                rw [if_neg (by omega), if_neg (by omega)]
                exact ih h1 h2
theorem orv_c (x y : Nat) (z : Int) : (x < y ∧ orv (c64 x y) z = -1) ∨ (y < x ∧ orv (c64 x y) z = 1) ∨ (x = y ∧ orv (c64 x y) z = z) := by
  unfold orv c64
  by_cases h : x < y
  · left; rw [if_pos h]; exact ⟨h, by simp⟩
  · by_cases h2 : y < x
    · right; left; rw [if_neg h, if_pos h2]; exact ⟨h2, by simp⟩
    · right; right; rw [if_neg h, if_neg h2]; exact ⟨by omega, by simp⟩
/-- the four ways -/
theorem cp_ways (a b : Rec) : (rf (ofR a) ≠ 0 ∧ rf (ofR b) ≠ 0 ∧ cp a b = 0) ∨ (rf (ofR a) ≠ 0 ∧ rf (ofR b) = 0 ∧ cp a b = -1) ∨ (rf (ofR a) = 0 ∧ rf (ofR b) ≠ 0 ∧ cp a b = 1) ∨ (rf (ofR a) = 0 ∧ rf (ofR b) = 0 ∧ ((a.lsn < b.lsn ∧ cp a b = -1) ∨ (b.lsn < a.lsn ∧ cp a b = 1) ∨ (a.lsn = b.lsn ∧ cp a b = cb (bd (ofR a)) (bd (ofR b))))) := by
  unfold cp
  by_cases h1 : rf (ofR a) = 0
  · by_cases h2 : rf (ofR b) = 0
    · refine .inr (.inr (.inr ⟨h1, h2, ?_⟩))
      rw [if_neg (fun q => q h1), if_neg (fun q => q h2)]
      exact orv_c _ _ _
    · refine .inr (.inr (.inl ⟨h1, h2, ?_⟩))
      rw [if_neg (fun q => q h1), if_pos h2]
  · by_cases h2 : rf (ofR b) = 0
    · refine .inr (.inl ⟨h1, h2, ?_⟩)
      rw [if_pos h1, if_neg (fun q => q h2)]
    · refine .inl ⟨h1, h2, ?_⟩
      rw [if_pos h1, if_pos h2]
theorem cp_neg (a b : Rec) : cp b a = -cp a b := by
  have hc := cb_neg (bd (ofR a)) (bd (ofR b))
  have h1 := cp_ways a b
  have h2 := cp_ways b a
  generalize rf (ofR a) = ea at *
  generalize rf (ofR b) = eb at *
  omega
theorem cp_range (a b : Rec) : -1 ≤ cp a b ∧ cp a b ≤ 1 := by
  have hc := cb_range (bd (ofR a)) (bd (ofR b))
  have h1 := cp_ways a b
  omega
theorem cp_trans (a b c : Rec) (h1 : cp a b ≤ 0) (h2 : cp b c ≤ 0) : cp a c ≤ 0 ∧ (cp a b < 0 ∨ cp b c < 0 → cp a c < 0) := by
  have t := fun (p : cb (bd (ofR a)) (bd (ofR b)) ≤ 0) q => cb_trans (c := bd (ofR c)) p q
  have w1 := cp_ways a b
  have w2 := cp_ways b c
  have w3 := cp_ways a c
  generalize rf (ofR a) = ea at *
  generalize rf (ofR b) = eb at *
  generalize rf (ofR c) = ec at *
  generalize cb (bd (ofR a)) (bd (ofR b)) = q1 at *
  generalize cb (bd (ofR b)) (bd (ofR c)) = q2 at *
  generalize cb (bd (ofR a)) (bd (ofR c)) = q3 at *
  by_cases p1 : q1 ≤ 0
  · by_cases p2 : q2 ≤ 0
    · have := t p1 p2
      omega
    · omega
  · omega
theorem cp_same {a b : Rec} (ha : a.lsn < 18446744073709551616) (hb : b.lsn < 18446744073709551616) (h : cp a b = 0) (hr : rf (ofR a) = 0 ∨ rf (ofR b) = 0) : a = b := by
  rcases cp_ways a b with ⟨h1, h2, _⟩ | ⟨_, _, h3⟩ | ⟨_, _, h3⟩ | ⟨h1, h2, h3⟩
  · rcases hr with h | h
    · exact absurd h h1
    · exact absurd h h2
  · omega
  · omega
  · have hz : cb (bd (ofR a)) (bd (ofR b)) = 0 := by omega
    have he := cb_zero hz
    have p1 := prs_bd (ofR_wf ha) h1
    have p2 := prs_bd (ofR_wf hb) h2
    rw [he, p2] at p1
    have e : ofR b = ofR a := congrArg Prod.fst p1
    have := congrArg Fr.r e
    exact this.symm
theorem eq_rec (f : Rec) (w : World) : (Op.equalIn 10000 28 (.agg (rv f)) (.agg (rv f))).run Try.prog w = .ok true w := by
  unfold rv
  simp [go_sem, Op.eqFields]
theorem ne_rec {f g : Rec} (h : f ≠ g) (w : World) : (Op.equalIn 10000 28 (.agg (rv f)) (.agg (rv g))).run Try.prog w = .ok false w := by
  have inj : ∀ {a b : ByteArray}, a.toList = b.toList → a = b := by
    intro a b e
    rw [ByteArray.toList_eq, ByteArray.toList_eq] at e
    exact Go.WideShapes.bytes_inj e
  unfold rv
  simp [go_sem, Op.eqFields]
  intro h1 h2 h3 h4
  refine h ?_
  obtain ⟨a1, a2, a3, a4⟩ := f
  obtain ⟨b1, b2, b3, b4⟩ := g
  simp only at h1 h2 h3 h4
  rw [show a1 = b1 by omega, h2, inj h3, inj h4]
theorem rec_neq (f g : Rec) : ∃ b : Bool, (∀ w, (binOp .neq 28 (.agg (rv f)) (.agg (rv g))).run Try.prog w = .ok (.bool b) w) ∧ (b = false ↔ f = g) := by
  by_cases h : f = g
  · exact ⟨false, fun w => by rw [run_neq_struct, h, eq_rec]; rfl, by simp [h]⟩
  · exact ⟨true, fun w => by rw [run_neq_struct, ne_rec h]; rfl, by simp [h]⟩
theorem encOf_is (r : Rec) (hl : r.lsn < 18446744073709551616) (w : World) : Calls Try.prog 15 #[.agg (fv (ofR r))] w fun e w' => ∃ u, e = .returned (.tuple #[u, .int .i64 (rf (ofR r) : Int)]) ∧ Below w.heap.size w w' := by
  by_cases h : rf (ofR r) = 0
  · refine (encF_all (ofR_wf hl) h w).mono ?_
    rintro e w' ⟨u, rfl, _, hb⟩
    exact ⟨u, by rw [h]; rfl, hb⟩
  · refine (encF_no (ofR r) w h).mono ?_
    rintro e w' ⟨rfl, hb⟩
    exact ⟨_, rfl, hb⟩
theorem cells_rec : Try.prog.cellTypes Try.prog.depth 28 = some [25, 26, 9, 9] := by kernel_rfl
theorem size_rec : Try.prog.cellsOf 28 = 4 := by kernel_rfl
theorem list4 {α : Type} {l : List α} (h : l.length = 4) : ∃ a b c d, l = [a, b, c, d] := by
  match l, h with
  | [a, b, c, d], _ => exact ⟨a, b, c, d, rfl⟩
set_option maxRecDepth 100000 in
/-- a record that comes in -/
theorem record_arg {w : World} {r : Reach} {base : Nat} {v : Value} (h : Value.okWide Try.prog w r base 28 v) : ∃ f : Rec, v = .agg (rv f) ∧ f.lsn < 18446744073709551616 := by
  obtain ⟨cs, rfl, hsz, ts, hts, _, hcell⟩ := okW_struct Try.underlying28 h
  rw [size_rec] at hsz
  rw [cells_rec] at hts
  injection hts with hts
  subst hts
  obtain ⟨l⟩ := cs
  obtain ⟨v0, v1, v2, v3, rfl⟩ := list4 (l := l) (by simpa using hsz)
  have key : ∀ i v u, (#[v0, v1, v2, v3] : Array Value)[i]? = some v → [25, 26, 9, 9][i % 4]? = some u → Cell.okWide Try.prog w r base u v := by
    intro i v u hv hu
    obtain ⟨u', hu', hc⟩ := hcell i v hv
    have e : some u' = some u := hu'.symm.trans hu
    injection e with e
    subst e
    exact hc
  obtain ⟨n1, rfl, b1⟩ := cell_int Try.underlying25 (key 0 _ _ rfl rfl)
  obtain ⟨n2, rfl, _⟩ := cell_int Try.underlying26 (key 1 _ _ rfl rfl)
  obtain ⟨s3, rfl⟩ := cell_string Try.underlying9 (key 2 _ _ rfl rfl)
  obtain ⟨s4, rfl⟩ := cell_string Try.underlying9 (key 3 _ _ rfl rfl)
  have u1 : 0 ≤ n1 ∧ n1 < 18446744073709551616 := has_u64 b1
  obtain ⟨m1, rfl⟩ : ∃ m : Nat, n1 = (m : Int) := ⟨n1.toNat, by omega⟩
  exact ⟨⟨m1, n2, s3, s4⟩, rfl, by show m1 < _; omega⟩
end Vt
end Go.Proofs.Ytfaoemmkcmijfab
