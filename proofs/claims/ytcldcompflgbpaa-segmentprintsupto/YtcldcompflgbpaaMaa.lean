/-
  THE PLAIN MATHEMATICS OF VARINTS AND DIGITS, proved of natural numbers and lists of them, without any condition beyond those that each row bears: there and back, one way only to write a number, what is cut off, how long a varint is, digits in order.
  PLAIN MATHEMATICS OF ESCAPED BYTES: 'wr' (the escaped bytes of plain ones), 'fs' (the plain byte at the front), 'told' (what is told, with places), 'bad' (the first that cannot stand). No program.
-/
import Derived.Lib.BitFns
namespace Go.Proofs.Ytcldcompflgbpaa
namespace Vt
def Byt (l : List Nat) : Prop := ∀ x ∈ l, x < 256
theorem byt_nil : Byt [] := by intro x hx; simp at hx
theorem byt_app {a b : List Nat} (ha : Byt a) (hb : Byt b) : Byt (a ++ b) := by
  intro x hx
  rcases List.mem_append.1 hx with hx | hx
  · exact ha x hx
  · exact hb x hx
theorem byt_take {l : List Nat} (h : Byt l) (k : Nat) : Byt (l.take k) := fun x hx => h x (List.mem_of_mem_take hx)
theorem byt_drop {l : List Nat} (h : Byt l) (k : Nat) : Byt (l.drop k) := fun x hx => h x (List.mem_of_mem_drop hx)
theorem getD_lt {l : List Nat} (h : Byt l) (k : Nat) : l.getD k 0 < 256 := by
  rw [List.getD_eq_getElem?_getD]
  cases e : l[k]? with
  | none => simp
  | some x => exact h x (List.mem_of_getElem? e)
theorem take_succ_getD {l : List Nat} {k : Nat} (h : k < l.length) : l.take (k + 1) = l.take k ++ [l.getD k 0] := by
  rw [List.take_succ_eq_append_getElem h, List.getD_eq_getElem?_getD, List.getElem?_eq_getElem h]; rfl

/-- the varint of a number -/
def vrt (n : Nat) : List Nat := if n < 128 then [n] else (n % 128 + 128) :: vrt (n / 128)
  termination_by n
  decreasing_by omega
theorem vrt_small {n : Nat} (h : n < 128) : vrt n = [n] := by unfold vrt; rw [if_pos h]
theorem vrt_big {n : Nat} (h : 128 ≤ n) : vrt n = (n % 128 + 128) :: vrt (n / 128) := by rw [vrt, if_neg (by omega)]
theorem vrt_len (n : Nat) : 1 ≤ (vrt n).length := by
  by_cases h : n < 128
  · rw [vrt_small h]; simp
  · rw [vrt_big (by omega)]; simp
theorem vrt_byt (n : Nat) : Byt (vrt n) := by
  induction n using Nat.strongRecOn with
  | _ n ih =>
    by_cases h : n < 128
    · rw [vrt_small h]; intro x hx; simp at hx; omega
    · rw [vrt_big (by omega)]
      intro x hx
      rcases List.mem_cons.1 hx with hx | hx
      · omega
      · exact ih (n / 128) (by omega) x hx
def num : List Nat → Nat
  | [] => 0
  | c :: r => c % 128 + 128 * num r
theorem num_vrt (n : Nat) : num (vrt n) = n := by
  induction n using Nat.strongRecOn with
  | _ n ih =>
    by_cases h : n < 128
    · rw [vrt_small h]; simp [num]; omega
    · rw [vrt_big (by omega), num, ih (n / 128) (by omega)]; omega
theorem pw (k : Nat) : 128 ^ (k + 1) = 128 * 128 ^ k := by rw [Nat.pow_succ, Nat.mul_comm]
theorem pw_pos (k : Nat) : 0 < 128 ^ k := Nat.pow_pos (by omega)
theorem num_append (a b : List Nat) : num (a ++ b) = num a + 128 ^ a.length * num b := by
  induction a with
  | nil => simp [num]
  | cons c r ih => simp only [List.cons_append, num, List.length_cons, ih, pw, Nat.mul_add, Nat.mul_assoc]; omega
theorem num_lt (a : List Nat) : num a < 128 ^ a.length := by
  induction a with
  | nil => simp [num]
  | cons c r ih => simp only [num, List.length_cons, pw]; omega
/-- where the first byte below 128 stands (the length, if there is none) -/
def idx : List Nat → Nat
  | [] => 0
  | c :: r => if c < 128 then 0 else idx r + 1
theorem idx_le (l : List Nat) : idx l ≤ l.length := by
  induction l with
  | nil => simp [idx]
  | cons c r ih => simp only [idx, List.length_cons]; split <;> omega
theorem idx_lt {l : List Nat} {j : Nat} (h : j < idx l) : 128 ≤ l.getD j 0 := by
  induction l generalizing j with
  | nil => simp [idx] at h
  | cons c r ih =>
    simp only [idx] at h
    split at h
    · omega
    · cases j with
      | zero => simp; omega
      | succ j => rw [List.getD_cons_succ]; exact ih (by omega)
theorem idx_at {l : List Nat} (h : idx l < l.length) : l.getD (idx l) 0 < 128 := by
  induction l with
  | nil => simp at h
  | cons c r ih =>
    simp only [idx, List.length_cons] at h ⊢
    split
    · simpa
    · rename_i h1; rw [if_neg h1] at h; rw [List.getD_cons_succ]; exact ih (by omega)
theorem idx_eq {l : List Nat} {k : Nat} (h : ∀ j, j < k → 128 ≤ l.getD j 0) (hk : k < l.length) (hc : l.getD k 0 < 128) : idx l = k := by
  rcases Nat.lt_trichotomy (idx l) k with h1 | h1 | h1
  · have := h _ h1
    have := idx_at (l := l) (by omega)
    omega
  · exact h1
  · have := idx_lt h1; omega
theorem idx_all {l : List Nat} (h : ∀ j, j < l.length → 128 ≤ l.getD j 0) : idx l = l.length := by
  rcases Nat.lt_or_ge (idx l) l.length with h1 | h1
  · have := h _ h1
    have := idx_at h1
    omega
  · have := idx_le l; omega
/-- what Decode answers: number, length, error -/
def dec (l : List Nat) : Nat × Nat × Nat :=
  if 10 ≤ idx l then (0, 0, 22)
  else if idx l = l.length then (0, 0, 21)
  else if idx l = 9 ∧ 1 < l.getD 9 0 then (0, 0, 22)
  else if 0 < idx l ∧ l.getD (idx l) 0 = 0 then (0, 0, 23)
  else (num (l.take (idx l + 1)), idx l + 1, 0)
theorem num_pos {l : List Nat} (h : idx l < l.length) (hc : l.getD (idx l) 0 ≠ 0) : 0 < num (l.take (idx l + 1)) := by
  induction l with
  | nil => simp at h
  | cons c r ih =>
    simp only [idx, List.length_cons] at h hc ⊢
    by_cases h1 : c < 128
    · rw [if_pos h1] at hc ⊢
      simp [num] at hc ⊢; omega
    · rw [if_neg h1] at h hc ⊢
      rw [List.getD_cons_succ] at hc
      have := ih (by omega) hc
      rw [List.take_succ_cons, num]; omega
theorem vrt_num {l : List Nat} (hb : Byt l) (h : idx l < l.length) (hc : idx l = 0 ∨ l.getD (idx l) 0 ≠ 0) : vrt (num (l.take (idx l + 1))) = l.take (idx l + 1) := by
  induction l with
  | nil => simp at h
  | cons c r ih =>
    simp only [idx, List.length_cons] at h hc ⊢
    by_cases h1 : c < 128
    · rw [if_pos h1]
      simp only [Nat.zero_add, List.take_succ_cons, List.take_zero, num, Nat.mul_zero, Nat.add_zero]
      rw [Nat.mod_eq_of_lt h1, vrt_small h1]
    · rw [if_neg h1] at h hc ⊢
      have hc' : r.getD (idx r) 0 ≠ 0 := by
        rcases hc with hc | hc
        · omega
        · rwa [List.getD_cons_succ] at hc
      have hp := num_pos (l := r) (by omega) hc'
      have hcb := hb c (List.mem_cons_self)
      have := ih (fun x hx => hb x (List.mem_cons_of_mem _ hx)) (by omega) (.inr hc')
      rw [List.take_succ_cons, num, vrt_big (by omega)]
      rw [show (c % 128 + 128 * num (List.take (idx r + 1) r)) / 128 = num (List.take (idx r + 1) r) by omega, this]
      rw [show (c % 128 + 128 * num (List.take (idx r + 1) r)) % 128 + 128 = c by omega]
theorem vrt_at (n j : Nat) (h : j + 1 < (vrt n).length) : 128 ≤ (vrt n).getD j 0 := by
  induction n using Nat.strongRecOn generalizing j with
  | _ n ih =>
    by_cases h1 : n < 128
    · rw [vrt_small h1] at h; simp at h
    · rw [vrt_big (by omega)] at h ⊢
      cases j with
      | zero => simp
      | succ j => rw [List.getD_cons_succ]; exact ih (n / 128) (by omega) j (by simpa using h)
theorem vrt_last (n : Nat) : (vrt n).getD ((vrt n).length - 1) 0 = n / 128 ^ ((vrt n).length - 1) := by
  induction n using Nat.strongRecOn with
  | _ n ih =>
    by_cases h1 : n < 128
    · rw [vrt_small h1]; simp
    · have hl := vrt_len (n / 128)
      rw [vrt_big (by omega)]
      rw [List.length_cons, Nat.add_sub_cancel]
      obtain ⟨k, hk⟩ : ∃ k, (vrt (n / 128)).length = k + 1 := ⟨_, (Nat.sub_add_cancel hl).symm⟩
      have := ih (n / 128) (by omega)
      rw [hk, Nat.add_sub_cancel] at this
      rw [hk, List.getD_cons_succ, this, pw, Nat.div_div_eq_div_mul]
theorem vrt_lo (n : Nat) (h : 1 < (vrt n).length) : 128 ^ ((vrt n).length - 1) ≤ n := by
  induction n using Nat.strongRecOn with
  | _ n ih =>
    by_cases h1 : n < 128
    · rw [vrt_small h1] at h; simp at h
    · have hl := vrt_len (n / 128)
      rw [vrt_big (by omega), List.length_cons, Nat.add_sub_cancel]
      obtain ⟨k, hk⟩ : ∃ k, (vrt (n / 128)).length = k + 1 := ⟨_, (Nat.sub_add_cancel hl).symm⟩
      have := ih (n / 128) (by omega)
      rw [hk, Nat.add_sub_cancel] at this
      rw [hk, pw]
      rcases Nat.eq_zero_or_pos k with h0 | h0
      · subst h0; simp; omega
      · have := this (by omega)
        calc 128 * 128 ^ k ≤ 128 * (n / 128) := Nat.mul_le_mul_left _ this
          _ ≤ n := by omega
theorem vrt_hi (n : Nat) : n < 128 ^ (vrt n).length := by
  have := num_lt (vrt n)
  rwa [num_vrt] at this
theorem vrt_le {n k : Nat} (h : n < 128 ^ k) (hk : 1 ≤ k) : (vrt n).length ≤ k := by
  rcases Nat.lt_or_ge k (vrt n).length with h1 | h1
  · have := vrt_lo n (by omega)
    have : 128 ^ k ≤ 128 ^ ((vrt n).length - 1) := Nat.pow_le_pow_right (by omega) (by omega)
    omega
  · exact h1
theorem vrt_ten {n : Nat} (h : n < 18446744073709551616) : (vrt n).length ≤ 10 := vrt_le (Nat.lt_of_lt_of_le h (by decide)) (by omega)
theorem getD_app_left {a b : List Nat} {j : Nat} (h : j < a.length) : (a ++ b).getD j 0 = a.getD j 0 := by
  rw [List.getD_eq_getElem?_getD, List.getD_eq_getElem?_getD, List.getElem?_append_left h]
theorem idx_vrt (n : Nat) (r : List Nat) : idx (vrt n ++ r) + 1 = (vrt n).length := by
  have hl := vrt_len n
  have : idx (vrt n ++ r) = (vrt n).length - 1 := by
    refine idx_eq (fun j hj => ?_) (by rw [List.length_append]; omega) ?_
    · rw [getD_app_left (by omega)]; exact vrt_at n j (by omega)
    · rw [getD_app_left (by omega), vrt_last]
      have := vrt_hi n
      rw [Nat.div_lt_iff_lt_mul (pw_pos _), ← pw, Nat.sub_add_cancel hl]
      exact this
  omega
/-- what is encoded is decoded, whatever stands behind -/
theorem dec_vrt {n : Nat} (h : n < 18446744073709551616) (r : List Nat) : dec (vrt n ++ r) = (n, (vrt n).length, 0) := by
  have hi := idx_vrt n r
  have hl := vrt_ten h
  have hla := vrt_last n
  have hlo := vrt_lo n
  have e : (vrt n ++ r).getD (idx (vrt n ++ r)) 0 = n / 128 ^ ((vrt n).length - 1) := by
    rw [getD_app_left (by omega), show idx (vrt n ++ r) = (vrt n).length - 1 by omega, hla]
  unfold dec
  rw [if_neg (by omega), if_neg (by rw [List.length_append]; omega), if_neg, if_neg]
  · rw [hi, List.take_left', num_vrt]; rfl
  · rintro ⟨h1, h2⟩
    rw [e] at h2
    have := hlo (by omega)
    have := Nat.div_pos this (pw_pos _)
    omega
  · rintro ⟨h1, h2⟩
    rw [h1] at e
    rw [e, show (vrt n).length - 1 = 9 by omega] at h2
    have : n / 128 ^ 9 < 2 := by rw [Nat.div_lt_iff_lt_mul (by decide)]; exact h
    omega
theorem dec_ok {l : List Nat} {n k : Nat} (hb : Byt l) (h : dec l = (n, k, 0)) : vrt n = l.take k ∧ 1 ≤ k ∧ k ≤ 10 ∧ k ≤ l.length ∧ n < 18446744073709551616 ∧ k = (vrt n).length := by
  have hle := idx_le l
  unfold dec at h
  split at h
  · simp at h
  · split at h
    · simp at h
    · split at h
      · simp at h
      · split at h
        · simp at h
        · rename_i h1 h2 h3 h4
          simp only [Prod.mk.injEq, and_true] at h
          obtain ⟨rfl, rfl⟩ := h
          have hv := vrt_num hb (by omega) (by omega)
          refine ⟨hv, by omega, by omega, by omega, ?_, by rw [hv, List.length_take]; omega⟩
          by_cases h9 : idx l = 9
          · rw [h9, take_succ_getD (by omega), num_append]
            have hx := num_lt (l.take 9)
            rw [List.length_take, show min 9 l.length = 9 by omega] at hx ⊢
            have : l.getD 9 0 ≤ 1 := by omega
            simp only [num, Nat.mul_zero, Nat.add_zero]
            rw [Nat.mod_eq_of_lt (by omega)]
            have e : (128 : Nat) ^ 9 = 9223372036854775808 := by decide
            rw [e] at hx ⊢
            omega
          · have hx := num_lt (l.take (idx l + 1))
            rw [List.length_take] at hx
            have : 128 ^ min (idx l + 1) l.length ≤ 128 ^ 9 := Nat.pow_le_pow_right (by omega) (by omega)
            have e : (128 : Nat) ^ 9 = 9223372036854775808 := by decide
            omega
theorem dec_cut {n : Nat} (h : n < 18446744073709551616) {j : Nat} (hj : j < (vrt n).length) : dec ((vrt n).take j) = (0, 0, 21) := by
  have hl := vrt_ten h
  have e : idx ((vrt n).take j) = ((vrt n).take j).length := by
    refine idx_all fun i hi => ?_
    rw [List.length_take] at hi
    have hij : i < j := by omega
    rw [List.getD_eq_getElem?_getD, List.getElem?_take_of_lt hij, ← List.getD_eq_getElem?_getD]
    exact vrt_at n i (by omega)
  have e2 : ((vrt n).take j).length = j := by rw [List.length_take]; omega
  unfold dec
  rw [if_neg (by omega), if_pos e]
theorem dec_err {l : List Nat} (h : (dec l).2.2 ≠ 0) : (dec l).1 = 0 ∧ (dec l).2.1 = 0 := by
  unfold dec at *
  by_cases h1 : 10 ≤ idx l
  · rw [if_pos h1]; simp
  · rw [if_neg h1] at h ⊢
    by_cases h2 : idx l = l.length
    · rw [if_pos h2]; simp
    · rw [if_neg h2] at h ⊢
      by_cases h3 : idx l = 9 ∧ 1 < l.getD 9 0
      · rw [if_pos h3]; simp
      · rw [if_neg h3] at h ⊢
        by_cases h4 : 0 < idx l ∧ l.getD (idx l) 0 = 0
        · rw [if_pos h4]; simp
        · rw [if_neg h4] at h; simp at h

theorem bl_aux (f x : Nat) (hx : x < 2 ^ f) : x < 2 ^ Lib.bitLenAux f x ∧ (x ≠ 0 → 2 ^ (Lib.bitLenAux f x - 1) ≤ x) ∧ (x ≠ 0 → 0 < Lib.bitLenAux f x) := by
  induction f generalizing x with
  | zero => simp [Lib.bitLenAux] at *; omega
  | succ f ih =>
    unfold Lib.bitLenAux
    split
    · subst_vars; simp
    · rename_i h0
      obtain ⟨h1, h2, h3⟩ := ih (x / 2) (by rw [Nat.pow_succ] at hx; omega)
      refine ⟨by rw [Nat.add_comm, Nat.pow_succ]; omega, fun _ => ?_, fun _ => by omega⟩
      rw [Nat.add_sub_cancel_left]
      by_cases h : x / 2 = 0
      · rw [h]
        cases f with
        | zero => simp [Lib.bitLenAux]; omega
        | succ f => simp [Lib.bitLenAux]; omega
      · have h4 := h2 h
        have h5 := h3 h
        obtain ⟨k, hk⟩ : ∃ k, Lib.bitLenAux f (x / 2) = k + 1 := ⟨_, (Nat.sub_add_cancel h5).symm⟩
        rw [hk] at h4 ⊢
        rw [Nat.add_sub_cancel] at h4
        rw [Nat.pow_succ]; omega
theorem bl_spec {x : Nat} (hx : x < 18446744073709551616) : x < 2 ^ Lib.bitLen x ∧ (x ≠ 0 → 2 ^ (Lib.bitLen x - 1) ≤ x) ∧ (x ≠ 0 → 0 < Lib.bitLen x) := bl_aux 64 x hx
theorem pow7 (k : Nat) : 128 ^ k = 2 ^ (7 * k) := by rw [show (128 : Nat) = 2 ^ 7 by decide, ← Nat.pow_mul]
theorem bl_le {x : Nat} (hx : x < 18446744073709551616) : Lib.bitLen x ≤ 64 := by
  obtain ⟨_, h2, _⟩ := bl_spec hx
  by_cases h : x = 0
  · subst h; decide
  · have := h2 h
    rcases Nat.lt_or_ge 64 (Lib.bitLen x) with h1 | h1
    · have : 2 ^ 64 ≤ 2 ^ (Lib.bitLen x - 1) := Nat.pow_le_pow_right (by omega) (by omega)
      have : (2 : Nat) ^ 64 = 18446744073709551616 := by decide
      omega
    · exact h1
theorem or_one (n : Nat) : n ||| 1 = n / 2 * 2 + 1 := by
  have h := Nat.div_add_mod (n ||| 1) 2
  have e1 : (n ||| 1) / 2 = n / 2 := by
    have := Nat.shiftRight_or_distrib (a := n) (b := 1) (i := 1)
    simp only [Nat.shiftRight_succ, Nat.shiftRight_zero] at this
    simpa using this
  have e2 : (n ||| 1) % 2 = 1 := by
    rw [Nat.or_mod_two_eq_one]; omega
  omega
/-- Size's count is the varint's length -/
theorem size_vrt {n : Nat} (h : n < 18446744073709551616) : (Lib.bitLen (n ||| 1) + 6) / 7 = (vrt n).length := by
  have hx : n ||| 1 < 18446744073709551616 := Nat.or_lt_two_pow (n := 64) h (by decide)
  have hne : n ||| 1 ≠ 0 := by rw [or_one]; omega
  obtain ⟨h1, h2, h3⟩ := bl_spec hx
  have h2 := h2 hne
  have h3 := h3 hne
  have hl := vrt_len n
  have hhi := vrt_hi n
  have hhi2 : n ||| 1 < 2 ^ (7 * (vrt n).length) := by
    rw [← pow7, or_one]
    have : 128 ^ (vrt n).length = 128 * 128 ^ ((vrt n).length - 1) := by rw [← pw, Nat.sub_add_cancel hl]
    omega
  have hlo : 2 ^ (7 * ((vrt n).length - 1)) ≤ n ||| 1 := by
    rw [← pow7, or_one]
    rcases Nat.lt_or_ge 1 (vrt n).length with h4 | h4
    · have := vrt_lo n h4; omega
    · rw [show (vrt n).length - 1 = 0 by omega]; simp
  have a1 : Lib.bitLen (n ||| 1) - 1 < 7 * (vrt n).length := by
    refine (Nat.pow_lt_pow_iff_right (a := 2) (by omega)).1 ?_
    omega
  have a2 : 7 * ((vrt n).length - 1) < Lib.bitLen (n ||| 1) := by
    refine (Nat.pow_lt_pow_iff_right (a := 2) (by omega)).1 ?_
    omega
  omega

/-- so many digits of a number, the highest first -/
def dg : Nat → Nat → List Nat
  | 0, _ => []
  | c + 1, n => n / 128 ^ c % 128 :: dg c n
theorem dg_len (c n : Nat) : (dg c n).length = c := by
  induction c with
  | zero => rfl
  | succ c ih => simp [dg, ih]
theorem dg_lt (c n : Nat) : ∀ x ∈ dg c n, x < 128 := by
  induction c with
  | zero => simp [dg]
  | succ c ih =>
    intro x hx
    rcases List.mem_cons.1 hx with rfl | hx
    · omega
    · exact ih x hx
theorem dg_byt (c n : Nat) : Byt (dg c n) := fun x hx => by have := dg_lt c n x hx; omega
def nm (l : List Nat) : Nat := l.foldl (fun a c => a * 128 + c) 0
theorem nm_snoc (l : List Nat) (c : Nat) : nm (l ++ [c]) = nm l * 128 + c := by simp [nm, List.foldl_append]
theorem nm_foldl (a : Nat) (l : List Nat) : l.foldl (fun a c => a * 128 + c) a = a * 128 ^ l.length + nm l := by
  induction l generalizing a with
  | nil => simp [nm]
  | cons x r ih =>
    simp only [List.foldl_cons, List.length_cons, nm]
    rw [ih, ih (0 * 128 + x), pw, Nat.zero_mul, Nat.zero_add, Nat.add_mul, Nat.mul_assoc, Nat.add_assoc]
theorem nm_cons (x : Nat) (r : List Nat) : nm (x :: r) = x * 128 ^ r.length + nm r := by
  rw [nm, List.foldl_cons, nm_foldl, Nat.zero_mul, Nat.zero_add]
theorem nm_dg (c n : Nat) : nm (dg c n) = n % 128 ^ c := by
  induction c with
  | zero => simp [dg, nm, Nat.mod_one]
  | succ c ih =>
    rw [dg, nm_cons, dg_len, ih, Nat.pow_succ, Nat.mod_mul, Nat.mul_comm, Nat.add_comm]
theorem nm_lt {l : List Nat} (h : ∀ x ∈ l, x < 128) : nm l < 128 ^ l.length := by
  induction l with
  | nil => simp [nm]
  | cons x r ih =>
    have h1 := h x List.mem_cons_self
    have h2 := ih fun y hy => h y (List.mem_cons_of_mem _ hy)
    rw [nm_cons, List.length_cons, pw]
    have : x * 128 ^ r.length ≤ 127 * 128 ^ r.length := Nat.mul_le_mul_right _ (by omega)
    omega
theorem dg_nm {l : List Nat} (h : ∀ x ∈ l, x < 128) : dg l.length (nm l) = l := by
  have key : ∀ (l : List Nat), (∀ x ∈ l, x < 128) → ∀ a, dg l.length (a * 128 ^ l.length + nm l) = l := by
    intro l
    induction l with
    | nil => intro _ _; rfl
    | cons x r ih =>
      intro h a
      have h1 := h x List.mem_cons_self
      have h2 := nm_lt fun y hy => h y (List.mem_cons_of_mem _ hy)
      have hr := fun y hy => h y (List.mem_cons_of_mem _ hy)
      rw [List.length_cons, dg, nm_cons, pw]
      have e : a * (128 * 128 ^ r.length) + (x * 128 ^ r.length + nm r) = (a * 128 + x) * 128 ^ r.length + nm r := by
        rw [Nat.add_mul, Nat.mul_assoc, Nat.add_assoc]
      rw [e, ih hr (a * 128 + x)]
      rw [Nat.add_comm ((a * 128 + x) * 128 ^ r.length), Nat.add_mul_div_right _ _ (pw_pos _), Nat.div_eq_of_lt h2]
      congr 1
      omega
  have := key l h 0
  rwa [Nat.zero_mul, Nat.zero_add] at this
theorem bl_digits {n c : Nat} (h : n < 18446744073709551616) : 7 * c < Lib.bitLen n ↔ 128 ^ c ≤ n := by
  obtain ⟨h1, h2, h3⟩ := bl_spec h
  rw [pow7]
  constructor
  · intro h4
    have hn : n ≠ 0 := by intro e; subst e; simp [Lib.bitLen, Lib.bitLenAux] at h4
    have := h2 hn
    have : 2 ^ (7 * c) ≤ 2 ^ (Lib.bitLen n - 1) := Nat.pow_le_pow_right (by omega) (by omega)
    omega
  · intro h4
    refine (Nat.pow_lt_pow_iff_right (a := 2) (by omega)).1 ?_
    omega
theorem dg_at (c n i : Nat) (h : i < c) : (dg c n).getD i 0 = n / 128 ^ (c - 1 - i) % 128 := by
  induction c generalizing i with
  | zero => omega
  | succ c ih =>
    rw [dg]
    cases i with
    | zero => simp
    | succ i => rw [List.getD_cons_succ, ih i (by omega)]; congr 3; omega
/-- digits tell the order of their numbers at the first place where they differ -/
theorem dg_order {c n m i : Nat} (hn : n < 128 ^ c) (hm : m < 128 ^ c) (hi : i < c) (he : ∀ j, j < i → (dg c n).getD j 0 = (dg c m).getD j 0) (hd : (dg c n).getD i 0 ≠ (dg c m).getD i 0) :
    ((dg c n).getD i 0 < (dg c m).getD i 0 ↔ n < m) := by
  have key : ∀ k, k ≤ i → n / 128 ^ (c - k) = m / 128 ^ (c - k) := by
    intro k
    induction k with
    | zero => intro _; rw [Nat.sub_zero, Nat.div_eq_of_lt hn, Nat.div_eq_of_lt hm]
    | succ k ih =>
      intro hk
      have h1 := ih (by omega)
      have h2 := he k (by omega)
      rw [dg_at c n k (by omega), dg_at c m k (by omega)] at h2
      rw [show c - k = (c - 1 - k) + 1 by omega, Nat.pow_succ, ← Nat.div_div_eq_div_mul, ← Nat.div_div_eq_div_mul] at h1
      rw [show c - (k + 1) = c - 1 - k by omega]
      omega
  have h1 := key i (Nat.le_refl _)
  rw [dg_at c n i hi, dg_at c m i hi] at hd ⊢
  rw [show c - i = (c - 1 - i) + 1 by omega, Nat.pow_succ, ← Nat.div_div_eq_div_mul, ← Nat.div_div_eq_div_mul] at h1
  constructor
  · intro h
    rcases Nat.lt_or_ge n m with h2 | h2
    · exact h2
    · have := Nat.div_le_div_right (c := 128 ^ (c - 1 - i)) h2
      omega
  · intro h
    have := Nat.div_le_div_right (c := 128 ^ (c - 1 - i)) (Nat.le_of_lt h)
    omega
theorem dg_inj {c n m : Nat} (hn : n < 128 ^ c) (hm : m < 128 ^ c) (h : dg c n = dg c m) : n = m := by
  have h1 := nm_dg c n
  rw [h, nm_dg, Nat.mod_eq_of_lt hn, Nat.mod_eq_of_lt hm] at h1
  exact h1.symm
end Vt
end Go.Proofs.Ytcldcompflgbpaa
namespace Go.Proofs.Ytcldcompflgbpaa
namespace Vt
def e1 (c : Nat) : List Nat := if c = 167 then [166, 1] else if c = 166 then [166, 0] else [c]
def wr : List Nat → List Nat
  | [] => []
  | c :: r => e1 c ++ wr r
theorem e1_lead : e1 167 = [166, 1] := rfl
theorem e1_esc : e1 166 = [166, 0] := rfl
theorem e1_any {c : Nat} (h : c ≠ 167) (h2 : c ≠ 166) : e1 c = [c] := by unfold e1; rw [if_neg h, if_neg h2]
theorem wr_append (a b : List Nat) : wr (a ++ b) = wr a ++ wr b := by
  induction a with
  | nil => rfl
  | cons c r ih => rw [List.cons_append, wr, wr, ih, List.append_assoc]
theorem wr_one (c : Nat) : wr [c] = e1 c := by simp [wr]
theorem wr_succ {l : List Nat} {k : Nat} (h : k < l.length) : wr (l.take (k + 1)) = wr (l.take k) ++ e1 (l.getD k 0) := by
  rw [take_succ_getD h, wr_append, wr_one]
theorem e1_len (c : Nat) : 1 ≤ (e1 c).length ∧ (e1 c).length ≤ 2 := by
  unfold e1
  split
  · simp
  · split <;> simp
theorem wr_len (l : List Nat) : l.length ≤ (wr l).length ∧ (wr l).length ≤ 2 * l.length := by
  induction l with
  | nil => simp [wr]
  | cons c r ih =>
    have := e1_len c
    rw [wr, List.length_append, List.length_cons]; omega
theorem e1_byt {c : Nat} (h : c < 256) : Byt (e1 c) := by
  unfold e1
  split
  · intro x hx; simp at hx; omega
  · split
    · intro x hx; simp at hx; omega
    · intro x hx; simp at hx; omega
theorem wr_byt {l : List Nat} (h : Byt l) : Byt (wr l) := by
  induction l with
  | nil => exact byt_nil
  | cons c r ih => rw [wr]; exact byt_app (e1_byt (h c List.mem_cons_self)) (ih fun x hx => h x (List.mem_cons_of_mem _ hx))
theorem e1_no (c : Nat) : ∀ x ∈ e1 c, x ≠ 167 := by
  unfold e1
  split
  · intro x hx; simp at hx; omega
  · split
    · intro x hx; simp at hx; omega
    · intro x hx; simp at hx; omega
theorem wr_no (l : List Nat) : ∀ x ∈ wr l, x ≠ 167 := by
  induction l with
  | nil => intro x hx; simp [wr] at hx
  | cons c r ih =>
    intro x hx
    rw [wr] at hx
    rcases List.mem_append.1 hx with hx | hx
    · exact e1_no c x hx
    · exact ih x hx
theorem wr_no_at {l : List Nat} {k : Nat} (h : k < (wr l).length) : (wr l).getD k 0 ≠ 167 := by
  apply wr_no l
  rw [List.getD_eq_getElem?_getD, List.getElem?_eq_getElem h]
  exact List.getElem_mem h
/-- the plain byte at the front, how many bytes it takes, what is wrong -/
def fs (l : List Nat) : Nat × Nat × Nat :=
  if l.getD 0 0 = 167 then (0, 0, 31) else if l.getD 0 0 ≠ 166 then (l.getD 0 0, 1, 0) else if l.length = 1 then (0, 0, 32)
  else if l.getD 1 0 = 0 then (166, 2, 0) else if l.getD 1 0 = 1 then (167, 2, 0) else (0, 0, 32)
/-- what is told: the places from at_ on -/
def told : Nat → Nat → List Nat → List (Nat × Nat)
  | 0, _, _ => []
  | f + 1, at_, l => if l = [] then [] else if (fs l).2.2 = 0 then (at_, (fs l).1) :: told f (at_ + (fs l).2.1) (l.drop (fs l).2.1) else []
/-- what is wrong, and where -/
def bad : Nat → Nat → List Nat → Nat × Nat
  | 0, _, _ => (0, 0)
  | f + 1, at_, l => if l = [] then (0, 0) else if (fs l).2.2 = 0 then bad f (at_ + (fs l).2.1) (l.drop (fs l).2.1) else ((fs l).2.2, at_)
theorem fs_front (c : Nat) (r : List Nat) : fs (e1 c ++ r) = (c, (e1 c).length, 0) := by
  by_cases h : c = 167
  · subst h; simp [e1, fs]
  · by_cases h2 : c = 166
    · subst h2; simp [e1, fs]
    · rw [e1_any h h2]; simp [fs, h, h2]
theorem fs_ok {l : List Nat} (hne : l ≠ []) (h : (fs l).2.2 = 0) : l = e1 (fs l).1 ++ l.drop (fs l).2.1 ∧ (fs l).2.1 = (e1 (fs l).1).length := by
  match l, hne with
  | [c], _ =>
    unfold fs at *
    by_cases h1 : c = 167
    · simp [h1] at h
    · by_cases h2 : c = 166
      · simp [h2] at h
      · simp [h1, h2, e1_any h1 h2]
  | c :: d :: r, _ =>
    unfold fs at *
    by_cases h1 : c = 167
    · simp [h1] at h
    · by_cases h2 : c = 166
      · by_cases h3 : d = 0
        · simp [h2, h3, e1]
        · by_cases h4 : d = 1
          · simp [h2, h4, e1]
          · simp [h2, h3, h4] at h
      · simp [h1, h2, e1_any h1 h2]
theorem fs_len {l : List Nat} (hne : l ≠ []) (h : (fs l).2.2 = 0) : 1 ≤ (fs l).2.1 ∧ (fs l).2.1 ≤ l.length ∧ (fs l).2.1 ≤ 2 := by
  have h1 := fs_ok hne h
  have h2 := e1_len (fs l).1
  have h3 := congrArg List.length h1.1
  rw [List.length_append] at h3
  omega
theorem fs_byt {l : List Nat} (hb : Byt l) : (fs l).1 < 256 := by
  have := getD_lt hb 0
  unfold fs
  repeat' split
  all_goals (simp only; omega)
theorem fs_err (l : List Nat) : (fs l).2.2 = 0 ∨ (fs l).2.2 = 31 ∧ l.getD 0 0 = 167 ∨ (fs l).2.2 = 32 ∧ l.getD 0 0 = 166 := by
  unfold fs
  by_cases h1 : l.getD 0 0 = 167
  · rw [if_pos h1]; exact .inr (.inl ⟨rfl, h1⟩)
  · rw [if_neg h1]
    by_cases h2 : l.getD 0 0 = 166
    · rw [if_neg (by simpa using h2)]
      repeat' split
      all_goals first | exact .inl rfl | exact .inr (.inr ⟨rfl, h2⟩)
    · rw [if_pos h2]; simp
theorem fs_bad {l : List Nat} (h : (fs l).2.2 ≠ 0) : (fs l).1 = 0 ∧ (fs l).2.1 = 0 := by
  unfold fs at *
  repeat' split at h
  all_goals first | (exact absurd rfl h) | skip
  all_goals simp_all
def toldB (at_ : Nat) (l : List Nat) : List (Nat × Nat) := told l.length at_ l
def badB (at_ : Nat) (l : List Nat) : Nat × Nat := bad l.length at_ l
theorem told_fuel (f : Nat) : ∀ (g at_ : Nat) (l : List Nat), l.length ≤ f → l.length ≤ g → told f at_ l = told g at_ l ∧ bad f at_ l = bad g at_ l := by
  induction f with
  | zero =>
    intro g at_ l h1 h2
    obtain rfl : l = [] := List.length_eq_zero_iff.1 (by omega)
    cases g with
    | zero => exact ⟨rfl, rfl⟩
    | succ g => simp [told, bad]
  | succ f ih =>
    intro g at_ l h1 h2
    cases g with
    | zero =>
      obtain rfl : l = [] := List.length_eq_zero_iff.1 (by omega)
      simp [told, bad]
    | succ g =>
      unfold told bad
      by_cases h : l = []
      · simp [h]
      · rw [if_neg h, if_neg h, if_neg h, if_neg h]
        by_cases he : (fs l).2.2 = 0
        · have := fs_len h he
          have hh := ih g (at_ + (fs l).2.1) (l.drop (fs l).2.1) (by rw [List.length_drop]; omega) (by rw [List.length_drop]; omega)
          rw [if_pos he, if_pos he, if_pos he, if_pos he, hh.1, hh.2]; exact ⟨rfl, rfl⟩
        · rw [if_neg he, if_neg he, if_neg he, if_neg he]; exact ⟨rfl, rfl⟩
theorem toldB_nil (at_ : Nat) : toldB at_ [] = [] := rfl
theorem badB_nil (at_ : Nat) : badB at_ [] = (0, 0) := rfl
theorem toldB_ok {at_ : Nat} {l : List Nat} (h : l ≠ []) (he : (fs l).2.2 = 0) : toldB at_ l = (at_, (fs l).1) :: toldB (at_ + (fs l).2.1) (l.drop (fs l).2.1) := by
  have hd := fs_len h he
  obtain ⟨m, hm⟩ : ∃ m, l.length = m + 1 := ⟨l.length - 1, by omega⟩
  unfold toldB
  rw [hm, told, if_neg h, if_pos he, (told_fuel m _ _ _ (by rw [List.length_drop]; omega) (Nat.le_refl _)).1]
theorem badB_ok {at_ : Nat} {l : List Nat} (h : l ≠ []) (he : (fs l).2.2 = 0) : badB at_ l = badB (at_ + (fs l).2.1) (l.drop (fs l).2.1) := by
  have hd := fs_len h he
  obtain ⟨m, hm⟩ : ∃ m, l.length = m + 1 := ⟨l.length - 1, by omega⟩
  unfold badB
  rw [hm, bad, if_neg h, if_pos he, (told_fuel m _ _ _ (by rw [List.length_drop]; omega) (Nat.le_refl _)).2]
theorem toldB_err {at_ : Nat} {l : List Nat} (he : (fs l).2.2 ≠ 0) : toldB at_ l = [] := by
  unfold toldB
  cases l with
  | nil => rfl
  | cons x r => rw [List.length_cons, told, if_neg (by simp), if_neg he]
theorem badB_err {at_ : Nat} {l : List Nat} (h : l ≠ []) (he : (fs l).2.2 ≠ 0) : badB at_ l = ((fs l).2.2, at_) := by
  unfold badB
  cases l with
  | nil => exact absurd rfl h
  | cons x r => rw [List.length_cons, bad, if_neg (by simp), if_neg he]
/-- plain bytes with the places of what they are written as -/
def pl : Nat → List Nat → List (Nat × Nat)
  | _, [] => []
  | p, c :: r => (p, c) :: pl (p + (e1 c).length) r
theorem e1_ne (c : Nat) (r : List Nat) : e1 c ++ r ≠ [] := by
  have := e1_len c
  intro e
  have := congrArg List.length e
  rw [List.length_append, List.length_nil] at this
  omega
theorem both_wr (p r : List Nat) : ∀ at_, toldB at_ (wr p ++ r) = pl at_ p ++ toldB (at_ + (wr p).length) r ∧ badB at_ (wr p ++ r) = badB (at_ + (wr p).length) r := by
  induction p with
  | nil => intro at_; exact ⟨rfl, rfl⟩
  | cons c q ih =>
    intro at_
    have hf := fs_front c (wr q ++ r)
    have hne := e1_ne c (wr q ++ r)
    rw [wr, List.append_assoc, toldB_ok hne (by rw [hf]), badB_ok hne (by rw [hf]), hf]
    simp only
    rw [List.drop_left' rfl, (ih _).1, (ih _).2, pl, List.length_append, Nat.add_assoc]
    exact ⟨rfl, rfl⟩
theorem toldB_wr (p : List Nat) (at_ : Nat) : toldB at_ (wr p) = pl at_ p := by
  have := (both_wr p [] at_).1
  rwa [List.append_nil, toldB_nil, List.append_nil] at this
theorem badB_wr (p : List Nat) (at_ : Nat) : badB at_ (wr p) = (0, 0) := by
  have := (both_wr p [] at_).2
  rwa [List.append_nil, badB_nil] at this
theorem pl_len (at_ : Nat) (p : List Nat) : (pl at_ p).length = p.length := by
  induction p generalizing at_ with
  | nil => rfl
  | cons c r ih => simp [pl, ih]
theorem pl_snd (at_ : Nat) (p : List Nat) : (pl at_ p).map Prod.snd = p := by
  induction p generalizing at_ with
  | nil => rfl
  | cons c r ih => simp [pl, ih]
theorem pl_at (p : Nat) (l : List Nat) (k : Nat) (hk : k < l.length) : (pl p l)[k]? = some (p + (wr (l.take k)).length, l.getD k 0) := by
  induction l generalizing p k with
  | nil => simp at hk
  | cons x r ih =>
    cases k with
    | zero => simp [pl, wr]
    | succ k =>
      rw [pl, List.getElem?_cons_succ, ih _ k (by simpa using hk), List.take_succ_cons, wr, List.length_append, List.getD_cons_succ, Nat.add_assoc]
/-- whatever bytes: escaped ones, and behind them nothing, or what cannot stand -/
theorem parts (n : Nat) : ∀ l : List Nat, l.length ≤ n → ∃ p r, l = wr p ++ r ∧ (r = [] ∨ r ≠ [] ∧ (fs r).2.2 ≠ 0) := by
  induction n with
  | zero => intro l h; exact ⟨[], [], List.length_eq_zero_iff.1 (by omega), .inl rfl⟩
  | succ n ih =>
    intro l h
    by_cases h0 : l = []
    · exact ⟨[], [], h0, .inl rfl⟩
    · by_cases he : (fs l).2.2 = 0
      · have h1 := fs_len h0 he
        have h2 := fs_ok h0 he
        obtain ⟨p, r, e, hr⟩ := ih (l.drop (fs l).2.1) (by rw [List.length_drop]; omega)
        refine ⟨(fs l).1 :: p, r, ?_, hr⟩
        rw [wr, List.append_assoc, ← e]; exact h2.1
      · exact ⟨[], l, rfl, .inr ⟨h0, he⟩⟩
theorem part (l : List Nat) : ∃ p r, l = wr p ++ r ∧ (r = [] ∨ r ≠ [] ∧ (fs r).2.2 ≠ 0) := parts _ l (Nat.le_refl _)
theorem part_byt {p r l : List Nat} (h : l = wr p ++ r) (hb : Byt l) : Byt p := by
  induction p generalizing l with
  | nil => exact byt_nil
  | cons c q ih =>
    intro x hx
    rw [wr, List.append_assoc] at h
    rcases List.mem_cons.1 hx with rfl | hx
    · have h1 := e1_len x
      by_cases h2 : x = 167
      · omega
      · by_cases h3 : x = 166
        · omega
        · rw [e1_any h2 h3] at h; exact hb x (by rw [h]; simp)
    · exact ih (l := wr q ++ r) rfl (fun y hy => hb y (by rw [h]; exact List.mem_append_right _ hy)) x hx
/-- .. what is told of such bytes -/
theorem part_fine {p : List Nat} : toldB 0 (wr p ++ []) = pl 0 p ∧ badB 0 (wr p ++ []) = (0, 0) := by
  rw [List.append_nil]; exact ⟨toldB_wr p 0, badB_wr p 0⟩
theorem part_bad {p r : List Nat} (h : r ≠ []) (he : (fs r).2.2 ≠ 0) : toldB 0 (wr p ++ r) = pl 0 p ∧ badB 0 (wr p ++ r) = ((fs r).2.2, (wr p).length) := by
  have := both_wr p r 0
  rw [toldB_err he, badB_err h he, List.append_nil, Nat.zero_add] at this
  exact this
theorem toldB_len (at_ : Nat) (l : List Nat) : (toldB at_ l).length ≤ l.length := by
  have key : ∀ f at_ l, (told f at_ l).length ≤ f := by
    intro f
    induction f with
    | zero => intro at_ l; simp [told]
    | succ f ih =>
      intro at_ l
      unfold told
      split
      · simp
      · split
        · rw [List.length_cons]; have := ih (at_ + (fs l).2.1) (l.drop (fs l).2.1); omega
        · simp
  exact key _ _ _
/-- the plain bytes of escaped ones -/
def plain (l : List Nat) : List Nat := (toldB 0 l).map Prod.snd
theorem plain_len (l : List Nat) : (plain l).length ≤ l.length := by
  unfold plain; rw [List.length_map]; exact toldB_len 0 l
theorem plain_byt {l : List Nat} (hb : Byt l) : Byt (plain l) := by
  obtain ⟨p, r, e, h⟩ := part l
  have hp := part_byt e hb
  subst e
  unfold plain
  rcases h with rfl | ⟨h1, h2⟩
  · rw [part_fine.1, pl_snd]; exact hp
  · rw [(part_bad h1 h2).1, pl_snd]; exact hp
theorem plain_wr (p : List Nat) : plain (wr p) = p := by unfold plain; rw [toldB_wr, pl_snd]
/-- what is opened comes, wrapped, to what was opened -/
theorem only {l : List Nat} (h : (badB 0 l).1 = 0) : wr (plain l) = l := by
  obtain ⟨p, r, e, hr⟩ := part l
  subst e
  rcases hr with rfl | ⟨h1, h2⟩
  · rw [List.append_nil, plain_wr]
  · rw [(part_bad h1 h2).2] at h; exact absurd h h2
theorem badB_place {l : List Nat} (h : (badB 0 l).1 ≠ 0) : (badB 0 l).2 < l.length ∧ ((badB 0 l).1 = 31 ∧ l.getD (badB 0 l).2 0 = 167 ∨ (badB 0 l).1 = 32 ∧ l.getD (badB 0 l).2 0 = 166) := by
  obtain ⟨p, r, e, hr⟩ := part l
  subst e
  rcases hr with rfl | ⟨h1, h2⟩
  · rw [part_fine.2] at h; exact absurd rfl h
  · rw [(part_bad h1 h2).2]
    simp only
    have hpos : 0 < r.length := List.length_pos_iff.2 h1
    refine ⟨by rw [List.length_append]; omega, ?_⟩
    have hg : (wr p ++ r).getD (wr p).length 0 = r.getD 0 0 := by
      rw [List.getD_eq_getElem?_getD, List.getElem?_append_right (Nat.le_refl _), Nat.sub_self, List.getD_eq_getElem?_getD]
    rw [hg]
    rcases fs_err r with h3 | h3 | h3
    · exact absurd h3 h2
    · exact .inl h3
    · exact .inr h3
theorem badB_zero {l : List Nat} (h : (badB 0 l).1 = 0) : badB 0 l = (0, 0) := by
  obtain ⟨p, r, e, hr⟩ := part l
  subst e
  rcases hr with rfl | ⟨h1, h2⟩
  · exact part_fine.2
  · rw [(part_bad h1 h2).2] at h; exact absurd h h2
end Vt
end Go.Proofs.Ytcldcompflgbpaa
