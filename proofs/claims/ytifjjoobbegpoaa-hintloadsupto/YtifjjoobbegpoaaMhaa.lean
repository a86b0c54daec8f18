/-
  THE PLAIN MATHEMATICS OF VARINTS AND DIGITS, proved of natural numbers and lists of them, without any condition beyond those that each row bears: there and back, one way only to write a number, what is cut off, how long a varint is, digits in order.
  PLAIN MATHEMATICS OF ESCAPED BYTES: 'wr' (the escaped bytes of plain ones), 'fs' (the plain byte at the front), 'told' (what is told, with places), 'bad' (the first that cannot stand). No program.
  BYTES AS A STRING, A STRING'S BYTES. No program here.
  FRAMES, PLAINLY: what a frame has, why it may not be, its body, how a body is taken apart. No program here.
  WHAT THE PROOFS ABOUT VARINTS SHARE: a slice of bytes or of 64-bit numbers that reads as a list; rows that the call itself has made; what came in as such a slice. No condition beyond those that each row bears.
  SMALL HELPS that the walks share: rows of the call's own that stay, literal slices, a byte put behind.
  'append(own, x...)' AS A LAW FOR THE WALK: own: a list of bytes of the call's own (nil too); x: any slice of bytes (nil, empty too).
  THE WALKS OF slices.Grow (of nil) and slices.Concat of lists of bytes: one row of the call's own, all lists one behind the other.
-/
import Derived.Lib.BitFns
import Derived.Test.YtifjjoobbegpoaaRows
import Derived.WalkKit
import Derived.WalkSpells
import Derived.WalkLawsBesides
import Derived.Laws.BitsAllLaws
import Derived.ProofKit
import Derived.OpenShut
import Derived.ShutString
import Derived.ChangeOld
import Derived.SizedLaws
import Derived.Deep.AppendLies
import Derived.Laws.OwnMore
import Derived.Deep.Onto
import Derived.Deep.QuietTactic
import Derived.BigQuiet
import Derived.Deep.RegionWith
import Derived.OwnWalk
import Derived.Lib.AppendZeros
namespace Go.Proofs.Ytifjjoobbegpoaa
namespace Vt
def Byt (l : List Nat) : Prop := ∀ x ∈ l, x < 256
theorem byt_nil : Byt [] := by intro x hx; simp at hx
theorem byt_app {a b : List Nat} (ha : Byt a) (hb : Byt b) : Byt (a ++ b) := by
  intro x hx
  rcases List.mem_append.1 hx with hx | hx
  · exact ha x hx
  · exact hb x hx
theorem byt_take {l : List Nat} (h : Byt l) (k : Nat) : Byt (l.take k) := fun x hx => h x (List.mem_of_mem_take hx)
theorem byt_drop {l : List Nat} (h : Byt l) (k : Nat) : Byt (l.drop k) := fun x hx => h x (List.mem_of_mem_drop hx)
theorem getD_lt {l : List Nat} (h : Byt l) (k : Nat) : l.getD k 0 < 256 := by
  rw [List.getD_eq_getElem?_getD]
  cases e : l[k]? with
  | none => simp
  | some x => exact h x (List.mem_of_getElem? e)
theorem take_succ_getD {l : List Nat} {k : Nat} (h : k < l.length) : l.take (k + 1) = l.take k ++ [l.getD k 0] := by
  rw [List.take_succ_eq_append_getElem h, List.getD_eq_getElem?_getD, List.getElem?_eq_getElem h]; rfl

/-- the varint of a number -/
def vrt (n : Nat) : List Nat := if n < 128 then [n] else (n % 128 + 128) :: vrt (n / 128)
  termination_by n
  decreasing_by omega
theorem vrt_small {n : Nat} (h : n < 128) : vrt n = [n] := by unfold vrt; rw [if_pos h]
theorem vrt_big {n : Nat} (h : 128 ≤ n) : vrt n = (n % 128 + 128) :: vrt (n / 128) := by rw [vrt, if_neg (by omega)]
theorem vrt_len (n : Nat) : 1 ≤ (vrt n).length := by
  by_cases h : n < 128
  · rw [vrt_small h]; simp
  · rw [vrt_big (by omega)]; simp
theorem vrt_byt (n : Nat) : Byt (vrt n) := by
  induction n using Nat.strongRecOn with
  | _ n ih =>
    by_cases h : n < 128
    · rw [vrt_small h]; intro x hx; simp at hx; omega
    · rw [vrt_big (by omega)]
      intro x hx
      rcases List.mem_cons.1 hx with hx | hx
      · omega
      · exact ih (n / 128) (by omega) x hx
def num : List Nat → Nat
  | [] => 0
  | c :: r => c % 128 + 128 * num r
theorem num_vrt (n : Nat) : num (vrt n) = n := by
  induction n using Nat.strongRecOn with
  | _ n ih =>
    by_cases h : n < 128
    · rw [vrt_small h]; simp [num]; omega
    · rw [vrt_big (by omega), num, ih (n / 128) (by omega)]; omega
theorem pw (k : Nat) : 128 ^ (k + 1) = 128 * 128 ^ k := by rw [Nat.pow_succ, Nat.mul_comm]
theorem pw_pos (k : Nat) : 0 < 128 ^ k := Nat.pow_pos (by omega)
theorem num_append (a b : List Nat) : num (a ++ b) = num a + 128 ^ a.length * num b := by
  induction a with
  | nil => simp [num]
  | cons c r ih => simp only [List.cons_append, num, List.length_cons, ih, pw, Nat.mul_add, Nat.mul_assoc]; omega
theorem num_lt (a : List Nat) : num a < 128 ^ a.length := by
  induction a with
  | nil => simp [num]
  | cons c r ih => simp only [num, List.length_cons, pw]; omega
/-- where the first byte below 128 stands (the length, if there is none) -/
def idx : List Nat → Nat
  | [] => 0
  | c :: r => if c < 128 then 0 else idx r + 1
theorem idx_le (l : List Nat) : idx l ≤ l.length := by
  induction l with
  | nil => simp [idx]
  | cons c r ih => simp only [idx, List.length_cons]; split <;> omega
theorem idx_lt {l : List Nat} {j : Nat} (h : j < idx l) : 128 ≤ l.getD j 0 := by
  induction l generalizing j with
  | nil => simp [idx] at h
  | cons c r ih =>
    simp only [idx] at h
    split at h
    · omega
    · cases j with
      | zero => simp; omega
      | succ j => rw [List.getD_cons_succ]; exact ih (by omega)
theorem idx_at {l : List Nat} (h : idx l < l.length) : l.getD (idx l) 0 < 128 := by
  induction l with
  | nil => simp at h
  | cons c r ih =>
    simp only [idx, List.length_cons] at h ⊢
    split
    · simpa
    · rename_i h1; rw [if_neg h1] at h; rw [List.getD_cons_succ]; exact ih (by omega)
theorem idx_eq {l : List Nat} {k : Nat} (h : ∀ j, j < k → 128 ≤ l.getD j 0) (hk : k < l.length) (hc : l.getD k 0 < 128) : idx l = k := by
  rcases Nat.lt_trichotomy (idx l) k with h1 | h1 | h1
  · have := h _ h1
    have := idx_at (l := l) (by omega)
    omega
  · exact h1
  · have := idx_lt h1; omega
theorem idx_all {l : List Nat} (h : ∀ j, j < l.length → 128 ≤ l.getD j 0) : idx l = l.length := by
  rcases Nat.lt_or_ge (idx l) l.length with h1 | h1
  · have := h _ h1
    have := idx_at h1
    omega
  · have := idx_le l; omega
/-- what Decode answers: number, length, error -/
def dec (l : List Nat) : Nat × Nat × Nat :=
  if 10 ≤ idx l then (0, 0, 22)
  else if idx l = l.length then (0, 0, 21)
  else if idx l = 9 ∧ 1 < l.getD 9 0 then (0, 0, 22)
  else if 0 < idx l ∧ l.getD (idx l) 0 = 0 then (0, 0, 23)
  else (num (l.take (idx l + 1)), idx l + 1, 0)
theorem num_pos {l : List Nat} (h : idx l < l.length) (hc : l.getD (idx l) 0 ≠ 0) : 0 < num (l.take (idx l + 1)) := by
  induction l with
  | nil => simp at h
  | cons c r ih =>
    simp only [idx, List.length_cons] at h hc ⊢
    by_cases h1 : c < 128
    · rw [if_pos h1] at hc ⊢
      simp [num] at hc ⊢; omega
    · rw [if_neg h1] at h hc ⊢
      rw [List.getD_cons_succ] at hc
      have := ih (by omega) hc
      rw [List.take_succ_cons, num]; omega
theorem vrt_num {l : List Nat} (hb : Byt l) (h : idx l < l.length) (hc : idx l = 0 ∨ l.getD (idx l) 0 ≠ 0) : vrt (num (l.take (idx l + 1))) = l.take (idx l + 1) := by
  induction l with
  | nil => simp at h
  | cons c r ih =>
    simp only [idx, List.length_cons] at h hc ⊢
    by_cases h1 : c < 128
    · rw [if_pos h1]
      simp only [Nat.zero_add, List.take_succ_cons, List.take_zero, num, Nat.mul_zero, Nat.add_zero]
      rw [Nat.mod_eq_of_lt h1, vrt_small h1]
    · rw [if_neg h1] at h hc ⊢
      have hc' : r.getD (idx r) 0 ≠ 0 := by
        rcases hc with hc | hc
        · omega
        · rwa [List.getD_cons_succ] at hc
      have hp := num_pos (l := r) (by omega) hc'
      have hcb := hb c (List.mem_cons_self)
      have := ih (fun x hx => hb x (List.mem_cons_of_mem _ hx)) (by omega) (.inr hc')
      rw [List.take_succ_cons, num, vrt_big (by omega)]
      rw [show (c % 128 + 128 * num (List.take (idx r + 1) r)) / 128 = num (List.take (idx r + 1) r) by omega, this]
      rw [show (c % 128 + 128 * num (List.take (idx r + 1) r)) % 128 + 128 = c by omega]
theorem vrt_at (n j : Nat) (h : j + 1 < (vrt n).length) : 128 ≤ (vrt n).getD j 0 := by
  induction n using Nat.strongRecOn generalizing j with
  | _ n ih =>
    by_cases h1 : n < 128
    · rw [vrt_small h1] at h; simp at h
    · rw [vrt_big (by omega)] at h ⊢
      cases j with
      | zero => simp
      | succ j => rw [List.getD_cons_succ]; exact ih (n / 128) (by omega) j (by simpa using h)
theorem vrt_last (n : Nat) : (vrt n).getD ((vrt n).length - 1) 0 = n / 128 ^ ((vrt n).length - 1) := by
  induction n using Nat.strongRecOn with
  | _ n ih =>
    by_cases h1 : n < 128
    · rw [vrt_small h1]; simp
    · have hl := vrt_len (n / 128)
      rw [vrt_big (by omega)]
      rw [List.length_cons, Nat.add_sub_cancel]
      obtain ⟨k, hk⟩ : ∃ k, (vrt (n / 128)).length = k + 1 := ⟨_, (Nat.sub_add_cancel hl).symm⟩
      have := ih (n / 128) (by omega)
      rw [hk, Nat.add_sub_cancel] at this
      rw [hk, List.getD_cons_succ, this, pw, Nat.div_div_eq_div_mul]
theorem vrt_lo (n : Nat) (h : 1 < (vrt n).length) : 128 ^ ((vrt n).length - 1) ≤ n := by
  induction n using Nat.strongRecOn with
  | _ n ih =>
    by_cases h1 : n < 128
    · rw [vrt_small h1] at h; simp at h
    · have hl := vrt_len (n / 128)
      rw [vrt_big (by omega), List.length_cons, Nat.add_sub_cancel]
      obtain ⟨k, hk⟩ : ∃ k, (vrt (n / 128)).length = k + 1 := ⟨_, (Nat.sub_add_cancel hl).symm⟩
      have := ih (n / 128) (by omega)
      rw [hk, Nat.add_sub_cancel] at this
      rw [hk, pw]
      rcases Nat.eq_zero_or_pos k with h0 | h0
      · subst h0; simp; omega
      · have := this (by omega)
        calc 128 * 128 ^ k ≤ 128 * (n / 128) := Nat.mul_le_mul_left _ this
          _ ≤ n := by omega
theorem vrt_hi (n : Nat) : n < 128 ^ (vrt n).length := by
  have := num_lt (vrt n)
  rwa [num_vrt] at this
theorem vrt_le {n k : Nat} (h : n < 128 ^ k) (hk : 1 ≤ k) : (vrt n).length ≤ k := by
  rcases Nat.lt_or_ge k (vrt n).length with h1 | h1
  · have := vrt_lo n (by omega)
    have : 128 ^ k ≤ 128 ^ ((vrt n).length - 1) := Nat.pow_le_pow_right (by omega) (by omega)
    omega
  · exact h1
theorem vrt_ten {n : Nat} (h : n < 18446744073709551616) : (vrt n).length ≤ 10 := vrt_le (Nat.lt_of_lt_of_le h (by decide)) (by omega)
theorem getD_app_left {a b : List Nat} {j : Nat} (h : j < a.length) : (a ++ b).getD j 0 = a.getD j 0 := by
  rw [List.getD_eq_getElem?_getD, List.getD_eq_getElem?_getD, List.getElem?_append_left h]
theorem idx_vrt (n : Nat) (r : List Nat) : idx (vrt n ++ r) + 1 = (vrt n).length := by
  have hl := vrt_len n
  have : idx (vrt n ++ r) = (vrt n).length - 1 := by
    refine idx_eq (fun j hj => ?_) (by rw [List.length_append]; omega) ?_
    · rw [getD_app_left (by omega)]; exact vrt_at n j (by omega)
    · rw [getD_app_left (by omega), vrt_last]
      have := vrt_hi n
      rw [Nat.div_lt_iff_lt_mul (pw_pos _), ← pw, Nat.sub_add_cancel hl]
      exact this
  omega
/-- what is encoded is decoded, whatever stands behind -/
theorem dec_vrt {n : Nat} (h : n < 18446744073709551616) (r : List Nat) : dec (vrt n ++ r) = (n, (vrt n).length, 0) := by
  have hi := idx_vrt n r
  have hl := vrt_ten h
  have hla := vrt_last n
  have hlo := vrt_lo n
  have e : (vrt n ++ r).getD (idx (vrt n ++ r)) 0 = n / 128 ^ ((vrt n).length - 1) := by
    rw [getD_app_left (by omega), show idx (vrt n ++ r) = (vrt n).length - 1 by omega, hla]
  unfold dec
  rw [if_neg (by omega), if_neg (by rw [List.length_append]; omega), if_neg, if_neg]
  · rw [hi, List.take_left', num_vrt]; rfl
  · rintro ⟨h1, h2⟩
    rw [e] at h2
    have := hlo (by omega)
    have := Nat.div_pos this (pw_pos _)
    omega
  · rintro ⟨h1, h2⟩
    rw [h1] at e
    rw [e, show (vrt n).length - 1 = 9 by omega] at h2
    have : n / 128 ^ 9 < 2 := by rw [Nat.div_lt_iff_lt_mul (by decide)]; exact h
    omega
theorem dec_ok {l : List Nat} {n k : Nat} (hb : Byt l) (h : dec l = (n, k, 0)) : vrt n = l.take k ∧ 1 ≤ k ∧ k ≤ 10 ∧ k ≤ l.length ∧ n < 18446744073709551616 ∧ k = (vrt n).length := by
  have hle := idx_le l
  unfold dec at h
  split at h
  · simp at h
  · split at h
    · simp at h
    · split at h
      · simp at h
      · split at h
        · simp at h
        · rename_i h1 h2 h3 h4
          simp only [Prod.mk.injEq, and_true] at h
          obtain ⟨rfl, rfl⟩ := h
          have hv := vrt_num hb (by omega) (by omega)
          refine ⟨hv, by omega, by omega, by omega, ?_, by rw [hv, List.length_take]; omega⟩
          by_cases h9 : idx l = 9
          · rw [h9, take_succ_getD (by omega), num_append]
            have hx := num_lt (l.take 9)
            rw [List.length_take, show min 9 l.length = 9 by omega] at hx ⊢
            have : l.getD 9 0 ≤ 1 := by omega
            simp only [num, Nat.mul_zero, Nat.add_zero]
            rw [Nat.mod_eq_of_lt (by omega)]
            have e : (128 : Nat) ^ 9 = 9223372036854775808 := by decide
            rw [e] at hx ⊢
            omega
          · have hx := num_lt (l.take (idx l + 1))
            rw [List.length_take] at hx
            have : 128 ^ min (idx l + 1) l.length ≤ 128 ^ 9 := Nat.pow_le_pow_right (by omega) (by omega)
            have e : (128 : Nat) ^ 9 = 9223372036854775808 := by decide
            omega
theorem dec_cut {n : Nat} (h : n < 18446744073709551616) {j : Nat} (hj : j < (vrt n).length) : dec ((vrt n).take j) = (0, 0, 21) := by
  have hl := vrt_ten h
  have e : idx ((vrt n).take j) = ((vrt n).take j).length := by
    refine idx_all fun i hi => ?_
    rw [List.length_take] at hi
    have hij : i < j := by omega
    rw [List.getD_eq_getElem?_getD, List.getElem?_take_of_lt hij, ← List.getD_eq_getElem?_getD]
    exact vrt_at n i (by omega)
  have e2 : ((vrt n).take j).length = j := by rw [List.length_take]; omega
  unfold dec
  rw [if_neg (by omega), if_pos e]
theorem dec_err {l : List Nat} (h : (dec l).2.2 ≠ 0) : (dec l).1 = 0 ∧ (dec l).2.1 = 0 := by
  unfold dec at *
  by_cases h1 : 10 ≤ idx l
  · rw [if_pos h1]; simp
  · rw [if_neg h1] at h ⊢
    by_cases h2 : idx l = l.length
    · rw [if_pos h2]; simp
    · rw [if_neg h2] at h ⊢
      by_cases h3 : idx l = 9 ∧ 1 < l.getD 9 0
      · rw [if_pos h3]; simp
      · rw [if_neg h3] at h ⊢
        by_cases h4 : 0 < idx l ∧ l.getD (idx l) 0 = 0
        · rw [if_pos h4]; simp
        · rw [if_neg h4] at h; simp at h

theorem bl_aux (f x : Nat) (hx : x < 2 ^ f) : x < 2 ^ Lib.bitLenAux f x ∧ (x ≠ 0 → 2 ^ (Lib.bitLenAux f x - 1) ≤ x) ∧ (x ≠ 0 → 0 < Lib.bitLenAux f x) := by
  induction f generalizing x with
  | zero => simp [Lib.bitLenAux] at *; omega
  | succ f ih =>
    unfold Lib.bitLenAux
    split
    · subst_vars; simp
    · rename_i h0
      obtain ⟨h1, h2, h3⟩ := ih (x / 2) (by rw [Nat.pow_succ] at hx; omega)
      refine ⟨by rw [Nat.add_comm, Nat.pow_succ]; omega, fun _ => ?_, fun _ => by omega⟩
      rw [Nat.add_sub_cancel_left]
      by_cases h : x / 2 = 0
      · rw [h]
        cases f with
        | zero => simp [Lib.bitLenAux]; omega
        | succ f => simp [Lib.bitLenAux]; omega
      · have h4 := h2 h
        have h5 := h3 h
        obtain ⟨k, hk⟩ : ∃ k, Lib.bitLenAux f (x / 2) = k + 1 := ⟨_, (Nat.sub_add_cancel h5).symm⟩
        rw [hk] at h4 ⊢
        rw [Nat.add_sub_cancel] at h4
        rw [Nat.pow_succ]; omega
theorem bl_spec {x : Nat} (hx : x < 18446744073709551616) : x < 2 ^ Lib.bitLen x ∧ (x ≠ 0 → 2 ^ (Lib.bitLen x - 1) ≤ x) ∧ (x ≠ 0 → 0 < Lib.bitLen x) := bl_aux 64 x hx
theorem pow7 (k : Nat) : 128 ^ k = 2 ^ (7 * k) := by rw [show (128 : Nat) = 2 ^ 7 by decide, ← Nat.pow_mul]
theorem bl_le {x : Nat} (hx : x < 18446744073709551616) : Lib.bitLen x ≤ 64 := by
  obtain ⟨_, h2, _⟩ := bl_spec hx
  by_cases h : x = 0
  · subst h; decide
  · have := h2 h
    rcases Nat.lt_or_ge 64 (Lib.bitLen x) with h1 | h1
    · have : 2 ^ 64 ≤ 2 ^ (Lib.bitLen x - 1) := Nat.pow_le_pow_right (by omega) (by omega)
      have : (2 : Nat) ^ 64 = 18446744073709551616 := by decide
      omega
    · exact h1
theorem or_one (n : Nat) : n ||| 1 = n / 2 * 2 + 1 := by
  have h := Nat.div_add_mod (n ||| 1) 2
  have e1 : (n ||| 1) / 2 = n / 2 := by
    have := Nat.shiftRight_or_distrib (a := n) (b := 1) (i := 1)
    simp only [Nat.shiftRight_succ, Nat.shiftRight_zero] at this
    simpa using this
  have e2 : (n ||| 1) % 2 = 1 := by
    rw [Nat.or_mod_two_eq_one]; omega
  omega
/-- Size's count is the varint's length -/
theorem size_vrt {n : Nat} (h : n < 18446744073709551616) : (Lib.bitLen (n ||| 1) + 6) / 7 = (vrt n).length := by
  have hx : n ||| 1 < 18446744073709551616 := Nat.or_lt_two_pow (n := 64) h (by decide)
  have hne : n ||| 1 ≠ 0 := by rw [or_one]; omega
  obtain ⟨h1, h2, h3⟩ := bl_spec hx
  have h2 := h2 hne
  have h3 := h3 hne
  have hl := vrt_len n
  have hhi := vrt_hi n
  have hhi2 : n ||| 1 < 2 ^ (7 * (vrt n).length) := by
    rw [← pow7, or_one]
    have : 128 ^ (vrt n).length = 128 * 128 ^ ((vrt n).length - 1) := by rw [← pw, Nat.sub_add_cancel hl]
    omega
  have hlo : 2 ^ (7 * ((vrt n).length - 1)) ≤ n ||| 1 := by
    rw [← pow7, or_one]
    rcases Nat.lt_or_ge 1 (vrt n).length with h4 | h4
    · have := vrt_lo n h4; omega
    · rw [show (vrt n).length - 1 = 0 by omega]; simp
  have a1 : Lib.bitLen (n ||| 1) - 1 < 7 * (vrt n).length := by
    refine (Nat.pow_lt_pow_iff_right (a := 2) (by omega)).1 ?_
    omega
  have a2 : 7 * ((vrt n).length - 1) < Lib.bitLen (n ||| 1) := by
    refine (Nat.pow_lt_pow_iff_right (a := 2) (by omega)).1 ?_
    omega
  omega

/-- so many digits of a number, the highest first -/
def dg : Nat → Nat → List Nat
  | 0, _ => []
  | c + 1, n => n / 128 ^ c % 128 :: dg c n
theorem dg_len (c n : Nat) : (dg c n).length = c := by
  induction c with
  | zero => rfl
  | succ c ih => simp [dg, ih]
theorem dg_lt (c n : Nat) : ∀ x ∈ dg c n, x < 128 := by
  induction c with
  | zero => simp [dg]
  | succ c ih =>
    intro x hx
    rcases List.mem_cons.1 hx with rfl | hx
    · omega
    · exact ih x hx
theorem dg_byt (c n : Nat) : Byt (dg c n) := fun x hx => by have := dg_lt c n x hx; omega
def nm (l : List Nat) : Nat := l.foldl (fun a c => a * 128 + c) 0
theorem nm_snoc (l : List Nat) (c : Nat) : nm (l ++ [c]) = nm l * 128 + c := by simp [nm, List.foldl_append]
theorem nm_foldl (a : Nat) (l : List Nat) : l.foldl (fun a c => a * 128 + c) a = a * 128 ^ l.length + nm l := by
  induction l generalizing a with
  | nil => simp [nm]
  | cons x r ih =>
    simp only [List.foldl_cons, List.length_cons, nm]
    rw [ih, ih (0 * 128 + x), pw, Nat.zero_mul, Nat.zero_add, Nat.add_mul, Nat.mul_assoc, Nat.add_assoc]
theorem nm_cons (x : Nat) (r : List Nat) : nm (x :: r) = x * 128 ^ r.length + nm r := by
  rw [nm, List.foldl_cons, nm_foldl, Nat.zero_mul, Nat.zero_add]
theorem nm_dg (c n : Nat) : nm (dg c n) = n % 128 ^ c := by
  induction c with
  | zero => simp [dg, nm, Nat.mod_one]
  | succ c ih =>
    rw [dg, nm_cons, dg_len, ih, Nat.pow_succ, Nat.mod_mul, Nat.mul_comm, Nat.add_comm]
theorem nm_lt {l : List Nat} (h : ∀ x ∈ l, x < 128) : nm l < 128 ^ l.length := by
  induction l with
  | nil => simp [nm]
  | cons x r ih =>
    have h1 := h x List.mem_cons_self
    have h2 := ih fun y hy => h y (List.mem_cons_of_mem _ hy)
    rw [nm_cons, List.length_cons, pw]
    have : x * 128 ^ r.length ≤ 127 * 128 ^ r.length := Nat.mul_le_mul_right _ (by omega)
    omega
theorem dg_nm {l : List Nat} (h : ∀ x ∈ l, x < 128) : dg l.length (nm l) = l := by
  have key : ∀ (l : List Nat), (∀ x ∈ l, x < 128) → ∀ a, dg l.length (a * 128 ^ l.length + nm l) = l := by
    intro l
    induction l with
    | nil => intro _ _; rfl
    | cons x r ih =>
      intro h a
      have h1 := h x List.mem_cons_self
      have h2 := nm_lt fun y hy => h y (List.mem_cons_of_mem _ hy)
      have hr := fun y hy => h y (List.mem_cons_of_mem _ hy)
      rw [List.length_cons, dg, nm_cons, pw]
      have e : a * (128 * 128 ^ r.length) + (x * 128 ^ r.length + nm r) = (a * 128 + x) * 128 ^ r.length + nm r := by
        rw [Nat.add_mul, Nat.mul_assoc, Nat.add_assoc]
      rw [e, ih hr (a * 128 + x)]
      rw [Nat.add_comm ((a * 128 + x) * 128 ^ r.length), Nat.add_mul_div_right _ _ (pw_pos _), Nat.div_eq_of_lt h2]
      congr 1
      omega
  have := key l h 0
  rwa [Nat.zero_mul, Nat.zero_add] at this
theorem bl_digits {n c : Nat} (h : n < 18446744073709551616) : 7 * c < Lib.bitLen n ↔ 128 ^ c ≤ n := by
  obtain ⟨h1, h2, h3⟩ := bl_spec h
  rw [pow7]
  constructor
  · intro h4
    have hn : n ≠ 0 := by intro e; subst e; simp [Lib.bitLen, Lib.bitLenAux] at h4
    have := h2 hn
    have : 2 ^ (7 * c) ≤ 2 ^ (Lib.bitLen n - 1) := Nat.pow_le_pow_right (by omega) (by omega)
    omega
  · intro h4
    refine (Nat.pow_lt_pow_iff_right (a := 2) (by omega)).1 ?_
    omega
theorem dg_at (c n i : Nat) (h : i < c) : (dg c n).getD i 0 = n / 128 ^ (c - 1 - i) % 128 := by
  induction c generalizing i with
  | zero => omega
  | succ c ih =>
    rw [dg]
    cases i with
    | zero => simp
    | succ i => rw [List.getD_cons_succ, ih i (by omega)]; congr 3; omega
/-- digits tell the order of their numbers at the first place where they differ -/
theorem dg_order {c n m i : Nat} (hn : n < 128 ^ c) (hm : m < 128 ^ c) (hi : i < c) (he : ∀ j, j < i → (dg c n).getD j 0 = (dg c m).getD j 0) (hd : (dg c n).getD i 0 ≠ (dg c m).getD i 0) :
    ((dg c n).getD i 0 < (dg c m).getD i 0 ↔ n < m) := by
  have key : ∀ k, k ≤ i → n / 128 ^ (c - k) = m / 128 ^ (c - k) := by
    intro k
    induction k with
    | zero => intro _; rw [Nat.sub_zero, Nat.div_eq_of_lt hn, Nat.div_eq_of_lt hm]
    | succ k ih =>
      intro hk
      have h1 := ih (by omega)
      have h2 := he k (by omega)
      rw [dg_at c n k (by omega), dg_at c m k (by omega)] at h2
      rw [show c - k = (c - 1 - k) + 1 by omega, Nat.pow_succ, ← Nat.div_div_eq_div_mul, ← Nat.div_div_eq_div_mul] at h1
      rw [show c - (k + 1) = c - 1 - k by omega]
      omega
  have h1 := key i (Nat.le_refl _)
  rw [dg_at c n i hi, dg_at c m i hi] at hd ⊢
  rw [show c - i = (c - 1 - i) + 1 by omega, Nat.pow_succ, ← Nat.div_div_eq_div_mul, ← Nat.div_div_eq_div_mul] at h1
  constructor
  · intro h
    rcases Nat.lt_or_ge n m with h2 | h2
    · exact h2
    · have := Nat.div_le_div_right (c := 128 ^ (c - 1 - i)) h2
      omega
  · intro h
    have := Nat.div_le_div_right (c := 128 ^ (c - 1 - i)) (Nat.le_of_lt h)
    omega
theorem dg_inj {c n m : Nat} (hn : n < 128 ^ c) (hm : m < 128 ^ c) (h : dg c n = dg c m) : n = m := by
  have h1 := nm_dg c n
  rw [h, nm_dg, Nat.mod_eq_of_lt hn, Nat.mod_eq_of_lt hm] at h1
  exact h1.symm
end Vt
end Go.Proofs.Ytifjjoobbegpoaa
namespace Go.Proofs.Ytifjjoobbegpoaa
namespace Vt
def e1 (c : Nat) : List Nat := if c = 167 then [166, 1] else if c = 166 then [166, 0] else [c]
def wr : List Nat → List Nat
  | [] => []
  | c :: r => e1 c ++ wr r
theorem e1_lead : e1 167 = [166, 1] := rfl
theorem e1_esc : e1 166 = [166, 0] := rfl
theorem e1_any {c : Nat} (h : c ≠ 167) (h2 : c ≠ 166) : e1 c = [c] := by unfold e1; rw [if_neg h, if_neg h2]
theorem wr_append (a b : List Nat) : wr (a ++ b) = wr a ++ wr b := by
  induction a with
  | nil => rfl
  | cons c r ih => rw [List.cons_append, wr, wr, ih, List.append_assoc]
theorem wr_one (c : Nat) : wr [c] = e1 c := by simp [wr]
theorem wr_succ {l : List Nat} {k : Nat} (h : k < l.length) : wr (l.take (k + 1)) = wr (l.take k) ++ e1 (l.getD k 0) := by
  rw [take_succ_getD h, wr_append, wr_one]
theorem e1_len (c : Nat) : 1 ≤ (e1 c).length ∧ (e1 c).length ≤ 2 := by
  unfold e1
  split
  · simp
  · split <;> simp
theorem wr_len (l : List Nat) : l.length ≤ (wr l).length ∧ (wr l).length ≤ 2 * l.length := by
  induction l with
  | nil => simp [wr]
  | cons c r ih =>
    have := e1_len c
    rw [wr, List.length_append, List.length_cons]; omega
theorem e1_byt {c : Nat} (h : c < 256) : Byt (e1 c) := by
  unfold e1
  split
  · intro x hx; simp at hx; omega
  · split
    · intro x hx; simp at hx; omega
    · intro x hx; simp at hx; omega
theorem wr_byt {l : List Nat} (h : Byt l) : Byt (wr l) := by
  induction l with
  | nil => exact byt_nil
  | cons c r ih => rw [wr]; exact byt_app (e1_byt (h c List.mem_cons_self)) (ih fun x hx => h x (List.mem_cons_of_mem _ hx))
theorem e1_no (c : Nat) : ∀ x ∈ e1 c, x ≠ 167 := by
  unfold e1
  split
  · intro x hx; simp at hx; omega
  · split
    · intro x hx; simp at hx; omega
    · intro x hx; simp at hx; omega
theorem wr_no (l : List Nat) : ∀ x ∈ wr l, x ≠ 167 := by
  induction l with
  | nil => intro x hx; simp [wr] at hx
  | cons c r ih =>
    intro x hx
    rw [wr] at hx
    rcases List.mem_append.1 hx with hx | hx
    · exact e1_no c x hx
    · exact ih x hx
theorem wr_no_at {l : List Nat} {k : Nat} (h : k < (wr l).length) : (wr l).getD k 0 ≠ 167 := by
  apply wr_no l
  rw [List.getD_eq_getElem?_getD, List.getElem?_eq_getElem h]
  exact List.getElem_mem h
/-- the plain byte at the front, how many bytes it takes, what is wrong -/
def fs (l : List Nat) : Nat × Nat × Nat :=
  if l.getD 0 0 = 167 then (0, 0, 31) else if l.getD 0 0 ≠ 166 then (l.getD 0 0, 1, 0) else if l.length = 1 then (0, 0, 32)
  else if l.getD 1 0 = 0 then (166, 2, 0) else if l.getD 1 0 = 1 then (167, 2, 0) else (0, 0, 32)
/-- what is told: the places from at_ on -/
def told : Nat → Nat → List Nat → List (Nat × Nat)
  | 0, _, _ => []
  | f + 1, at_, l => if l = [] then [] else if (fs l).2.2 = 0 then (at_, (fs l).1) :: told f (at_ + (fs l).2.1) (l.drop (fs l).2.1) else []
/-- what is wrong, and where -/
def bad : Nat → Nat → List Nat → Nat × Nat
  | 0, _, _ => (0, 0)
  | f + 1, at_, l => if l = [] then (0, 0) else if (fs l).2.2 = 0 then bad f (at_ + (fs l).2.1) (l.drop (fs l).2.1) else ((fs l).2.2, at_)
theorem fs_front (c : Nat) (r : List Nat) : fs (e1 c ++ r) = (c, (e1 c).length, 0) := by
  by_cases h : c = 167
  · subst h; simp [e1, fs]
  · by_cases h2 : c = 166
    · subst h2; simp [e1, fs]
    · rw [e1_any h h2]; simp [fs, h, h2]
theorem fs_ok {l : List Nat} (hne : l ≠ []) (h : (fs l).2.2 = 0) : l = e1 (fs l).1 ++ l.drop (fs l).2.1 ∧ (fs l).2.1 = (e1 (fs l).1).length := by
  match l, hne with
  | [c], _ =>
    unfold fs at *
    by_cases h1 : c = 167
    · simp [h1] at h
    · by_cases h2 : c = 166
      · simp [h2] at h
      · simp [h1, h2, e1_any h1 h2]
  | c :: d :: r, _ =>
    unfold fs at *
    by_cases h1 : c = 167
    · simp [h1] at h
    · by_cases h2 : c = 166
      · by_cases h3 : d = 0
        · simp [h2, h3, e1]
        · by_cases h4 : d = 1
          · simp [h2, h4, e1]
          · simp [h2, h3, h4] at h
      · simp [h1, h2, e1_any h1 h2]
theorem fs_len {l : List Nat} (hne : l ≠ []) (h : (fs l).2.2 = 0) : 1 ≤ (fs l).2.1 ∧ (fs l).2.1 ≤ l.length ∧ (fs l).2.1 ≤ 2 := by
  have h1 := fs_ok hne h
  have h2 := e1_len (fs l).1
  have h3 := congrArg List.length h1.1
  rw [List.length_append] at h3
  omega
theorem fs_byt {l : List Nat} (hb : Byt l) : (fs l).1 < 256 := by
  have := getD_lt hb 0
  unfold fs
  repeat' split
  all_goals (simp only; omega)
theorem fs_err (l : List Nat) : (fs l).2.2 = 0 ∨ (fs l).2.2 = 31 ∧ l.getD 0 0 = 167 ∨ (fs l).2.2 = 32 ∧ l.getD 0 0 = 166 := by
  unfold fs
  by_cases h1 : l.getD 0 0 = 167
  · rw [if_pos h1]; exact .inr (.inl ⟨rfl, h1⟩)
  · rw [if_neg h1]
    by_cases h2 : l.getD 0 0 = 166
    · rw [if_neg (by simpa using h2)]
      repeat' split
      all_goals first | exact .inl rfl | exact .inr (.inr ⟨rfl, h2⟩)
    · rw [if_pos h2]; simp
theorem fs_bad {l : List Nat} (h : (fs l).2.2 ≠ 0) : (fs l).1 = 0 ∧ (fs l).2.1 = 0 := by
  unfold fs at *
  repeat' split at h
  all_goals first | (exact absurd rfl h) | skip
  all_goals simp_all
def toldB (at_ : Nat) (l : List Nat) : List (Nat × Nat) := told l.length at_ l
def badB (at_ : Nat) (l : List Nat) : Nat × Nat := bad l.length at_ l
theorem told_fuel (f : Nat) : ∀ (g at_ : Nat) (l : List Nat), l.length ≤ f → l.length ≤ g → told f at_ l = told g at_ l ∧ bad f at_ l = bad g at_ l := by
  induction f with
  | zero =>
    intro g at_ l h1 h2
    obtain rfl : l = [] := List.length_eq_zero_iff.1 (by omega)
    cases g with
    | zero => exact ⟨rfl, rfl⟩
    | succ g => simp [told, bad]
  | succ f ih =>
    intro g at_ l h1 h2
    cases g with
    | zero =>
      obtain rfl : l = [] := List.length_eq_zero_iff.1 (by omega)
      simp [told, bad]
    | succ g =>
      unfold told bad
      by_cases h : l = []
      · simp [h]
      · rw [if_neg h, if_neg h, if_neg h, if_neg h]
        by_cases he : (fs l).2.2 = 0
        · have := fs_len h he
          have hh := ih g (at_ + (fs l).2.1) (l.drop (fs l).2.1) (by rw [List.length_drop]; omega) (by rw [List.length_drop]; omega)
          rw [if_pos he, if_pos he, if_pos he, if_pos he, hh.1, hh.2]; exact ⟨rfl, rfl⟩
        · rw [if_neg he, if_neg he, if_neg he, if_neg he]; exact ⟨rfl, rfl⟩
theorem toldB_nil (at_ : Nat) : toldB at_ [] = [] := rfl
theorem badB_nil (at_ : Nat) : badB at_ [] = (0, 0) := rfl
theorem toldB_ok {at_ : Nat} {l : List Nat} (h : l ≠ []) (he : (fs l).2.2 = 0) : toldB at_ l = (at_, (fs l).1) :: toldB (at_ + (fs l).2.1) (l.drop (fs l).2.1) := by
  have hd := fs_len h he
  obtain ⟨m, hm⟩ : ∃ m, l.length = m + 1 := ⟨l.length - 1, by omega⟩
  unfold toldB
  rw [hm, told, if_neg h, if_pos he, (told_fuel m _ _ _ (by rw [List.length_drop]; omega) (Nat.le_refl _)).1]
theorem badB_ok {at_ : Nat} {l : List Nat} (h : l ≠ []) (he : (fs l).2.2 = 0) : badB at_ l = badB (at_ + (fs l).2.1) (l.drop (fs l).2.1) := by
  have hd := fs_len h he
  obtain ⟨m, hm⟩ : ∃ m, l.length = m + 1 := ⟨l.length - 1, by omega⟩
  unfold badB
  rw [hm, bad, if_neg h, if_pos he, (told_fuel m _ _ _ (by rw [List.length_drop]; omega) (Nat.le_refl _)).2]
theorem toldB_err {at_ : Nat} {l : List Nat} (he : (fs l).2.2 ≠ 0) : toldB at_ l = [] := by
  unfold toldB
  cases l with
  | nil => rfl
  | cons x r => rw [List.length_cons, told, if_neg (by simp), if_neg he]
theorem badB_err {at_ : Nat} {l : List Nat} (h : l ≠ []) (he : (fs l).2.2 ≠ 0) : badB at_ l = ((fs l).2.2, at_) := by
  unfold badB
  cases l with
  | nil => exact absurd rfl h
  | cons x r => rw [List.length_cons, bad, if_neg (by simp), if_neg he]
/-- plain bytes with the places of what they are written as -/
def pl : Nat → List Nat → List (Nat × Nat)
  | _, [] => []
  | p, c :: r => (p, c) :: pl (p + (e1 c).length) r
theorem e1_ne (c : Nat) (r : List Nat) : e1 c ++ r ≠ [] := by
  have := e1_len c
  intro e
  have := congrArg List.length e
  rw [List.length_append, List.length_nil] at this
  omega
theorem both_wr (p r : List Nat) : ∀ at_, toldB at_ (wr p ++ r) = pl at_ p ++ toldB (at_ + (wr p).length) r ∧ badB at_ (wr p ++ r) = badB (at_ + (wr p).length) r := by
  induction p with
  | nil => intro at_; exact ⟨rfl, rfl⟩
  | cons c q ih =>
    intro at_
    have hf := fs_front c (wr q ++ r)
    have hne := e1_ne c (wr q ++ r)
    rw [wr, List.append_assoc, toldB_ok hne (by rw [hf]), badB_ok hne (by rw [hf]), hf]
    simp only
    rw [List.drop_left' rfl, (ih _).1, (ih _).2, pl, List.length_append, Nat.add_assoc]
    exact ⟨rfl, rfl⟩
theorem toldB_wr (p : List Nat) (at_ : Nat) : toldB at_ (wr p) = pl at_ p := by
  have := (both_wr p [] at_).1
  rwa [List.append_nil, toldB_nil, List.append_nil] at this
theorem badB_wr (p : List Nat) (at_ : Nat) : badB at_ (wr p) = (0, 0) := by
  have := (both_wr p [] at_).2
  rwa [List.append_nil, badB_nil] at this
theorem pl_len (at_ : Nat) (p : List Nat) : (pl at_ p).length = p.length := by
  induction p generalizing at_ with
  | nil => rfl
  | cons c r ih => simp [pl, ih]
theorem pl_snd (at_ : Nat) (p : List Nat) : (pl at_ p).map Prod.snd = p := by
  induction p generalizing at_ with
  | nil => rfl
  | cons c r ih => simp [pl, ih]
theorem pl_at (p : Nat) (l : List Nat) (k : Nat) (hk : k < l.length) : (pl p l)[k]? = some (p + (wr (l.take k)).length, l.getD k 0) := by
  induction l generalizing p k with
  | nil => simp at hk
  | cons x r ih =>
    cases k with
    | zero => simp [pl, wr]
    | succ k =>
      rw [pl, List.getElem?_cons_succ, ih _ k (by simpa using hk), List.take_succ_cons, wr, List.length_append, List.getD_cons_succ, Nat.add_assoc]
/-- whatever bytes: escaped ones, and behind them nothing, or what cannot stand -/
theorem parts (n : Nat) : ∀ l : List Nat, l.length ≤ n → ∃ p r, l = wr p ++ r ∧ (r = [] ∨ r ≠ [] ∧ (fs r).2.2 ≠ 0) := by
  induction n with
  | zero => intro l h; exact ⟨[], [], List.length_eq_zero_iff.1 (by omega), .inl rfl⟩
  | succ n ih =>
    intro l h
    by_cases h0 : l = []
    · exact ⟨[], [], h0, .inl rfl⟩
    · by_cases he : (fs l).2.2 = 0
      · have h1 := fs_len h0 he
        have h2 := fs_ok h0 he
        obtain ⟨p, r, e, hr⟩ := ih (l.drop (fs l).2.1) (by rw [List.length_drop]; omega)
        refine ⟨(fs l).1 :: p, r, ?_, hr⟩
        rw [wr, List.append_assoc, ← e]; exact h2.1
      · exact ⟨[], l, rfl, .inr ⟨h0, he⟩⟩
theorem part (l : List Nat) : ∃ p r, l = wr p ++ r ∧ (r = [] ∨ r ≠ [] ∧ (fs r).2.2 ≠ 0) := parts _ l (Nat.le_refl _)
theorem part_byt {p r l : List Nat} (h : l = wr p ++ r) (hb : Byt l) : Byt p := by
  induction p generalizing l with
  | nil => exact byt_nil
  | cons c q ih =>
    intro x hx
    rw [wr, List.append_assoc] at h
    rcases List.mem_cons.1 hx with rfl | hx
    · have h1 := e1_len x
      by_cases h2 : x = 167
      · omega
      · by_cases h3 : x = 166
        · omega
        · rw [e1_any h2 h3] at h; exact hb x (by rw [h]; simp)
    · exact ih (l := wr q ++ r) rfl (fun y hy => hb y (by rw [h]; exact List.mem_append_right _ hy)) x hx
/-- .. what is told of such bytes -/
theorem part_fine {p : List Nat} : toldB 0 (wr p ++ []) = pl 0 p ∧ badB 0 (wr p ++ []) = (0, 0) := by
  rw [List.append_nil]; exact ⟨toldB_wr p 0, badB_wr p 0⟩
theorem part_bad {p r : List Nat} (h : r ≠ []) (he : (fs r).2.2 ≠ 0) : toldB 0 (wr p ++ r) = pl 0 p ∧ badB 0 (wr p ++ r) = ((fs r).2.2, (wr p).length) := by
  have := both_wr p r 0
  rw [toldB_err he, badB_err h he, List.append_nil, Nat.zero_add] at this
  exact this
theorem toldB_len (at_ : Nat) (l : List Nat) : (toldB at_ l).length ≤ l.length := by
  have key : ∀ f at_ l, (told f at_ l).length ≤ f := by
    intro f
    induction f with
    | zero => intro at_ l; simp [told]
    | succ f ih =>
      intro at_ l
      unfold told
      split
      · simp
      · split
        · rw [List.length_cons]; have := ih (at_ + (fs l).2.1) (l.drop (fs l).2.1); omega
        · simp
  exact key _ _ _
/-- the plain bytes of escaped ones -/
def plain (l : List Nat) : List Nat := (toldB 0 l).map Prod.snd
theorem plain_len (l : List Nat) : (plain l).length ≤ l.length := by
  unfold plain; rw [List.length_map]; exact toldB_len 0 l
theorem plain_byt {l : List Nat} (hb : Byt l) : Byt (plain l) := by
  obtain ⟨p, r, e, h⟩ := part l
  have hp := part_byt e hb
  subst e
  unfold plain
  rcases h with rfl | ⟨h1, h2⟩
  · rw [part_fine.1, pl_snd]; exact hp
  · rw [(part_bad h1 h2).1, pl_snd]; exact hp
theorem plain_wr (p : List Nat) : plain (wr p) = p := by unfold plain; rw [toldB_wr, pl_snd]
/-- what is opened comes, wrapped, to what was opened -/
theorem only {l : List Nat} (h : (badB 0 l).1 = 0) : wr (plain l) = l := by
  obtain ⟨p, r, e, hr⟩ := part l
  subst e
  rcases hr with rfl | ⟨h1, h2⟩
  · rw [List.append_nil, plain_wr]
  · rw [(part_bad h1 h2).2] at h; exact absurd h h2
theorem badB_place {l : List Nat} (h : (badB 0 l).1 ≠ 0) : (badB 0 l).2 < l.length ∧ ((badB 0 l).1 = 31 ∧ l.getD (badB 0 l).2 0 = 167 ∨ (badB 0 l).1 = 32 ∧ l.getD (badB 0 l).2 0 = 166) := by
  obtain ⟨p, r, e, hr⟩ := part l
  subst e
  rcases hr with rfl | ⟨h1, h2⟩
  · rw [part_fine.2] at h; exact absurd rfl h
  · rw [(part_bad h1 h2).2]
    simp only
    have hpos : 0 < r.length := List.length_pos_iff.2 h1
    refine ⟨by rw [List.length_append]; omega, ?_⟩
    have hg : (wr p ++ r).getD (wr p).length 0 = r.getD 0 0 := by
      rw [List.getD_eq_getElem?_getD, List.getElem?_append_right (Nat.le_refl _), Nat.sub_self, List.getD_eq_getElem?_getD]
    rw [hg]
    rcases fs_err r with h3 | h3 | h3
    · exact absurd h3 h2
    · exact .inl h3
    · exact .inr h3
theorem badB_zero {l : List Nat} (h : (badB 0 l).1 = 0) : badB 0 l = (0, 0) := by
  obtain ⟨p, r, e, hr⟩ := part l
  subst e
  rcases hr with rfl | ⟨h1, h2⟩
  · exact part_fine.2
  · rw [(part_bad h1 h2).2] at h; exact absurd h h2
end Vt
end Go.Proofs.Ytifjjoobbegpoaa
namespace Go.Proofs.Ytifjjoobbegpoaa
namespace Vt
/-- bytes as a string -/
def str (l : List Nat) : ByteArray := (l.map fun x => ((x : Nat) : Int)).foldl (fun r n => r.push (UInt8.ofNat n.toNat)) ByteArray.empty
theorem str_data (l : List Nat) : (str l).data = (l.map UInt8.ofNat).toArray := by
  have key : ∀ (l : List Nat) (r : ByteArray), ((l.map fun x => ((x : Nat) : Int)).foldl (fun r n => r.push (UInt8.ofNat n.toNat)) r).data = r.data ++ (l.map UInt8.ofNat).toArray := by
    intro l
    induction l with
    | nil => intro r; simp
    | cons x q ih =>
      intro r
      simp only [List.map_cons, List.foldl_cons, Int.toNat_natCast]
      rw [ih]
      simp [ByteArray.push]
  have := key l ByteArray.empty
  unfold str
  rw [this]; simp
/-- a string's bytes -/
def bl (s : ByteArray) : List Nat := s.data.toList.map UInt8.toNat
theorem bl_len (s : ByteArray) : (bl s).length = s.size := by unfold bl; rw [List.length_map, Array.length_toList]; rfl
theorem bl_byt (s : ByteArray) : Byt (bl s) := by
  intro x hx
  unfold bl at hx
  obtain ⟨y, _, rfl⟩ := List.mem_map.1 hx
  exact y.toNat_lt
theorem bl_str {l : List Nat} (h : Byt l) : bl (str l) = l := by
  unfold bl
  rw [str_data, List.map_map]
  induction l with
  | nil => rfl
  | cons x q ih =>
    have hx := h x List.mem_cons_self
    rw [List.map_cons, ih fun z hz => h z (List.mem_cons_of_mem _ hz)]
    congr 1
    simp only [Function.comp, UInt8.toNat_ofNat']
    omega
theorem str_bl (s : ByteArray) : str (bl s) = s := by
  refine ByteArray.ext ?_
  rw [str_data]
  unfold bl
  rw [List.map_map, show (UInt8.ofNat ∘ UInt8.toNat) = id by funext y; simp]
  simp
theorem bl_inj {s t : ByteArray} (h : bl s = bl t) : s = t := by rw [← str_bl s, h, str_bl]
theorem str_size {l : List Nat} (h : Byt l) : (str l).size = l.length := by rw [← bl_len, bl_str h]
theorem str_inj {la lb : List Nat} (ha : Byt la) (hb : Byt lb) : str la = str lb ↔ la = lb := by
  constructor
  · intro h
    have h2 := congrArg ByteArray.data h
    rw [str_data, str_data] at h2
    have h3 : la.map UInt8.ofNat = lb.map UInt8.ofNat := by simpa using h2
    clear h h2
    induction la generalizing lb with
    | nil => cases lb with
      | nil => rfl
      | cons y r => simp at h3
    | cons x q ih =>
      cases lb with
      | nil => simp at h3
      | cons y r =>
        simp only [List.map_cons, List.cons.injEq] at h3
        have hx := ha x List.mem_cons_self
        have hy := hb y List.mem_cons_self
        have e := congrArg UInt8.toNat h3.1
        simp only [UInt8.toNat_ofNat'] at e
        rw [ih (fun z hz => ha z (List.mem_cons_of_mem _ hz)) (fun z hz => hb z (List.mem_cons_of_mem _ hz)) h3.2]
        congr 1
        omega
  · intro h; rw [h]
end Vt
end Go.Proofs.Ytifjjoobbegpoaa
namespace Go.Proofs.Ytifjjoobbegpoaa
namespace Vt
structure Rec where
  lsn : Nat
  kind : Int
  key : ByteArray
  val : ByteArray
structure Ptr where
  lsn : Nat
  kind : Int
  at_ : Int
  len : Int
  key : ByteArray
structure Edg where
  count : Int
  bytes : Int
  frames : Int
  sum : Nat
structure Fr where
  kind : Int
  r : Rec
  p : Ptr
  e : Edg
def zr : Rec := ⟨0, 0, ByteArray.empty, ByteArray.empty⟩
def zp : Ptr := ⟨0, 0, 0, 0, ByteArray.empty⟩
def ze : Edg := ⟨0, 0, 0, 0⟩
def zf : Fr := ⟨0, zr, zp, ze⟩
/-- as the types have it -/
def Fr.Wf (f : Fr) : Prop := f.r.lsn < 18446744073709551616 ∧ f.p.lsn < 18446744073709551616 ∧ f.e.sum < 4294967296
def ofR (r : Rec) : Fr := ⟨r.kind, r, zp, ze⟩
def mayKey (s : ByteArray) : Prop := 1 ≤ s.size ∧ s.size ≤ 64
def onD (n : Int) : Prop := 0 ≤ n ∧ n ≤ 4194304
open Classical in
noncomputable def rfR (f : Fr) : Nat := if f.r.kind ≠ f.kind then 46 else if f.r.lsn = 0 then 47 else if ¬ mayKey f.r.key then 48 else if (if f.r.kind = 2 then 0 else 2048) < f.r.val.size then 49 else if f ≠ ofR f.r then 40 else 0
open Classical in
noncomputable def rfP (f : Fr) : Nat := if f.p.kind ≠ 1 ∧ f.p.kind ≠ 2 then 46 else if f.p.lsn = 0 then 47 else if ¬ mayKey f.p.key then 48 else if ¬ onD f.p.at_ ∨ ¬ onD f.p.len ∨ f.p.len = 0 then 40 else if f ≠ ⟨3, zr, f.p, ze⟩ then 40 else 0
open Classical in
noncomputable def rfE (f : Fr) : Nat := if ¬ onD f.e.count ∨ ¬ onD f.e.bytes ∨ ¬ onD f.e.frames then 40 else if f ≠ ⟨4, zr, zp, f.e⟩ then 40 else 0
/-- why a frame may not be -/
noncomputable def rf (f : Fr) : Nat := if f.kind = 1 ∨ f.kind = 2 then rfR f else if f.kind = 3 then rfP f else if f.kind = 4 then rfE f else 46
theorem rfR_ok {f : Fr} (h : rfR f = 0) : f.r.kind = f.kind ∧ f.r.lsn ≠ 0 ∧ mayKey f.r.key ∧ f.r.val.size ≤ (if f.r.kind = 2 then 0 else 2048) ∧ f = ofR f.r := by
  unfold rfR at h
  by_cases a : f.r.kind ≠ f.kind
  · rw [if_pos a] at h; omega
  · rw [if_neg a] at h
    by_cases b : f.r.lsn = 0
    · rw [if_pos b] at h; omega
    · rw [if_neg b] at h
      by_cases c : ¬ mayKey f.r.key
      · rw [if_pos c] at h; omega
      · rw [if_neg c] at h
        by_cases d : (if f.r.kind = 2 then 0 else 2048) < f.r.val.size
        · rw [if_pos d] at h; omega
        · rw [if_neg d] at h
          by_cases e : f ≠ ofR f.r
          · rw [if_pos e] at h; omega
          · exact ⟨Classical.not_not.1 a, b, Classical.not_not.1 c, Nat.le_of_not_lt d, Classical.not_not.1 e⟩
theorem rfP_ok {f : Fr} (h : rfP f = 0) : (f.p.kind = 1 ∨ f.p.kind = 2) ∧ f.p.lsn ≠ 0 ∧ mayKey f.p.key ∧ onD f.p.at_ ∧ onD f.p.len ∧ f.p.len ≠ 0 ∧ f = ⟨3, zr, f.p, ze⟩ := by
  unfold rfP at h
  split at h
  · omega
  · split at h
    · omega
    · split at h
      · omega
      · split at h
        · omega
        · split at h
          · omega
          · rename_i a b c d e
            refine ⟨by omega, b, Classical.not_not.1 c, ?_, ?_, ?_, Classical.not_not.1 e⟩
            · exact Classical.byContradiction fun q => d (.inl q)
            · exact Classical.byContradiction fun q => d (.inr (.inl q))
            · exact fun q => d (.inr (.inr q))
theorem rfE_ok {f : Fr} (h : rfE f = 0) : onD f.e.count ∧ onD f.e.bytes ∧ onD f.e.frames ∧ f = ⟨4, zr, zp, f.e⟩ := by
  unfold rfE at h
  split at h
  · omega
  · split at h
    · omega
    · rename_i d e
      refine ⟨?_, ?_, ?_, Classical.not_not.1 e⟩
      · exact Classical.byContradiction fun q => d (.inl q)
      · exact Classical.byContradiction fun q => d (.inr (.inl q))
      · exact Classical.byContradiction fun q => d (.inr (.inr q))
/-- the varints of all numbers, one behind the other -/
def vs (l : List Nat) : List Nat := (l.map vrt).flatten
/-- a body, in its parts -/
def bp (f : Fr) : List (List Nat) :=
  if f.kind = 1 then [[1], vs [f.r.lsn, f.r.key.size], bl f.r.key, bl f.r.val]
  else if f.kind = 2 then [[2], vs [f.r.lsn], bl f.r.key]
  else if f.kind = 3 then [[3], vs [f.p.lsn], [f.p.kind.toNat], vs [f.p.at_.toNat, f.p.len.toNat], bl f.p.key]
  else [[4], vs [f.e.count.toNat, f.e.bytes.toNat, f.e.frames.toNat, f.e.sum]]
def bd (f : Fr) : List Nat := (bp f).flatten
abbrev RS := List Nat × Bool
def rNum (m : Nat) (s : RS) : Nat × RS := if (dec s.1).2.2 = 0 ∧ (dec s.1).1 ≤ m then ((dec s.1).1, (s.1.drop (dec s.1).2.1, s.2)) else (0, (s.1, true))
def rKind (s : RS) : Nat × RS := if s.1 = [] then (0, (s.1, true)) else (s.1.getD 0 0, (s.1.drop 1, s.2))
def rText (c : Nat) (s : RS) : ByteArray × RS := if s.1.length < c then (ByteArray.empty, (s.1, true)) else (str (s.1.take c), (s.1.drop c, s.2))
def rRest (s : RS) : ByteArray × RS := rText s.1.length s
def rPtr (s : RS) : Ptr × RS :=
  let a := rNum 18446744073709551615 s
  let k := rKind a.2
  let b := rNum 4194304 k.2
  let c := rNum 4194304 b.2
  let t := rRest c.2
  (⟨a.1, (k.1 : Int), (b.1 : Int), (c.1 : Int), t.1⟩, t.2)
def rEdg (s : RS) : Edg × RS :=
  let a := rNum 4194304 s
  let b := rNum 4194304 a.2
  let c := rNum 4194304 b.2
  let d := rNum 4294967295 c.2
  (⟨(a.1 : Int), (b.1 : Int), (c.1 : Int), d.1⟩, d.2)
def rPut (s : RS) : Rec × RS :=
  let a := rNum 18446744073709551615 s
  let c := rNum 64 a.2
  let t := rText c.1 c.2
  let v := rRest t.2
  (⟨a.1, 1, t.1, v.1⟩, v.2)
def rDel (s : RS) : Rec × RS :=
  let a := rNum 18446744073709551615 s
  let t := rRest a.2
  (⟨a.1, 2, t.1, ByteArray.empty⟩, t.2)
/-- a body taken apart -/
def prs (s : RS) : Fr × RS :=
  let k := rKind s
  if k.1 = 1 then (⟨1, (rPut k.2).1, zp, ze⟩, (rPut k.2).2)
  else if k.1 = 2 then (⟨2, (rDel k.2).1, zp, ze⟩, (rDel k.2).2)
  else if k.1 = 3 then (⟨3, zr, (rPtr k.2).1, ze⟩, (rPtr k.2).2)
  else if k.1 = 4 then (⟨4, zr, zp, (rEdg k.2).1⟩, (rEdg k.2).2)
  else (⟨(k.1 : Int), zr, zp, ze⟩, k.2)
theorem rNum_vrt {n m : Nat} (h : n < 18446744073709551616) (hm : n ≤ m) (r : List Nat) (b : Bool) : rNum m (vrt n ++ r, b) = (n, (r, b)) := by
  unfold rNum
  rw [dec_vrt h, if_pos ⟨rfl, hm⟩]
  simp
theorem rNum_ok {m : Nat} {s : RS} (hb : Byt s.1) (h : (rNum m s).2.2 = false) : s.2 = false ∧ s.1 = vrt (rNum m s).1 ++ (rNum m s).2.1 ∧ (rNum m s).1 ≤ m ∧ (rNum m s).1 < 18446744073709551616 ∧ Byt (rNum m s).2.1 := by
  unfold rNum at h ⊢
  split at h
  · rename_i hc
    rw [if_pos hc]
    obtain ⟨h1, h2, h3, h4, h5, h6⟩ := dec_ok (l := s.1) (n := (dec s.1).1) (k := (dec s.1).2.1) hb (by rw [← hc.1])
    exact ⟨h, by simp only [h1]; rw [List.take_append_drop], hc.2, h5, byt_drop hb _⟩
  · simp at h
theorem rKind_ok {s : RS} (hb : Byt s.1) (h : (rKind s).2.2 = false) : s.2 = false ∧ s.1 = (rKind s).1 :: (rKind s).2.1 ∧ (rKind s).1 < 256 ∧ Byt (rKind s).2.1 := by
  unfold rKind at h ⊢
  split at h
  · simp at h
  · rename_i hc
    rw [if_neg hc]
    obtain ⟨l, b⟩ := s
    cases l with
    | nil => simp at hc
    | cons x t => exact ⟨h, rfl, hb x List.mem_cons_self, fun y hy => hb y (List.mem_cons_of_mem _ hy)⟩
theorem rText_ok {c : Nat} {s : RS} (hb : Byt s.1) (h : (rText c s).2.2 = false) : s.2 = false ∧ s.1 = bl (rText c s).1 ++ (rText c s).2.1 ∧ (rText c s).1.size = c ∧ Byt (rText c s).2.1 := by
  unfold rText at h ⊢
  split at h
  · simp at h
  · rename_i hc
    rw [if_neg hc]
    refine ⟨h, ?_, ?_, byt_drop hb _⟩
    · simp only [bl_str (byt_take hb c)]; rw [List.take_append_drop]
    · simp only [str_size (byt_take hb c)]; rw [List.length_take]; omega
theorem rRest_ok {s : RS} (hb : Byt s.1) (h : (rRest s).2.2 = false) : s.2 = false ∧ s.1 = bl (rRest s).1 ∧ (rRest s).2.1 = [] := by
  obtain ⟨h1, h2, _, _⟩ := rText_ok hb h
  have h3 : (rRest s).2.1 = [] := by unfold rRest rText; rw [if_neg (by omega)]; simp
  refine ⟨h1, ?_, h3⟩
  unfold rRest at h3 ⊢
  rw [h3, List.append_nil] at h2
  exact h2
theorem rText_bl (s : ByteArray) (r : List Nat) (b : Bool) : rText s.size (bl s ++ r, b) = (s, (r, b)) := by
  unfold rText
  rw [if_neg (by rw [List.length_append, bl_len]; omega)]
  simp only
  rw [← bl_len s, List.take_left, List.drop_left, str_bl]
theorem rRest_bl (s : ByteArray) (b : Bool) : rRest (bl s, b) = (s, ([], b)) := by
  have := rText_bl s [] b
  rw [List.append_nil] at this
  unfold rRest
  simp only
  rw [bl_len]; exact this
theorem vs_cons (x : Nat) (l r : List Nat) : vs (x :: l) ++ r = vrt x ++ (vs l ++ r) := by simp [vs]
theorem vs_nil (r : List Nat) : vs [] ++ r = r := rfl
theorem rKind_cons (x : Nat) (r : List Nat) (b : Bool) : rKind (x :: r, b) = (x, (r, b)) := by unfold rKind; rw [if_neg (by simp)]; rfl
/-- what was written is read -/
theorem prs_bd {f : Fr} (hw : f.Wf) (h : rf f = 0) : prs (bd f, false) = (f, ([], false)) := by
  obtain ⟨w1, w2, w3⟩ := hw
  unfold rf at h
  by_cases c12 : f.kind = 1 ∨ f.kind = 2
  · rw [if_pos c12] at h
    obtain ⟨h1, h2, h3, h4, h5⟩ := rfR_ok h
    obtain ⟨k, ⟨lsn, rk, key, val⟩, p, e⟩ := f
    unfold ofR at h5
    injection h5 with e1 e2 e3 e4
    simp only at *
    subst e3 e4
    rcases c12 with rfl | rfl
    · subst h1
      have hb : bd ⟨1, ⟨lsn, 1, key, val⟩, zp, ze⟩ = 1 :: (vrt lsn ++ (vrt key.size ++ (bl key ++ bl val))) := by
        unfold bd bp; rw [if_pos rfl]
        simp [vs]
      rw [hb]
      unfold prs
      rw [rKind_cons]
      simp only [if_pos]
      unfold rPut
      rw [rNum_vrt w1 (by omega)]
      simp only
      rw [rNum_vrt (by have := h3.2; omega) h3.2]
      simp only
      rw [rText_bl]
      simp only
      rw [rRest_bl]
    · subst h1
      rw [if_pos rfl] at h4
      have hv : val = ByteArray.empty := by
        refine bl_inj (List.length_eq_zero_iff.1 ?_)
        rw [bl_len]; omega
      subst hv
      have hb : bd ⟨2, ⟨lsn, 2, key, ByteArray.empty⟩, zp, ze⟩ = 2 :: (vrt lsn ++ bl key) := by
        unfold bd bp; rw [if_neg (by simp), if_pos rfl]
        simp [vs]
      rw [hb]
      unfold prs
      rw [rKind_cons]
      simp only [if_neg (show ¬ (2 = 1) by omega), if_pos]
      unfold rDel
      rw [rNum_vrt w1 (by omega)]
      simp only
      rw [rRest_bl]
  · rw [if_neg c12] at h
    by_cases c3 : f.kind = 3
    · rw [if_pos c3] at h
      obtain ⟨h1, h2, h3, h4, h5, h6, h7⟩ := rfP_ok h
      obtain ⟨k, r, ⟨lsn, pk, at_, len, key⟩, e⟩ := f
      injection h7 with e1 e2 e3 e4
      simp only at *
      subst e1 e2 e4
      obtain ⟨a, rfl⟩ : ∃ a : Nat, at_ = (a : Int) := ⟨at_.toNat, by have := h4.1; omega⟩
      obtain ⟨n, rfl⟩ : ∃ n : Nat, len = (n : Int) := ⟨len.toNat, by have := h5.1; omega⟩
      obtain ⟨q, rfl⟩ : ∃ q : Nat, pk = (q : Int) := ⟨pk.toNat, by omega⟩
      have hb : bd ⟨3, zr, ⟨lsn, (q : Int), (a : Int), (n : Int), key⟩, ze⟩ = 3 :: (vrt lsn ++ (q :: (vrt a ++ (vrt n ++ bl key)))) := by
        unfold bd bp; rw [if_neg (by simp), if_neg (by simp), if_pos rfl]
        simp [vs]
      rw [hb]
      unfold prs
      rw [rKind_cons]
      simp only [if_neg (show ¬ (3 = 1) by omega), if_neg (show ¬ (3 = 2) by omega), if_pos]
      unfold rPtr
      rw [rNum_vrt w2 (by omega)]
      simp only
      rw [rKind_cons]
      simp only
      rw [rNum_vrt (by have := h4.2; omega) (by have := h4.2; omega)]
      simp only
      rw [rNum_vrt (by have := h5.2; omega) (by have := h5.2; omega)]
      simp only
      rw [rRest_bl]
    · rw [if_neg c3] at h
      by_cases c4 : f.kind = 4
      · rw [if_pos c4] at h
        obtain ⟨h1, h2, h3, h4⟩ := rfE_ok h
        obtain ⟨k, r, p, ⟨ct, by_, fr, sm⟩⟩ := f
        injection h4 with e1 e2 e3 e4
        simp only at *
        subst e1 e2 e3
        obtain ⟨a, rfl⟩ : ∃ a : Nat, ct = (a : Int) := ⟨ct.toNat, by have := h1.1; omega⟩
        obtain ⟨n, rfl⟩ : ∃ n : Nat, by_ = (n : Int) := ⟨by_.toNat, by have := h2.1; omega⟩
        obtain ⟨q, rfl⟩ : ∃ q : Nat, fr = (q : Int) := ⟨fr.toNat, by have := h3.1; omega⟩
        have hb : bd ⟨4, zr, zp, ⟨(a : Int), (n : Int), (q : Int), sm⟩⟩ = 4 :: (vrt a ++ (vrt n ++ (vrt q ++ (vrt sm ++ [])))) := by
          unfold bd bp; rw [if_neg (by simp), if_neg (by simp), if_neg (by simp)]
          simp [vs]
        rw [hb]
        unfold prs
        rw [rKind_cons]
        simp only [if_neg (show ¬ (4 = 1) by omega), if_neg (show ¬ (4 = 2) by omega), if_neg (show ¬ (4 = 3) by omega), if_pos]
        unfold rEdg
        rw [rNum_vrt (by have := h1.2; omega) (by have := h1.2; omega)]
        simp only
        rw [rNum_vrt (by have := h2.2; omega) (by have := h2.2; omega)]
        simp only
        rw [rNum_vrt (by have := h3.2; omega) (by have := h3.2; omega)]
        simp only
        rw [rNum_vrt (by omega) (by omega)]
      · rw [if_neg c4] at h; omega
theorem rNum_byt (m : Nat) {s : RS} (hb : Byt s.1) : Byt (rNum m s).2.1 := by
  unfold rNum; split
  · exact byt_drop hb _
  · exact hb
theorem rKind_byt {s : RS} (hb : Byt s.1) : Byt (rKind s).2.1 := by
  unfold rKind; split
  · exact hb
  · exact byt_drop hb _
theorem rText_byt (c : Nat) {s : RS} (hb : Byt s.1) : Byt (rText c s).2.1 := by
  unfold rText; split
  · exact hb
  · exact byt_drop hb _
theorem rPut_ok {s : RS} (hb : Byt s.1) (h : (rPut s).2.2 = false) : s.2 = false ∧ (rPut s).2.1 = [] ∧ (rPut s).1.kind = 1 ∧ s.1 = vrt (rPut s).1.lsn ++ (vrt (rPut s).1.key.size ++ (bl (rPut s).1.key ++ bl (rPut s).1.val)) ∧ (rPut s).1.lsn < 18446744073709551616 := by
  unfold rPut at h ⊢
  simp only at h ⊢
  have b1 := rNum_byt 18446744073709551615 hb
  have b2 := rNum_byt 64 b1
  have b3 := rText_byt (rNum 64 (rNum 18446744073709551615 s).2).1 b2
  obtain ⟨d1, d2, d3⟩ := rRest_ok b3 h
  obtain ⟨c1, c2, c3, _⟩ := rText_ok b2 d1
  obtain ⟨q1, q2, _⟩ := rNum_ok b1 c1
  obtain ⟨p1, p2, p3, p4, _⟩ := rNum_ok hb q1
  refine ⟨p1, d3, trivial, ?_, p4⟩
  rw [← d2, c3, ← c2, ← q2, ← p2]
theorem rDel_ok {s : RS} (hb : Byt s.1) (h : (rDel s).2.2 = false) : s.2 = false ∧ (rDel s).2.1 = [] ∧ (rDel s).1.kind = 2 ∧ (rDel s).1.val = ByteArray.empty ∧ s.1 = vrt (rDel s).1.lsn ++ bl (rDel s).1.key ∧ (rDel s).1.lsn < 18446744073709551616 := by
  unfold rDel at h ⊢
  simp only at h ⊢
  have b1 := rNum_byt 18446744073709551615 hb
  obtain ⟨d1, d2, d3⟩ := rRest_ok b1 h
  obtain ⟨p1, p2, p3, p4, _⟩ := rNum_ok hb d1
  refine ⟨p1, d3, trivial, trivial, ?_, p4⟩
  rw [← d2, ← p2]
theorem rPtr_ok {s : RS} (hb : Byt s.1) (h : (rPtr s).2.2 = false) : s.2 = false ∧ (rPtr s).2.1 = [] ∧ s.1 = vrt (rPtr s).1.lsn ++ ((rPtr s).1.kind.toNat :: (vrt (rPtr s).1.at_.toNat ++ (vrt (rPtr s).1.len.toNat ++ bl (rPtr s).1.key))) ∧ (rPtr s).1.lsn < 18446744073709551616 := by
  unfold rPtr at h ⊢
  simp only [Int.toNat_natCast] at h ⊢
  have b1 := rNum_byt 18446744073709551615 hb
  have b2 := rKind_byt b1
  have b3 := rNum_byt 4194304 b2
  have b4 := rNum_byt 4194304 b3
  obtain ⟨d1, d2, d3⟩ := rRest_ok b4 h
  obtain ⟨c1, c2, _⟩ := rNum_ok b3 d1
  obtain ⟨e1, e2, _⟩ := rNum_ok b2 c1
  obtain ⟨q1, q2, _⟩ := rKind_ok b1 e1
  obtain ⟨p1, p2, p3, p4, _⟩ := rNum_ok hb q1
  refine ⟨p1, d3, ?_, p4⟩
  rw [← d2, ← c2, ← e2, ← q2, ← p2]
theorem rEdg_ok {s : RS} (hb : Byt s.1) (h : (rEdg s).2.2 = false) : s.2 = false ∧ s.1 = vrt (rEdg s).1.count.toNat ++ (vrt (rEdg s).1.bytes.toNat ++ (vrt (rEdg s).1.frames.toNat ++ (vrt (rEdg s).1.sum ++ (rEdg s).2.1))) ∧ (rEdg s).1.sum < 4294967296 := by
  unfold rEdg at h ⊢
  simp only [Int.toNat_natCast] at h ⊢
  have b1 := rNum_byt 4194304 hb
  have b2 := rNum_byt 4194304 b1
  have b3 := rNum_byt 4194304 b2
  obtain ⟨d1, d2, d3, _⟩ := rNum_ok b3 h
  obtain ⟨c1, c2, _⟩ := rNum_ok b2 d1
  obtain ⟨q1, q2, _⟩ := rNum_ok b1 c1
  obtain ⟨p1, p2, p3, p4, _⟩ := rNum_ok hb q1
  refine ⟨p1, ?_, by omega⟩
  rw [← d2, ← c2, ← q2, ← p2]
theorem prs_1 {s : RS} (h : (rKind s).1 = 1) : prs s = (⟨1, (rPut (rKind s).2).1, zp, ze⟩, (rPut (rKind s).2).2) := by unfold prs; simp only; rw [if_pos h]
theorem prs_2 {s : RS} (h : (rKind s).1 = 2) : prs s = (⟨2, (rDel (rKind s).2).1, zp, ze⟩, (rDel (rKind s).2).2) := by unfold prs; simp only; rw [if_neg (by omega), if_pos h]
theorem prs_3 {s : RS} (h : (rKind s).1 = 3) : prs s = (⟨3, zr, (rPtr (rKind s).2).1, ze⟩, (rPtr (rKind s).2).2) := by unfold prs; simp only; rw [if_neg (by omega), if_neg (by omega), if_pos h]
theorem prs_4 {s : RS} (h : (rKind s).1 = 4) : prs s = (⟨4, zr, zp, (rEdg (rKind s).2).1⟩, (rEdg (rKind s).2).2) := by unfold prs; simp only; rw [if_neg (by omega), if_neg (by omega), if_neg (by omega), if_pos h]
theorem prs_5 {s : RS} (h1 : (rKind s).1 ≠ 1) (h2 : (rKind s).1 ≠ 2) (h3 : (rKind s).1 ≠ 3) (h4 : (rKind s).1 ≠ 4) : prs s = (⟨((rKind s).1 : Int), zr, zp, ze⟩, (rKind s).2) := by unfold prs; simp only; rw [if_neg h1, if_neg h2, if_neg h3, if_neg h4]
/-- what is read is what would be written -/
theorem bd_prs {l : List Nat} (hb : Byt l) (h : rf (prs (l, false)).1 = 0) (hl : (prs (l, false)).2.1 = []) (hr : (prs (l, false)).2.2 = false) : bd (prs (l, false)).1 = l ∧ (prs (l, false)).1.Wf := by
  have bk := rKind_byt (s := (l, false)) hb
  by_cases c1 : (rKind (l, false)).1 = 1
  · rw [prs_1 c1] at hl hr ⊢
    simp only at hl hr ⊢
    obtain ⟨p1, p2, p3, p4, p5⟩ := rPut_ok bk hr
    obtain ⟨_, q2, _⟩ := rKind_ok (s := (l, false)) hb p1
    simp only at q2
    refine ⟨?_, p5, (by show 0 < 18446744073709551616; omega), (by show 0 < 4294967296; omega)⟩
    refine Eq.trans ?_ q2.symm
    rw [p4, c1]
    unfold bd bp; rw [if_pos rfl]
    simp [vs]
  · by_cases c2 : (rKind (l, false)).1 = 2
    · rw [prs_2 c2] at hl hr ⊢
      simp only at hl hr ⊢
      obtain ⟨p1, p2, p3, _, p4, p5⟩ := rDel_ok bk hr
      obtain ⟨_, q2, _⟩ := rKind_ok (s := (l, false)) hb p1
      simp only at q2
      refine ⟨?_, p5, (by show 0 < 18446744073709551616; omega), (by show 0 < 4294967296; omega)⟩
      refine Eq.trans ?_ q2.symm
      rw [p4, c2]
      unfold bd bp; rw [if_neg (by simp), if_pos rfl]
      simp [vs]
    · by_cases c3 : (rKind (l, false)).1 = 3
      · rw [prs_3 c3] at hl hr ⊢
        simp only at hl hr ⊢
        obtain ⟨p1, p2, p4, p5⟩ := rPtr_ok bk hr
        obtain ⟨_, q2, _⟩ := rKind_ok (s := (l, false)) hb p1
        simp only at q2
        refine ⟨?_, (by show 0 < 18446744073709551616; omega), p5, (by show 0 < 4294967296; omega)⟩
        refine Eq.trans ?_ q2.symm
        rw [p4, c3]
        unfold bd bp; rw [if_neg (by simp), if_neg (by simp), if_pos rfl]
        simp [vs]
      · by_cases c4 : (rKind (l, false)).1 = 4
        · rw [prs_4 c4] at hl hr ⊢
          simp only at hl hr ⊢
          obtain ⟨p1, p4, p5⟩ := rEdg_ok bk hr
          obtain ⟨_, q2, _⟩ := rKind_ok (s := (l, false)) hb p1
          simp only at q2
          refine ⟨?_, (by show 0 < 18446744073709551616; omega), (by show 0 < 18446744073709551616; omega), p5⟩
          refine Eq.trans ?_ q2.symm
          rw [p4, c4, hl]
          unfold bd bp; rw [if_neg (by simp), if_neg (by simp), if_neg (by simp)]
          simp [vs]
        · rw [prs_5 c1 c2 c3 c4] at h
          unfold rf at h
          simp only at h
          rw [if_neg (by omega), if_neg (by omega), if_neg (by omega)] at h
          omega
/-- a body that may be is short -/
theorem bd_len {f : Fr} (hw : f.Wf) (h : rf f = 0) : (bd f).length ≤ 2200 ∧ 1 ≤ (bd f).length := by
  obtain ⟨w1, w2, w3⟩ := hw
  unfold rf at h
  unfold bd bp
  by_cases c12 : f.kind = 1 ∨ f.kind = 2
  · rw [if_pos c12] at h
    obtain ⟨h1, h2, h3, h4, h5⟩ := rfR_ok h
    have v1 := vrt_ten w1
    have v2 := vrt_ten (n := f.r.key.size) (by have := h3.2; omega)
    have h32 := h3.2
    by_cases c1 : f.kind = 1
    · rw [if_pos c1]
      rw [if_neg (by omega)] at h4
      simp [vs, bl_len]; omega
    · rw [if_neg c1, if_pos (by omega)]
      simp [vs, bl_len]; omega
  · rw [if_neg c12] at h
    rw [if_neg (by omega), if_neg (by omega)]
    by_cases c3 : f.kind = 3
    · rw [if_pos c3] at h ⊢
      obtain ⟨h1, h2, h3, h4, h5, h6, h7⟩ := rfP_ok h
      have v1 := vrt_ten w2
      have v2 := vrt_ten (n := f.p.at_.toNat) (by have := h4.2; omega)
      have v3 := vrt_ten (n := f.p.len.toNat) (by have := h5.2; omega)
      have h32 := h3.2
      simp [vs, bl_len]; omega
    · rw [if_neg c3] at h ⊢
      by_cases c4 : f.kind = 4
      · rw [if_pos c4] at h
        obtain ⟨h1, h2, h3, h4⟩ := rfE_ok h
        have v1 := vrt_ten (n := f.e.count.toNat) (by have := h1.2; omega)
        have v2 := vrt_ten (n := f.e.bytes.toNat) (by have := h2.2; omega)
        have v3 := vrt_ten (n := f.e.frames.toNat) (by have := h3.2; omega)
        have v4 := vrt_ten (n := f.e.sum) (by omega)
        simp [vs]; omega
      · rw [if_neg c4] at h; omega
theorem vs_byt (l : List Nat) : Byt (vs l) := by
  intro x hx
  unfold vs at hx
  obtain ⟨a, ha, hxa⟩ := List.mem_flatten.1 hx
  obtain ⟨n, _, rfl⟩ := List.mem_map.1 ha
  exact vrt_byt n x hxa
theorem bd_byt {f : Fr} (h : rf f = 0) : Byt (bd f) := by
  have one : ∀ k, k < 256 → Byt [k] := by intro k hk x hx; simp at hx; omega
  have key : ∀ p ∈ bp f, Byt p := by
    unfold bp
    unfold rf at h
    by_cases c1 : f.kind = 1
    · rw [if_pos c1]
      intro p hp
      simp only [List.mem_cons, List.not_mem_nil, or_false] at hp
      rcases hp with rfl | rfl | rfl | rfl
      · exact one 1 (by omega)
      · exact vs_byt _
      · exact bl_byt _
      · exact bl_byt _
    · rw [if_neg c1]
      by_cases c2 : f.kind = 2
      · rw [if_pos c2]
        intro p hp
        simp only [List.mem_cons, List.not_mem_nil, or_false] at hp
        rcases hp with rfl | rfl | rfl
        · exact one 2 (by omega)
        · exact vs_byt _
        · exact bl_byt _
      · rw [if_neg c2]
        rw [if_neg (by omega)] at h
        by_cases c3 : f.kind = 3
        · rw [if_pos c3]
          rw [if_pos c3] at h
          have := (rfP_ok h).1
          intro p hp
          simp only [List.mem_cons, List.not_mem_nil, or_false] at hp
          rcases hp with rfl | rfl | rfl | rfl | rfl
          · exact one 3 (by omega)
          · exact vs_byt _
          · exact one _ (by omega)
          · exact vs_byt _
          · exact bl_byt _
        · rw [if_neg c3]
          intro p hp
          simp only [List.mem_cons, List.not_mem_nil, or_false] at hp
          rcases hp with rfl | rfl
          · exact one 4 (by omega)
          · exact vs_byt _
  intro x hx
  obtain ⟨p, hp, hxp⟩ := List.mem_flatten.1 hx
  exact key p hp x hxp
end Vt
end Go.Proofs.Ytifjjoobbegpoaa
namespace Go.Proofs.Ytifjjoobbegpoaa
open Go.ChangeShapes Go.WideShapes Go.ChangeAt Go.RowKit
namespace Vt
theorem hd {p : Prop} (h : p) : Hid p := h
theorem own : ownKnob Try.prog.godebug = none := by kernel_rfl
theorem laidOut : laidOutB Try.prog = true := by kernel_rfl
theorem ret_int {k : IntKind} {a b : Int} (h : a = b) : Ending.returned (.int k a) = .returned (.int k b) := by rw [h]

/-- A row of numbers in memory. -/
def RowK (k : IntKind) (w : World) (b off : Nat) (l : List Nat) : Prop := ∀ i, i < l.length → w.cell? ⟨b, off + i, none⟩ = some (.int k ((l.getD i 0 : Nat) : Int))
/-- A slice value that reads as the numbers l, each below M. -/
def IsK (k : IntKind) (M : Nat) (w : World) (v : Value) (l : List Nat) : Prop :=
  (∀ x ∈ l, x < M) ∧ l.length ≤ maxLen ∧ ((l = [] ∧ ∃ a c, v = .slice a 0 c) ∨ ∃ b off c, v = .slice (some ⟨b, off, none⟩) l.length c ∧ l.length ≤ c ∧ c ≤ maxLen ∧ b < w.heap.size ∧ RowK k w b off l)
abbrev Row := RowK .u8
abbrev IsB := IsK .u8 256
abbrev IsN := IsK .u64 18446744073709551616
theorem lt_of_cell {w : World} {p : Addr} {v : Value} (h : w.cell? p = some v) : p.block < w.heap.size := by
  rcases Nat.lt_or_ge p.block w.heap.size with h' | h'
  · exact h'
  · simp [World.cell?, Array.getElem?_eq_none h'] at h
theorem add_at (b off k : Nat) : Addr.add ⟨b, off, none⟩ k = ⟨b, off + k, none⟩ := by
  unfold Addr.add; split
  · subst_vars; rfl
  · rfl
theorem IsK.drewN {k : IntKind} {M : Nat} {w : World} {v : Value} {l : List Nat} (h : IsK k M w v l) (n : Nat) : IsK k M (w.drewN n) v l := h
theorem IsK.shape {k : IntKind} {M : Nat} {w : World} {v : Value} {l : List Nat} (h : IsK k M w v l) : ∃ a c, v = .slice a l.length c := by
  obtain ⟨_, _, ⟨rfl, a, c, rfl⟩ | ⟨b, off, c, rfl, _⟩⟩ := h
  · exact ⟨a, c, rfl⟩
  · exact ⟨_, c, rfl⟩
theorem IsK.below {k : IntKind} {M : Nat} {w w' : World} {v : Value} {l : List Nat} (h : IsK k M w v l) (hb : Below w.heap.size w w') : IsK k M w' v l := by
  obtain ⟨h1, h2, ⟨rfl, a, c, rfl⟩ | ⟨b, off, c, rfl, h3, h4, h5, h6⟩⟩ := h
  · exact ⟨h1, h2, .inl ⟨rfl, a, c, rfl⟩⟩
  · refine ⟨h1, h2, .inr ⟨b, off, c, rfl, h3, h4, Nat.lt_of_lt_of_le h5 hb.size, fun k hk => ?_⟩⟩
    rw [hb.cell h5]; exact h6 k hk
theorem isK_nil (k : IntKind) (M : Nat) (w : World) (a : Option Addr) (c : Nat) : IsK k M w (.slice a 0 c) [] := ⟨by intro x hx; simp at hx, by simp, .inl ⟨rfl, _, _, rfl⟩⟩
theorem IsK.row {k : IntKind} {M : Nat} {w : World} {b off n c : Nat} {l : List Nat} (h : IsK k M w (.slice (some ⟨b, off, none⟩) n c) l) : RowK k w b off l := by
  obtain ⟨h1, h2, ⟨rfl, a, c', e⟩ | ⟨b', off', c', e, h3, h4, h5, h6⟩⟩ := h
  · intro k hk; simp at hk
  · injection e with e1 e2 e3
    injection e1 with e1
    injection e1 with e4 e5
    subst e2 e3 e4 e5
    exact h6
theorem IsK.take {k : IntKind} {M : Nat} {w : World} {a : Option Addr} {n c : Nat} {l : List Nat} (h : IsK k M w (.slice a n c) l) (m : Nat) (hm : m ≤ l.length) : IsK k M w (.slice a m c) (l.take m) := by
  obtain ⟨h1, h2, ⟨rfl, a', c', e⟩ | ⟨b', off', c', e, h3, h4, h5, h6⟩⟩ := h
  · obtain rfl : m = 0 := by simpa using hm
    rw [List.take_nil]; exact isK_nil _ _ _ _ _
  · injection e with e1 e2 e3
    subst e1 e2 e3
    have hl : (l.take m).length = m := by rw [List.length_take]; omega
    refine ⟨fun x hx => h1 x (List.mem_of_mem_take hx), by omega, .inr ⟨b', off', c, by rw [hl], by omega, h4, h5, fun j hj => ?_⟩⟩
    rw [hl] at hj
    rw [h6 j (by omega), List.getD_eq_getElem?_getD, List.getD_eq_getElem?_getD, List.getElem?_take_of_lt hj]
theorem IsK.drop {k : IntKind} {M : Nat} {w : World} {b off n c : Nat} {l : List Nat} (h : IsK k M w (.slice (some ⟨b, off, none⟩) n c) l) (m : Nat) (hm : m ≤ n) (o' n' c' : Nat) (ho : m < n → o' = off + m) (hn : n' = n - m) (hc : c' = c - m) : IsK k M w (.slice (some ⟨b, o', none⟩) n' c') (l.drop m) := by
  subst hn hc
  obtain ⟨h1, h2, ⟨rfl, a', c', e⟩ | ⟨b', off', c', e, h3, h4, h5, h6⟩⟩ := h
  · injection e with e1 e2 e3
    subst e2
    rw [List.drop_nil, Nat.zero_sub]; exact isK_nil _ _ _ _ _
  · injection e with e1 e2 e3
    injection e1 with e1
    injection e1 with e4 e5
    subst e2 e3 e4 e5
    have hl : (l.drop m).length = l.length - m := List.length_drop
    by_cases hlt : m < l.length
    · rw [ho hlt]
      refine ⟨fun x hx => h1 x (List.mem_of_mem_drop hx), by omega, .inr ⟨b, off + m, c - m, by rw [hl], by omega, by omega, h5, fun j hj => ?_⟩⟩
      rw [hl] at hj
      rw [Nat.add_assoc, h6 (m + j) (by omega), List.getD_eq_getElem?_getD, List.getD_eq_getElem?_getD, List.getElem?_drop]
    · have e : l.drop m = [] := List.drop_of_length_le (by omega)
      rw [e, show l.length - m = 0 by omega]; exact isK_nil _ _ _ _ _
theorem IsK.dropIf {k : IntKind} {M : Nat} {w : World} {b off n c : Nat} {l : List Nat} (h : IsK k M w (.slice (some ⟨b, off, none⟩) n c) l) (m : Nat) (hk : m ≤ n) (hn : n ≤ c) :
    IsK k M w (.slice (if c = m then some ⟨b, off, none⟩ else some ⟨b, off + m, none⟩) (n - m) (c - m)) (l.drop m) := by
  split
  · exact h.drop m hk off _ _ (by omega) rfl rfl
  · exact h.drop m hk (off + m) _ _ (fun _ => rfl) rfl rfl

/-- What a walk is told of a slice of integers that came in: it is nil; or it leads to a row of 'cap' cells, the numbers 'zs' (the first 'len' are its elements), each fitting its kind. -/
def IsRow (k : IntKind) (w : World) (a : Option Addr) (len cap : Nat) (zs : List Int) : Prop :=
  (a = none ∧ len = 0 ∧ cap = 0 ∧ zs = []) ∨
  ∃ x, a = some x ∧ len ≤ cap ∧ cap ≤ maxLen ∧ zs.length = cap ∧ (∀ i, i < zs.length → w.cell? (x.add i) = some (.int k (zs.getD i 0))) ∧ ∀ n ∈ zs, (Lit.int k n).wf = true
theorem isK_of {k : IntKind} {M : Nat} (hw : ∀ n : Int, (Lit.int k n).wf = true → 0 ≤ n ∧ n < (M : Int)) {w : World} {a : Option Addr} {len cap : Nat} {zs : List Int} (h : IsRow k w a len cap zs) : ∃ l : List Nat, l.length = len ∧ IsK k M w (.slice a len cap) l := by
  rcases h with ⟨rfl, rfl, rfl, rfl⟩ | ⟨x, rfl, hl, hm, hz, hcell, hwz⟩
  · exact ⟨[], rfl, isK_nil _ _ _ _ _⟩
  · have hlen : ((zs.take len).map Int.toNat).length = len := by rw [List.length_map, List.length_take]; omega
    refine ⟨(zs.take len).map Int.toNat, hlen, ?_, by rw [hlen]; omega, ?_⟩
    · intro n hn
      obtain ⟨z, hz1, rfl⟩ := List.mem_map.1 hn
      have := hw z (hwz z (List.mem_of_mem_take hz1))
      omega
    by_cases h0 : len = 0
    · subst h0
      exact .inl ⟨by simp, _, _, rfl⟩
    · obtain ⟨b, off, spot⟩ := x
      have hc := hcell 0 (by omega)
      have hspot : spot = none := by simpa [Addr.add] using World.cell?_spot hc
      subst hspot
      have hbl : b < w.heap.size := lt_of_cell hc
      refine .inr ⟨b, off, cap, by rw [hlen], by rw [hlen]; omega, hm, hbl, ?_⟩
      intro j hj
      rw [hlen] at hj
      have hck := hcell j (by omega)
      have hg : zs[j]? = some (zs.getD j 0) := by rw [List.getD_eq_getElem?_getD, List.getElem?_eq_getElem (by omega)]; rfl
      have hwj := hw _ (hwz (zs.getD j 0) (List.mem_of_getElem? hg))
      have he : (((zs.take len).map Int.toNat).getD j 0 : Nat) = (zs.getD j 0).toNat := by
        rw [List.getD_eq_getElem?_getD, List.getElem?_map, List.getElem?_take_of_lt hj, hg]; rfl
      rw [he, show (((zs.getD j 0).toNat : Nat) : Int) = zs.getD j 0 by omega]
      rw [add_at] at hck
      exact hck
theorem wf_u8 {n : Int} (h : (Lit.int .u8 n).wf = true) : 0 ≤ n ∧ n < ((256 : Nat) : Int) := by
  have := bounds_u8 h; omega
theorem wf_u64 {n : Int} (h : (Lit.int .u64 n).wf = true) : 0 ≤ n ∧ n < ((18446744073709551616 : Nat) : Int) := by
  have := bounds_u64 h; omega
theorem IsRow.isB {w : World} {a : Option Addr} {len cap : Nat} {zs : List Int} (h : IsRow .u8 w a len cap zs) : ∃ l : List Nat, l.length = len ∧ IsB w (.slice a len cap) l := isK_of (fun _ => wf_u8) h
theorem IsRow.isN {w : World} {a : Option Addr} {len cap : Nat} {zs : List Int} (h : IsRow .u64 w a len cap zs) : ∃ l : List Nat, l.length = len ∧ IsN w (.slice a len cap) l := isK_of (fun _ => wf_u64) h

def bs (l : List Nat) : List Value := l.map fun x => Value.int .u8 ((x : Nat) : Int)
theorem bs_app (a b : List Nat) : bs a ++ bs b = bs (a ++ b) := by unfold bs; rw [List.map_append]
theorem bs_len (l : List Nat) : (bs l).length = l.length := by simp [bs]
/-- The block g holds the bytes l, and they may be written. -/
def Buf (w : World) (g cap : Nat) (l : List Nat) : Prop := l.length ≤ cap ∧ cap ≤ maxLen ∧ g < w.heap.size ∧ Byt l ∧ Row w g 0 l ∧ ∀ j, j < l.length → w.frozen? ⟨g, j, none⟩ = false
theorem Buf.isB {w : World} {g cap n : Nat} {l : List Nat} (h : Buf w g cap l) (hn : n = l.length) : IsB w (.slice (some ⟨g, 0, none⟩) n cap) l := by
  subst hn
  obtain ⟨h1, h2, h3, h4, h5, _⟩ := h
  exact ⟨h4, by omega, .inr ⟨g, 0, cap, rfl, h1, h2, h3, h5⟩⟩
theorem Buf.cell {w : World} {g cap : Nat} {l : List Nat} (h : Buf w g cap l) {j : Nat} (hj : j < l.length) : w.cell? ⟨g, j, none⟩ = some (.int .u8 ((l.getD j 0 : Nat) : Int)) := by
  have := h.2.2.2.2.1 j hj
  rwa [Nat.zero_add] at this
theorem Buf.set {w : World} {g cap : Nat} {l : List Nat} (h : Buf w g cap l) {j y : Nat} (hj : j < l.length) (hy : y < 256) : Buf (w.setCell ⟨g, j, none⟩ (.int .u8 (y : Int))) g cap (l.set j y) := by
  have hcj := h.cell hj
  obtain ⟨h1, h2, h3, h4, h5, h6⟩ := h
  refine ⟨by rw [List.length_set]; exact h1, h2, ?_, ?_, ?_, ?_⟩
  · have : (w.setCell ⟨g, j, none⟩ (.int .u8 (y : Int))).heap.size = w.heap.size := by simp [World.setCell]
    omega
  · intro x hx
    rcases List.mem_or_eq_of_mem_set hx with hx | hx
    · exact h4 x hx
    · omega
  · intro k hk
    rw [List.length_set] at hk
    rw [Nat.zero_add]
    by_cases e : k = j
    · subst e
      rw [World.cell?_setCell_same _ _ _ hcj, List.getD_eq_getElem?_getD, List.getElem?_set_self hj]; rfl
    · rw [World.cell?_setCell_other _ _ _ _ (by intro he; injection he; omega)]
      have := h5 k hk
      rw [Nat.zero_add] at this
      rw [this, List.getD_eq_getElem?_getD, List.getD_eq_getElem?_getD, List.getElem?_set_ne (by omega)]
  · intro k hk
    rw [List.length_set] at hk
    rw [World.frozen?_setCell]; exact h6 k hk
theorem Buf.below {w w' : World} {g cap n : Nat} {l : List Nat} (h : Buf w g cap l) (hg : g < n) (hb : Below n w w') : Buf w' g cap l := by
  obtain ⟨h1, h2, h3, h4, h5, h6⟩ := h
  refine ⟨h1, h2, Nat.lt_of_lt_of_le h3 hb.size, h4, fun k hk => ?_, fun k hk => ?_⟩
  · rw [hb.cell hg]; exact h5 k hk
  · rw [hb.frozen hg]; exact h6 k hk
theorem Buf.other {w : World} {g cap : Nat} {l : List Nat} (h : Buf w g cap l) {p : Addr} (hp : p.block ≠ g) (v : Value) : Buf (w.setCell p v) g cap l := by
  obtain ⟨h1, h2, h3, h4, h5, h6⟩ := h
  refine ⟨h1, h2, ?_, h4, fun k hk => ?_, fun k hk => ?_⟩
  · have : (w.setCell p v).heap.size = w.heap.size := by simp [World.setCell]
    omega
  · rw [World.cell?_setCell_other _ _ _ _ (by intro e; exact hp (by rw [e]))]; exact h5 k hk
  · rw [World.frozen?_setCell]; exact h6 k hk
theorem bs_at (l : List Nat) (j : Nat) (hj : j < l.length) : (bs l)[j]? = some (.int .u8 ((l.getD j 0 : Nat) : Int)) := by
  unfold bs
  rw [List.getElem?_map, List.getElem?_eq_getElem hj, List.getD_eq_getElem?_getD, List.getElem?_eq_getElem hj]; rfl
theorem buf_of_own {w : World} {base g n cap : Nat} {l : List Nat} (hb : Byt l) (hn : n = l.length) (hg : g < w.heap.size) (h : w.ownsRow base 5 1 (.slice (some ⟨g, 0, none⟩) n cap) n (bs l)) : Buf w g cap l := by
  obtain ⟨h0, ⟨e, _⟩ | ⟨g', cap', cur, e, _, hh, hl, hm, hc, ht⟩⟩ := h
  · simp at e
  · injection e with e1 e2 e3
    injection e1 with e1
    injection e1 with e4 _
    subst e4 e3 hn
    have hat : ∀ j, j < l.length → cur[j]? = some (.int .u8 ((l.getD j 0 : Nat) : Int)) := by
      intro j hj
      have := bs_at l j hj
      rw [← ht, List.getElem?_take_of_lt (by omega)] at this
      simpa using this
    refine ⟨hl, hm, hg, hb, fun k hk => ?_, fun k hk => ?_⟩
    · rw [Nat.zero_add]
      simp only [World.cell?, hh]
      simpa using hat k hk
    · simp [World.frozen?, hh]
theorem news_of_row {w : World} {b off : Nat} {l : List Nat} (h : Row w b off l) : ∀ j u, (bs l)[j]? = some u → w.cell? (Addr.add ⟨b, off, none⟩ j) = some u := by
  intro j u hu
  have hj : j < l.length := by
    have := (List.getElem?_eq_some_iff.1 hu).1
    simpa [bs] using this
  rw [add_at, h j hj]
  rw [bs_at l j hj] at hu
  exact hu
theorem bs_one (l : List Nat) : ∀ u ∈ bs l, u.oneCell' = true := by
  intro u hu
  obtain ⟨x, _, rfl⟩ := List.mem_map.1 hu
  rfl
theorem info_u8 : (Try.prog.info? 5).map (fun i => (i.zero, i.size, i.bytes)) = some (some (.int .u8 0), 1, 1) := by kernel_rfl
theorem own_nil (w : World) (base : Nat) : w.ownsRow base 5 1 (.slice none 0 0) 0 (bs []) := ⟨rfl, .inl ⟨rfl, rfl⟩⟩
theorem own_cap {w : World} {base g n cap : Nat} {e : TypeId} {xs : List Value} (h : w.ownsRow base e 1 (.slice (some ⟨g, 0, none⟩) n cap) n xs) : n ≤ cap := by
  obtain ⟨_, ⟨h, _⟩ | ⟨g', cap', cur, h, _, hh, hl, _⟩⟩ := h
  · simp at h
  · injection h with e1 e2 e3
    omega
/-- a list of bytes of the call's own: nil where there is none -/
def JB (w : World) (base : Nat) (v : Value) (l : List Nat) : Prop := Byt l ∧ w.ownsRow base 5 1 v l.length (bs l)
theorem JB.isB {w : World} {base : Nat} {v : Value} {l : List Nat} (h : JB w base v l) : IsB w v l := by
  obtain ⟨hb, ho⟩ := h
  by_cases h0 : l.length = 0
  · obtain rfl : l = [] := List.length_eq_zero_iff.1 h0
    rcases ho.2 with ⟨rfl, _⟩ | ⟨g, cap, cur, rfl, _⟩
    · exact isK_nil _ _ _ _ _
    · exact isK_nil _ _ _ _ _
  · obtain ⟨g, cap, rfl, _, hlt⟩ := ho.form (by omega)
    exact (buf_of_own hb rfl hlt ho).isB rfl
theorem own_lt {w : World} {base g n cap : Nat} {e : TypeId} {xs : List Value} (h : w.ownsRow base e 1 (.slice (some ⟨g, 0, none⟩) n cap) n xs) : g < w.heap.size ∧ base ≤ g := by
  obtain ⟨_, ⟨h, _⟩ | ⟨g', cap', cur, h, hb, hh, _⟩⟩ := h
  · cases h
  · injection h with h1 h2 h3
    injection h1 with h1
    injection h1 with h1
    subst h1
    exact ⟨(Array.getElem?_eq_some_iff.1 hh).1, hb⟩
theorem JB.buf {w : World} {base g n cap : Nat} {l : List Nat} (h : JB w base (.slice (some ⟨g, 0, none⟩) n cap) l) : Buf w g cap l := by
  obtain ⟨hb, ho⟩ := h
  have hn : n = l.length := by
    rcases ho.2 with ⟨h, _⟩ | ⟨g', cap', cur, h, _⟩
    · cases h
    · injection h with h1 h2 h3
  subst hn
  exact buf_of_own hb rfl (own_lt ho).1 ho
theorem own_set {w : World} {base g n cap j : Nat} {e : TypeId} {xs : List Value} (h : w.ownsRow base e 1 (.slice (some ⟨g, 0, none⟩) n cap) n xs) (u : Value) : (w.setCell ⟨g, j, none⟩ u).ownsRow base e 1 (.slice (some ⟨g, 0, none⟩) n cap) n (xs.set j u) := by
  obtain ⟨h0, ⟨h, _⟩ | ⟨g', cap', cur, h, hb, hh, hl, hm, hc, ht⟩⟩ := h
  · cases h
  · injection h with h1 h2 h3
    injection h1 with h1
    injection h1 with h1
    subst h1 h3
    refine ⟨by rw [List.length_set]; exact h0, .inr ⟨g, cap, cur.setIfInBounds j u, rfl, hb, ?_, hl, hm, by rw [Array.size_setIfInBounds]; exact hc, ?_⟩⟩
    · have hlt := (Array.getElem?_eq_some_iff.1 hh).1
      have h' : w.heap[g] = .cells cur e (0, 0) := by simpa [Array.getElem?_eq_getElem hlt] using hh
      show (w.heap.modify g _)[g]? = _
      rw [Array.getElem?_eq_getElem (by simpa using hlt), Array.getElem_modify_self, h']
      rfl
    · rw [Array.toList_setIfInBounds, List.take_set, ht]
theorem JB.set {w : World} {base g n cap j y : Nat} {l : List Nat} (h : JB w base (.slice (some ⟨g, 0, none⟩) n cap) l) (hn : n = l.length) (hy : y < 256) : JB (w.setCell ⟨g, j, none⟩ (.int .u8 (y : Int))) base (.slice (some ⟨g, 0, none⟩) n cap) (l.set j y) := by
  subst hn
  refine ⟨?_, ?_⟩
  · intro x hx
    rcases List.mem_or_eq_of_mem_set hx with hx | hx
    · exact h.1 x hx
    · omega
  · have := own_set (j := j) h.2 (.int .u8 (y : Int))
    unfold bs
    rw [List.length_set, List.map_set]
    exact this
end Vt
end Go.Proofs.Ytifjjoobbegpoaa
namespace Go.Proofs.Ytifjjoobbegpoaa
open Go.RowKit
namespace Vt
theorem drewN2 (w : World) (n m : Nat) : ∃ k, (w.drewN n).drewN m = w.drewN k := ⟨n + m, World.drewN_drewN w n m⟩
theorem ext_getD {la lb : List Nat} (hl : la.length = lb.length) (h : ∀ k, k < la.length → la.getD k 0 = lb.getD k 0) : la = lb := by
  refine List.ext_getElem hl fun i h1 h2 => ?_
  have := h i h1
  rwa [List.getD_eq_getElem?_getD, List.getD_eq_getElem?_getD, List.getElem?_eq_getElem h1, List.getElem?_eq_getElem h2] at this
theorem made8 (n : Nat) : (madeCells (Value.int .u8 0).cells (n * 1)).toList = bs (List.replicate n 0) := by
  refine List.ext_getElem (by simp [madeCells, bs]) fun i h1 h2 => ?_
  simp [madeCells, bs, Value.cells, Nat.mod_one]
theorem lit_isK (k : IntKind) (M : Nat) (w : World) (xs : Array Value) (t : TypeId) (l : List Nat) (n : Nat) (hn : n = l.length) (hx : xs = (l.map fun x => Value.int k ((x : Nat) : Int)).toArray) (hb : ∀ x ∈ l, x < M) (hm : l.length ≤ maxLen) : IsK k M (w.alloc (.cells xs t)) (.slice (some ⟨w.heap.size, 0, none⟩) n n) l := by
  subst hn
  refine ⟨hb, hm, .inr ⟨w.heap.size, 0, l.length, rfl, Nat.le_refl _, hm, by simp, fun j hj => ?_⟩⟩
  subst hx
  rw [Nat.zero_add, World.cell?_alloc_new, List.getD_eq_getElem?_getD, List.getElem?_eq_getElem hj]
  simp [hj]
theorem lit_isK_at (k : IntKind) (M : Nat) (w : World) (xs : Array Value) (t : TypeId) (l : List Nat) (n g : Nat) (hg : w.heap.size = g) (hn : n = l.length) (hx : xs = (l.map fun x => Value.int k ((x : Nat) : Int)).toArray) (hb : ∀ x ∈ l, x < M) (hm : l.length ≤ maxLen) : IsK k M (w.alloc (.cells xs t)) (.slice (some ⟨g, 0, none⟩) n n) l := by
  subst hg
  exact lit_isK k M w xs t l n hn hx hb hm
theorem own_below {w w' : World} {base g m n cap k : Nat} {e : TypeId} {xs : List Value} (h : w.ownsRow base e 1 (.slice (some ⟨g, 0, none⟩) m cap) n xs) (hg : g < k) (hb : Below k w w') : w'.ownsRow base e 1 (.slice (some ⟨g, 0, none⟩) m cap) n xs := by
  obtain ⟨h0, ⟨h, _⟩ | ⟨g', cap', cur, h, hbs, hh, hr⟩⟩ := h
  · cases h
  · refine ⟨h0, .inr ⟨g', cap', cur, h, hbs, ?_, hr⟩⟩
    injection h with h1 h2 h3
    injection h1 with h1
    injection h1 with h1
    subst h1
    rw [hb.block g hg]; exact hh
theorem JB.below {w w' : World} {base g n cap k : Nat} {l : List Nat} (h : JB w base (.slice (some ⟨g, 0, none⟩) n cap) l) (hg : g < k) (hb : Below k w w') : JB w' base (.slice (some ⟨g, 0, none⟩) n cap) l := ⟨h.1, own_below h.2 hg hb⟩
theorem IsK.cap {k : IntKind} {M : Nat} {w : World} {a : Option Addr} {n c : Nat} {l : List Nat} (h : IsK k M w (.slice a n c) l) : l.length ≤ c := by
  obtain ⟨_, _, ⟨rfl, a', c', e⟩ | ⟨b, off, c', e, h1, _⟩⟩ := h
  · simp
  · injection e with e1 e2 e3
    omega
theorem bytes_u8 : Try.prog.bytesOf 5 = 1 := by kernel_rfl
theorem jb_snoc {w : World} {base : Nat} {a : Option Addr} {n cap y : Nat} {l : List Nat} {z : Int} (hz : z = (y : Int)) (hy : y < 256) (hb : Byt l) (hn : n + 1 = l.length + 1) (h : w.ownsRow base 5 1 (.slice a (n + 1) cap) (n + 1) (bs l ++ [.int .u8 z])) : JB w base (.slice a (n + 1) cap) (l ++ [y]) := by
  subst hz
  refine ⟨byt_app hb (by intro x hx; simp at hx; omega), ?_⟩
  rw [List.length_append, List.length_singleton, ← hn, ← bs_app]
  exact h
end Vt
end Go.Proofs.Ytifjjoobbegpoaa
namespace Go.Proofs.Ytifjjoobbegpoaa
open Go.RowKit
namespace Vt
theorem JB.shape {w : World} {base : Nat} {v : Value} {l : List Nat} (h : JB w base v l) : ∃ a c, v = .slice a l.length c ∧ l.length ≤ c := by
  rcases h.2.2 with ⟨rfl, e⟩ | ⟨g, cap, cur, rfl, _, _, hl, _⟩
  · exact ⟨none, 0, by rw [e], by omega⟩
  · exact ⟨_, cap, rfl, hl⟩
theorem JB.lt {w : World} {base g n cap : Nat} {l : List Nat} (h : JB w base (.slice (some ⟨g, 0, none⟩) n cap) l) : g < w.heap.size ∧ base ≤ g := by
  rcases h.2.2 with ⟨h, _⟩ | ⟨g', cap', cur, h, hb, hh, _⟩
  · cases h
  · injection h with h1 h2 h3
    injection h1 with h1
    injection h1 with h1
    subst h1
    exact ⟨(Array.getElem?_eq_some_iff.1 hh).1, hb⟩
/-- what is below stays -/
theorem JB.keep {w w' : World} {base k : Nat} {v : Value} {l : List Nat} (h : JB w base v l) (hk : ∀ g, v.ownBlock = some g → g < k) (hb : Below k w w') : JB w' base v l := by
  obtain ⟨h1, h0, ⟨rfl, e⟩ | ⟨g', cap', cur, rfl, hbs, hh, hr⟩⟩ := h
  · exact ⟨h1, h0, .inl ⟨rfl, e⟩⟩
  · refine ⟨h1, h0, .inr ⟨g', cap', cur, rfl, hbs, ?_, hr⟩⟩
    rw [hb.block g' (hk g' rfl)]; exact hh
theorem JB.keepAll {w w' : World} {base : Nat} {v : Value} {l : List Nat} (h : JB w base v l) (hb : Below w.heap.size w w') : JB w' base v l := by
  refine h.keep (fun g hg => ?_) hb
  obtain ⟨_, _, ⟨rfl, e⟩ | ⟨g', cap', cur, rfl, hbs, hh, hr⟩⟩ := h
  · cases hg
  · cases hg
    exact (Array.getElem?_eq_some_iff.1 hh).1
theorem run_append_jb (ty : TypeId) (w : World) (base : Nat) (v u : Value) (l r : List Nat) (hJ : JB w base v l) (hI : IsB w u r) (hb : l.length + r.length ≤ 140737488355328) (hbase : base ≤ w.heap.size) :
    ∃ a' cap w', (Builtin.append_ #[22, 22] ty #[v, u]).run Try.prog w = .ok (.slice a' (l.length + r.length) cap) w' ∧ JB w' base (.slice a' (l.length + r.length) cap) (l ++ r) ∧ w.grownBy w' v.ownBlock := by
  obtain ⟨i0, hi, hz0, hz1, hz2⟩ := info_parts info_u8
  by_cases h0 : r.length = 0
  · obtain rfl : r = [] := List.length_eq_zero_iff.1 h0
    obtain ⟨a, c, rfl⟩ := hI.shape
    obtain ⟨a', c', rfl, hlc⟩ := hJ.shape
    refine ⟨a', c', w, ?_, ?_, World.grownBy.refl _ _⟩
    · cases a <;> cases a' <;> simp [Builtin.append_, run_underlying Try.underlying22, sizeOf, typeInfo, hi, hlc, Builtin.lenOf, Builtin.firstCells, storeCells, loadCells, loadCellsFrom]
    · simpa using hJ
  · obtain ⟨hbl, hml, ⟨rfl, _⟩ | ⟨bb, oo, cc, rfl, hlc, hcm, hbb, hrow⟩⟩ := hI
    · simp at h0
    · have hlen : (bs r).length = r.length * 1 := by simp [bs]
      obtain ⟨g, cap, w', hr, h2, h3, _, _⟩ := run_append_lies (P := Try.prog) w 22 ty base 5 i0 (.int .u8 0) 1 1 Try.underlying22 hi hz0 hz1 hz2 rfl (by decide) v l.length (bs l) hJ.2 ⟨bb, oo, none⟩ r.length cc (bs r) hlen (news_of_row hrow) (bs_one r) (by omega) (by unfold maxLen; omega) (by omega) hbase w.heap.size rfl
      refine ⟨_, cap, w', hr, ⟨byt_app hJ.1 hbl, ?_⟩, h3⟩
      rw [bs_app] at h2
      rw [List.length_append]; exact h2
/-- .. for the walk: k: the new length, R: the new list -/
theorem wpList_append_jb (w : World) {ops : Array Oper} {rest : List Oper} {o : Oper} {a : Act} {Q : Exit → Act → World → Prop} (hgd : o.guard = none) (s x : Operand)
    (ho : o.op = .call { callee := .builtin .append, args := #[s, x], argTypes := #[22, 22] })
    (base : Nat) (v u : Value) (l r : List Nat) (hs : a.eval s = v) (hx : a.eval x = u) (hJ : JB w base v l) (hI : IsB w u r) (k : Nat) (hk : l.length + r.length = k) (R : List Nat) (hR : l ++ r = R) (hb : k ≤ 140737488355328) (hbase : base ≤ w.heap.size)
    (h : ∀ a' cap w', JB w' base (.slice a' k cap) R → w.grownBy w' v.ownBlock → k ≤ cap → wpList Try.prog ops Q rest (a.put o.dst (.slice a' k cap)) w') : wpList Try.prog ops Q (o :: rest) a w := by
  subst hk hR
  refine wpList_plain hgd fun K hK => ?_
  obtain ⟨a', cap, w', hr, h2, h3⟩ := run_append_jb o.type w base v u l r hJ hI hb hbase
  unfold Oper.wp execOp
  simp only [ho, resolve, invoke, builtin, Sem.run_bind, Sem.run_pure, Result.andThen_ok, List.map_toArray, List.map_cons, List.map_nil, hs, hx, hr]
  refine hK _ _ (h a' cap w' h2 h3 ?_)
  obtain ⟨a2, c2, e, hle⟩ := h2.shape
  injection e with e1 e2 e3
  rw [List.length_append] at hle
  omega
/-- .. guarded, where the guard holds: k: the new length, R: the new list -/
theorem wpList_append_jbG (w : World) {ops : Array Oper} {rest : List Oper} {o : Oper} {a : Act} {Q : Exit → Act → World → Prop} (hgd : Region.wanted o (yielded ops a.tmps) = true) (s x : Operand)
    (ho : o.op = .call { callee := .builtin .append, args := #[s, x], argTypes := #[22, 22] })
    (base : Nat) (v u : Value) (l r : List Nat) (hs : a.eval s = v) (hx : a.eval x = u) (hJ : JB w base v l) (hI : IsB w u r) (k : Nat) (hk : l.length + r.length = k) (R : List Nat) (hR : l ++ r = R) (hb : k ≤ 140737488355328) (hbase : base ≤ w.heap.size)
    (h : ∀ a' cap w', JB w' base (.slice a' k cap) R → w.grownBy w' v.ownBlock → k ≤ cap → wpList Try.prog ops Q rest (a.put o.dst (.slice a' k cap)) w') : wpList Try.prog ops Q (o :: rest) a w := by
  subst hk hR
  refine wpList_step fun K hK => ?_
  rw [if_pos hgd]
  obtain ⟨a', cap, w', hr, h2, h3⟩ := run_append_jb o.type w base v u l r hJ hI hb hbase
  unfold Oper.wp execOp
  simp only [ho, resolve, invoke, builtin, Sem.run_bind, Sem.run_pure, Result.andThen_ok, List.map_toArray, List.map_cons, List.map_nil, hs, hx, hr]
  refine hK _ _ (h a' cap w' h2 h3 ?_)
  obtain ⟨a2, c2, e, hle⟩ := h2.shape
  injection e with e1 e2 e3
  rw [List.length_append] at hle
  omega
/-- what grew leaves all below as it was, where the row is the call's own -/
theorem JB.grown {w w' : World} {base : Nat} {v : Value} {l : List Nat} {n : Nat} {w0 : World} (hJ : JB w base v l) (hb : Below n w0 w) (hn : n ≤ base) (hn2 : n ≤ w.heap.size) (hg : w.grownBy w' v.ownBlock) : Below n w0 w' := by
  refine hb.grown hg hn2 fun k hk => ?_
  obtain ⟨_, _, ⟨rfl, e⟩ | ⟨g', cap', cur, rfl, hbs, hh, hr⟩⟩ := hJ
  · cases hk
  · cases hk
    exact Nat.le_trans hn hbs
/-- a slice elsewhere reads as it did, where a row of the call's own has grown -/
theorem IsK.grown {k : IntKind} {M : Nat} {w w' : World} {row : Option Nat} {v : Value} {l : List Nat} (h : IsK k M w v l) (hg : w.grownBy w' row) (hne : ∀ b off n c, v = .slice (some ⟨b, off, none⟩) n c → some b ≠ row) : IsK k M w' v l := by
  obtain ⟨h1, h2, ⟨rfl, a, c, rfl⟩ | ⟨b, off, c, rfl, h3, h4, h5, h6⟩⟩ := h
  · exact ⟨h1, h2, .inl ⟨rfl, a, c, rfl⟩⟩
  · refine ⟨h1, h2, .inr ⟨b, off, c, rfl, h3, h4, Nat.lt_of_lt_of_le h5 hg.size, fun j hj => ?_⟩⟩
    rw [World.cell?_of_block (a := ⟨b, off + j, none⟩) (hg.block b h5 (hne _ _ _ _ rfl))]; exact h6 j hj
theorem JB.blk_lt {w : World} {base : Nat} {v : Value} {l : List Nat} (h : JB w base v l) : ∀ g, v.ownBlock = some g → g < w.heap.size := by
  intro g hg
  obtain ⟨_, _, ⟨rfl, e⟩ | ⟨g', cap', cur, rfl, hbs, hh, hr⟩⟩ := h
  · cases hg
  · cases hg
    exact (Array.getElem?_eq_some_iff.1 hh).1
theorem JB.blk_ge {w : World} {base : Nat} {v : Value} {l : List Nat} (h : JB w base v l) : ∀ b off n c, v = .slice (some ⟨b, off, none⟩) n c → base ≤ b := by
  intro b off n c hv
  obtain ⟨_, _, ⟨rfl, e⟩ | ⟨g', cap', cur, rfl, hbs, hh, hr⟩⟩ := h
  · cases hv
  · injection hv with e1
    injection e1 with e1
    injection e1 with e1
    omega
theorem jb_nil (w : World) (base : Nat) : JB w base (.slice none 0 0) [] := ⟨byt_nil, own_nil _ _⟩
end Vt
end Go.Proofs.Ytifjjoobbegpoaa
namespace Go.Proofs.Ytifjjoobbegpoaa
open Go.RowKit
namespace Vt
theorem zeros_jb (w : World) (n cap : Nat) (hn : n ≤ cap) (hm : cap ≤ maxLen) : JB (w.drew.alloc (.cells (Builtin.zeroCells (Value.int .u8 0).cells n ++ Builtin.zeroCells (Value.int .u8 0).cells (cap - n)) 5)) w.heap.size (.slice (some ⟨w.heap.size, 0, none⟩) 0 cap) [] := by
  refine ⟨byt_nil, by simp [bs], .inr ⟨w.heap.size, cap, Builtin.zeroCells (Value.int .u8 0).cells n ++ Builtin.zeroCells (Value.int .u8 0).cells (cap - n), rfl, Nat.le_refl _, ?_, Nat.zero_le _, hm, ?_, by simp [bs]⟩⟩
  · show (w.drew.heap.push _)[w.heap.size]? = _
    rw [show w.heap.size = w.drew.heap.size from rfl, Array.getElem?_push_size]
  · simp [Builtin.zeroCells, Value.cells]; omega
set_option maxRecDepth 100000 in
set_option maxHeartbeats 400000 in
theorem grow_nil (n : Nat) (w : World) (h0 : 0 < n) (hm : n ≤ 140737488355328) :
    Calls Try.prog 86 #[.slice none 0 0, .int .i64 (n : Int)] w fun e w' => ∃ cap, e = .returned (.slice (some ⟨w.heap.size, 0, none⟩) 0 cap) ∧ JB w' w.heap.size (.slice (some ⟨w.heap.size, 0, none⟩) 0 cap) [] ∧ Below w.heap.size w w' := by
  obtain ⟨i0, hi, hz0, hz1, hz2⟩ := info_parts info_u8
  have hrun := fun (ty : TypeId) => Lib.run_append_nil_zeros (P := Try.prog) w 22 3 ty 5 i0 (.int .u8 0) .i64 .i64 Try.underlying22 Try.underlying3 hi hz0 n h0 (by omega) (by omega) (by rw [hz2]; omega)
  have hge := grownCap_ge w n 0 5
  have hle := grownCap_le_maxLen w n 0 5 (by unfold maxLen; omega)
  have HJ := hd (zeros_jb w n _ hge hle)
  have hle2 := hle
  unfold maxLen at hle2
  generalize grownCap w n 0 5 = cap at *
  have HB : Hid (Below w.heap.size w (w.drew.alloc (.cells (Builtin.zeroCells (Value.int .u8 0).cells n ++ Builtin.zeroCells (Value.int .u8 0).cells (cap - n)) 5))) := (below_drewN (Below.refl _ _) 1).alloc (Nat.le_refl _) _
  generalize (w.drew.alloc (.cells (Builtin.zeroCells (Value.int .u8 0).cells n ++ Builtin.zeroCells (Value.int .u8 0).cells (cap - n)) 5)) = w1 at *
  go_enter Try.func86, Try.ntmps86
  go_wp2_with (at_builtin; refine Lib.wpList_append_run _ rfl _ _ _ _ rfl _ _ rfl rfl _ _ (hrun _) ?_)
  go_ret
  exact ⟨cap, rfl, HJ.out, HB.out⟩
/-- a slice of slices of bytes -/
def Ps (w : World) (b off : Nat) (ls : List (List Nat)) : Prop := ∀ i, i < ls.length → ∃ v, w.cell? ⟨b, off + i, none⟩ = some v ∧ IsB w v (ls.getD i [])
theorem ps_succ {ls : List (List Nat)} {k : Nat} (h : k < ls.length) : (ls.take (k + 1)).flatten = (ls.take k).flatten ++ ls.getD k [] := by
  rw [List.take_succ_eq_append_getElem h, List.getD_eq_getElem?_getD, List.getElem?_eq_getElem h, List.flatten_append]; simp
theorem ps_le (ls : List (List Nat)) (k : Nat) : (ls.take k).flatten.length ≤ ls.flatten.length := by
  have : ls.flatten = (ls.take k).flatten ++ (ls.drop k).flatten := by rw [← List.flatten_append, List.take_append_drop]
  rw [this, List.length_append]; omega
set_option maxRecDepth 100000 in
set_option maxHeartbeats 400000 in
theorem concat_row (b off c : Nat) (ls : List (List Nat)) (w : World) (hb : b < w.heap.size) (hn : ls.length ≤ 1000) (hP : Ps w b off ls) (h0 : 0 < ls.flatten.length) (hm : ls.flatten.length ≤ 140737488355328) :
    Calls Try.prog 68 #[.slice (some ⟨b, off, none⟩) ls.length c] w fun e w' => ∃ u, e = .returned u ∧ JB w' w.heap.size u ls.flatten ∧ Below w.heap.size w w' := by
  have HP := hd hP
  clear hP
  have HG := hd (grow_nil ls.flatten.length w h0 hm)
  have HPS := hd (ps_le ls)
  generalize hT : ls.flatten.length = T at *
  have HT := hd hT
  clear hT
  go_enter Try.func68, Try.ntmps68
  go_wp2_with fail
  go_loop [3, 11] (fun s i => ∃ k : Nat, k ≤ ls.length ∧ i = .int .i64 (k : Int) ∧ s = .int .i64 (((ls.take k).flatten.length : Nat) : Int)) (fun _ i => ls.length - (intOf i).toNat)
  case atStart => exact ⟨0, by omega, rfl, rfl⟩
  case round =>
    obtain ⟨k, hk, rfl, rfl⟩ := hrel
    by_cases hlt : k < ls.length
    · obtain ⟨v, hv, hB⟩ := HP.out k hlt
      have he := congrArg List.length (ps_succ hlt)
      have hle := HPS.out (k + 1)
      rw [List.length_append] at he
      rw [he] at hle
      have HE := hd he
      clear he
      obtain ⟨a, c', e⟩ := hB.shape
      subst e
      clear hB
      generalize (ls.take k).flatten.length = s at *
      generalize (ls.getD k []).length = d at *
      go_wp2_with fail
      go_round
      case rel => exact ⟨k + 1, hlt, by go_num, by rw [HE.out]; rfl⟩
      case measure => simp [intOf]; omega
    · obtain rfl : k = ls.length := by omega
      rw [List.take_length, HT.out]
      go_wp2_with fail
      refine Calls.mono HG.out ?_
      rintro e w1 ⟨cap, rfl, hJ1, hB1⟩
      have HJ1 := hd hJ1
      have HB1 := hd hB1
      clear hJ1 hB1 HG
      go_wp2_with fail
      go_loopw [6, 27] (fun v i wr => ∃ k : Nat, k ≤ ls.length ∧ i = .int .i64 (k : Int) ∧ JB wr w.heap.size v (ls.take k).flatten ∧ Below w.heap.size w wr) (fun _ i _ => ls.length - (intOf i).toNat)
      case atStart => exact ⟨0, by omega, rfl, HJ1.out, HB1.out⟩
      case round =>
        obtain ⟨k, hk, rfl, hJ, hBB⟩ := hrel
        have HJ := hd hJ
        have HBB := hd hBB
        clear hJ hBB HJ1 HB1
        by_cases hlt : k < ls.length
        · obtain ⟨u, hv, hB⟩ := HP.out k hlt
          have HI := hd (hB.below HBB.out)
          have hc : wr.cell? ⟨b, off + k, none⟩ = some u := by rw [HBB.out.cell hb]; exact hv
          have HE := hd (ps_succ hlt)
          have hle := HPS.out (k + 1)
          have hl2 := congrArg List.length HE.out
          rw [List.length_append] at hl2
          have hsz := HBB.out.size
          clear hv hB
          obtain ⟨R, hR⟩ : ∃ R, R = (ls.take (k + 1)).flatten := ⟨_, rfl⟩
          obtain ⟨A, hA⟩ : ∃ A, A = (ls.take k).flatten := ⟨_, rfl⟩
          obtain ⟨D, hD⟩ : ∃ D, D = ls.getD k [] := ⟨_, rfl⟩
          rw [← hR, ← hA, ← hD] at HE
          rw [← hR] at hle hl2
          rw [← hA, ← hD] at hl2
          rw [← hA] at HJ
          rw [← hD] at HI
          have HR := hd hR
          clear hR hA hD
          go_wp2_with (at_builtin; refine wpList_append_jb _ rfl _ _ rfl w.heap.size _ _ _ _ rfl rfl HJ.out HI.out _ hl2.symm _ HE.out.symm (by omega) hsz ?_; intro a2 cap2 w2 hJ2 hg2 hc2)
          have HJ2 := hd hJ2
          have HB2 := hd (HJ.out.grown HBB.out (Nat.le_refl _) hsz hg2)
          clear hJ2 hg2
          go_roundw
          case rel => exact ⟨k + 1, hlt, by go_num, by rw [← HR.out]; have := HJ2.out; rw [hl2] at this; exact this, HB2.out⟩
          case measure => simp [intOf]; omega
        · obtain rfl : k = ls.length := by omega
          rw [List.take_length] at HJ
          go_wp2_with fail
          go_ret
          exact ⟨_, rfl, HJ.out, HBB.out⟩
end Vt
end Go.Proofs.Ytifjjoobbegpoaa
