/-
  THE PLAIN MATHEMATICS OF VARINTS AND DIGITS, proved of natural numbers and lists of them, without any condition beyond those that each row bears: there and back, one way only to write a number, what is cut off, how long a varint is, digits in order.
  WHAT THE PROOFS ABOUT VARINTS SHARE: a slice of bytes or of 64-bit numbers that reads as a list; rows that the call itself has made; what came in as such a slice. No condition beyond those that each row bears.
  SMALL HELPS that the walks share: rows of the call's own that stay, literal slices, a byte put behind.
  'append(own, x...)' AS A LAW FOR THE WALK: own: a list of bytes of the call's own (nil too); x: any slice of bytes (nil, empty too).
-/
import Derived.Lib.BitFns
import Derived.Test.YtnjhbidialngmaaRows
import Derived.WalkKit
import Derived.WalkSpells
import Derived.WalkLawsBesides
import Derived.Laws.BitsAllLaws
import Derived.ProofKit
import Derived.OpenShut
import Derived.ShutString
import Derived.ChangeOld
import Derived.SizedLaws
import Derived.Deep.AppendLies
import Derived.Laws.OwnMore
import Derived.Deep.Onto
import Derived.Deep.QuietTactic
import Derived.BigQuiet
import Derived.Deep.RegionWith
import Derived.OwnWalk
namespace Go.Proofs.Ytnjhbidialngmaa
namespace Vt
def Byt (l : List Nat) : Prop := ∀ x ∈ l, x < 256
theorem byt_nil : Byt [] := by intro x hx; simp at hx
theorem byt_app {a b : List Nat} (ha : Byt a) (hb : Byt b) : Byt (a ++ b) := by
  intro x hx
  rcases List.mem_append.1 hx with hx | hx
  · exact ha x hx
  · exact hb x hx
theorem byt_take {l : List Nat} (h : Byt l) (k : Nat) : Byt (l.take k) := fun x hx => h x (List.mem_of_mem_take hx)
theorem byt_drop {l : List Nat} (h : Byt l) (k : Nat) : Byt (l.drop k) := fun x hx => h x (List.mem_of_mem_drop hx)
theorem getD_lt {l : List Nat} (h : Byt l) (k : Nat) : l.getD k 0 < 256 := by
  rw [List.getD_eq_getElem?_getD]
  cases e : l[k]? with
  | none => simp
  | some x => exact h x (List.mem_of_getElem? e)
theorem take_succ_getD {l : List Nat} {k : Nat} (h : k < l.length) : l.take (k + 1) = l.take k ++ [l.getD k 0] := by
  rw [List.take_succ_eq_append_getElem h, List.getD_eq_getElem?_getD, List.getElem?_eq_getElem h]; rfl

/-- the varint of a number -/
def vrt (n : Nat) : List Nat := if n < 128 then [n] else (n % 128 + 128) :: vrt (n / 128)
  termination_by n
  decreasing_by omega
theorem vrt_small {n : Nat} (h : n < 128) : vrt n = [n] := by unfold vrt; rw [if_pos h]
theorem vrt_big {n : Nat} (h : 128 ≤ n) : vrt n = (n % 128 + 128) :: vrt (n / 128) := by rw [vrt, if_neg (by omega)]
theorem vrt_len (n : Nat) : 1 ≤ (vrt n).length := by
  by_cases h : n < 128
  · rw [vrt_small h]; simp
  · rw [vrt_big (by omega)]; simp
theorem vrt_byt (n : Nat) : Byt (vrt n) := by
  induction n using Nat.strongRecOn with
  | _ n ih =>
    by_cases h : n < 128
    · rw [vrt_small h]; intro x hx; simp at hx; omega
    · rw [vrt_big (by omega)]
      intro x hx
      rcases List.mem_cons.1 hx with hx | hx
      · omega
      · exact ih (n / 128) (by omega) x hx
def num : List Nat → Nat
  | [] => 0
  | c :: r => c % 128 + 128 * num r
theorem num_vrt (n : Nat) : num (vrt n) = n := by
  induction n using Nat.strongRecOn with
  | _ n ih =>
    by_cases h : n < 128
    · rw [vrt_small h]; simp [num]; omega
    · rw [vrt_big (by omega), num, ih (n / 128) (by omega)]; omega
theorem pw (k : Nat) : 128 ^ (k + 1) = 128 * 128 ^ k := by rw [Nat.pow_succ, Nat.mul_comm]
theorem pw_pos (k : Nat) : 0 < 128 ^ k := Nat.pow_pos (by omega)
theorem num_append (a b : List Nat) : num (a ++ b) = num a + 128 ^ a.length * num b := by
  induction a with
  | nil => simp [num]
  | cons c r ih => simp only [List.cons_append, num, List.length_cons, ih, pw, Nat.mul_add, Nat.mul_assoc]; omega
theorem num_lt (a : List Nat) : num a < 128 ^ a.length := by
  induction a with
  | nil => simp [num]
  | cons c r ih => simp only [num, List.length_cons, pw]; omega
/-- where the first byte below 128 stands (the length, if there is none) -/
def idx : List Nat → Nat
  | [] => 0
  | c :: r => if c < 128 then 0 else idx r + 1
theorem idx_le (l : List Nat) : idx l ≤ l.length := by
  induction l with
  | nil => simp [idx]
  | cons c r ih => simp only [idx, List.length_cons]; split <;> omega
theorem idx_lt {l : List Nat} {j : Nat} (h : j < idx l) : 128 ≤ l.getD j 0 := by
  induction l generalizing j with
  | nil => simp [idx] at h
  | cons c r ih =>
    simp only [idx] at h
    split at h
    · omega
    · cases j with
      | zero => simp; omega
      | succ j => rw [List.getD_cons_succ]; exact ih (by omega)
theorem idx_at {l : List Nat} (h : idx l < l.length) : l.getD (idx l) 0 < 128 := by
  induction l with
  | nil => simp at h
  | cons c r ih =>
    simp only [idx, List.length_cons] at h ⊢
    split
    · simpa
    · rename_i h1; rw [if_neg h1] at h; rw [List.getD_cons_succ]; exact ih (by omega)
theorem idx_eq {l : List Nat} {k : Nat} (h : ∀ j, j < k → 128 ≤ l.getD j 0) (hk : k < l.length) (hc : l.getD k 0 < 128) : idx l = k := by
  rcases Nat.lt_trichotomy (idx l) k with h1 | h1 | h1
  · have := h _ h1
    have := idx_at (l := l) (by omega)
    omega
  · exact h1
  · have := idx_lt h1; omega
theorem idx_all {l : List Nat} (h : ∀ j, j < l.length → 128 ≤ l.getD j 0) : idx l = l.length := by
  rcases Nat.lt_or_ge (idx l) l.length with h1 | h1
  · have := h _ h1
    have := idx_at h1
    omega
  · have := idx_le l; omega
/-- what Decode answers: number, length, error -/
def dec (l : List Nat) : Nat × Nat × Nat :=
  if 10 ≤ idx l then (0, 0, 22)
  else if idx l = l.length then (0, 0, 21)
  else if idx l = 9 ∧ 1 < l.getD 9 0 then (0, 0, 22)
  else if 0 < idx l ∧ l.getD (idx l) 0 = 0 then (0, 0, 23)
  else (num (l.take (idx l + 1)), idx l + 1, 0)
theorem num_pos {l : List Nat} (h : idx l < l.length) (hc : l.getD (idx l) 0 ≠ 0) : 0 < num (l.take (idx l + 1)) := by
  induction l with
  | nil => simp at h
  | cons c r ih =>
    simp only [idx, List.length_cons] at h hc ⊢
    by_cases h1 : c < 128
    · rw [if_pos h1] at hc ⊢
      simp [num] at hc ⊢; omega
    · rw [if_neg h1] at h hc ⊢
      rw [List.getD_cons_succ] at hc
      have := ih (by omega) hc
      rw [List.take_succ_cons, num]; omega
theorem vrt_num {l : List Nat} (hb : Byt l) (h : idx l < l.length) (hc : idx l = 0 ∨ l.getD (idx l) 0 ≠ 0) : vrt (num (l.take (idx l + 1))) = l.take (idx l + 1) := by
  induction l with
  | nil => simp at h
  | cons c r ih =>
    simp only [idx, List.length_cons] at h hc ⊢
    by_cases h1 : c < 128
    · rw [if_pos h1]
      simp only [Nat.zero_add, List.take_succ_cons, List.take_zero, num, Nat.mul_zero, Nat.add_zero]
      rw [Nat.mod_eq_of_lt h1, vrt_small h1]
    · rw [if_neg h1] at h hc ⊢
      have hc' : r.getD (idx r) 0 ≠ 0 := by
        rcases hc with hc | hc
        · omega
        · rwa [List.getD_cons_succ] at hc
      have hp := num_pos (l := r) (by omega) hc'
      have hcb := hb c (List.mem_cons_self)
      have := ih (fun x hx => hb x (List.mem_cons_of_mem _ hx)) (by omega) (.inr hc')
      rw [List.take_succ_cons, num, vrt_big (by omega)]
      rw [show (c % 128 + 128 * num (List.take (idx r + 1) r)) / 128 = num (List.take (idx r + 1) r) by omega, this]
      rw [show (c % 128 + 128 * num (List.take (idx r + 1) r)) % 128 + 128 = c by omega]
theorem vrt_at (n j : Nat) (h : j + 1 < (vrt n).length) : 128 ≤ (vrt n).getD j 0 := by
  induction n using Nat.strongRecOn generalizing j with
  | _ n ih =>
    by_cases h1 : n < 128
    · rw [vrt_small h1] at h; simp at h
    · rw [vrt_big (by omega)] at h ⊢
      cases j with
      | zero => simp
      | succ j => rw [List.getD_cons_succ]; exact ih (n / 128) (by omega) j (by simpa using h)
theorem vrt_last (n : Nat) : (vrt n).getD ((vrt n).length - 1) 0 = n / 128 ^ ((vrt n).length - 1) := by
  induction n using Nat.strongRecOn with
  | _ n ih =>
    by_cases h1 : n < 128
    · rw [vrt_small h1]; simp
    · have hl := vrt_len (n / 128)
      rw [vrt_big (by omega)]
      rw [List.length_cons, Nat.add_sub_cancel]
      obtain ⟨k, hk⟩ : ∃ k, (vrt (n / 128)).length = k + 1 := ⟨_, (Nat.sub_add_cancel hl).symm⟩
      have := ih (n / 128) (by omega)
      rw [hk, Nat.add_sub_cancel] at this
      rw [hk, List.getD_cons_succ, this, pw, Nat.div_div_eq_div_mul]
theorem vrt_lo (n : Nat) (h : 1 < (vrt n).length) : 128 ^ ((vrt n).length - 1) ≤ n := by
  induction n using Nat.strongRecOn with
  | _ n ih =>
    by_cases h1 : n < 128
    · rw [vrt_small h1] at h; simp at h
    · have hl := vrt_len (n / 128)
      rw [vrt_big (by omega), List.length_cons, Nat.add_sub_cancel]
      obtain ⟨k, hk⟩ : ∃ k, (vrt (n / 128)).length = k + 1 := ⟨_, (Nat.sub_add_cancel hl).symm⟩
      have := ih (n / 128) (by omega)
      rw [hk, Nat.add_sub_cancel] at this
      rw [hk, pw]
      rcases Nat.eq_zero_or_pos k with h0 | h0
      · subst h0; simp; omega
      · have := this (by omega)
        calc 128 * 128 ^ k ≤ 128 * (n / 128) := Nat.mul_le_mul_left _ this
          _ ≤ n := by omega
theorem vrt_hi (n : Nat) : n < 128 ^ (vrt n).length := by
  have := num_lt (vrt n)
  rwa [num_vrt] at this
theorem vrt_le {n k : Nat} (h : n < 128 ^ k) (hk : 1 ≤ k) : (vrt n).length ≤ k := by
  rcases Nat.lt_or_ge k (vrt n).length with h1 | h1
  · have := vrt_lo n (by omega)
    have : 128 ^ k ≤ 128 ^ ((vrt n).length - 1) := Nat.pow_le_pow_right (by omega) (by omega)
    omega
  · exact h1
theorem vrt_ten {n : Nat} (h : n < 18446744073709551616) : (vrt n).length ≤ 10 := vrt_le (Nat.lt_of_lt_of_le h (by decide)) (by omega)
theorem getD_app_left {a b : List Nat} {j : Nat} (h : j < a.length) : (a ++ b).getD j 0 = a.getD j 0 := by
  rw [List.getD_eq_getElem?_getD, List.getD_eq_getElem?_getD, List.getElem?_append_left h]
theorem idx_vrt (n : Nat) (r : List Nat) : idx (vrt n ++ r) + 1 = (vrt n).length := by
  have hl := vrt_len n
  have : idx (vrt n ++ r) = (vrt n).length - 1 := by
    refine idx_eq (fun j hj => ?_) (by rw [List.length_append]; omega) ?_
    · rw [getD_app_left (by omega)]; exact vrt_at n j (by omega)
    · rw [getD_app_left (by omega), vrt_last]
      have := vrt_hi n
      rw [Nat.div_lt_iff_lt_mul (pw_pos _), ← pw, Nat.sub_add_cancel hl]
      exact this
  omega
/-- what is encoded is decoded, whatever stands behind -/
theorem dec_vrt {n : Nat} (h : n < 18446744073709551616) (r : List Nat) : dec (vrt n ++ r) = (n, (vrt n).length, 0) := by
  have hi := idx_vrt n r
  have hl := vrt_ten h
  have hla := vrt_last n
  have hlo := vrt_lo n
  have e : (vrt n ++ r).getD (idx (vrt n ++ r)) 0 = n / 128 ^ ((vrt n).length - 1) := by
    rw [getD_app_left (by omega), show idx (vrt n ++ r) = (vrt n).length - 1 by omega, hla]
  unfold dec
  rw [if_neg (by omega), if_neg (by rw [List.length_append]; omega), if_neg, if_neg]
  · rw [hi, List.take_left', num_vrt]; rfl
  · rintro ⟨h1, h2⟩
    rw [e] at h2
    have := hlo (by omega)
    have := Nat.div_pos this (pw_pos _)
    omega
  · rintro ⟨h1, h2⟩
    rw [h1] at e
    rw [e, show (vrt n).length - 1 = 9 by omega] at h2
    have : n / 128 ^ 9 < 2 := by rw [Nat.div_lt_iff_lt_mul (by decide)]; exact h
    omega
theorem dec_ok {l : List Nat} {n k : Nat} (hb : Byt l) (h : dec l = (n, k, 0)) : vrt n = l.take k ∧ 1 ≤ k ∧ k ≤ 10 ∧ k ≤ l.length ∧ n < 18446744073709551616 ∧ k = (vrt n).length := by
  have hle := idx_le l
  unfold dec at h
  split at h
  · simp at h
  · split at h
    · simp at h
    · split at h
      · simp at h
      · split at h
        · simp at h
        · rename_i h1 h2 h3 h4
          simp only [Prod.mk.injEq, and_true] at h
          obtain ⟨rfl, rfl⟩ := h
          have hv := vrt_num hb (by omega) (by omega)
          refine ⟨hv, by omega, by omega, by omega, ?_, by rw [hv, List.length_take]; omega⟩
          by_cases h9 : idx l = 9
          · rw [h9, take_succ_getD (by omega), num_append]
            have hx := num_lt (l.take 9)
            rw [List.length_take, show min 9 l.length = 9 by omega] at hx ⊢
            have : l.getD 9 0 ≤ 1 := by omega
            simp only [num, Nat.mul_zero, Nat.add_zero]
            rw [Nat.mod_eq_of_lt (by omega)]
            have e : (128 : Nat) ^ 9 = 9223372036854775808 := by decide
            rw [e] at hx ⊢
            omega
          · have hx := num_lt (l.take (idx l + 1))
            rw [List.length_take] at hx
            have : 128 ^ min (idx l + 1) l.length ≤ 128 ^ 9 := Nat.pow_le_pow_right (by omega) (by omega)
            have e : (128 : Nat) ^ 9 = 9223372036854775808 := by decide
            omega
theorem bl_aux (f x : Nat) (hx : x < 2 ^ f) : x < 2 ^ Lib.bitLenAux f x ∧ (x ≠ 0 → 2 ^ (Lib.bitLenAux f x - 1) ≤ x) ∧ (x ≠ 0 → 0 < Lib.bitLenAux f x) := by
  induction f generalizing x with
  | zero => simp [Lib.bitLenAux] at *; omega
  | succ f ih =>
    unfold Lib.bitLenAux
    split
    · subst_vars; simp
    · rename_i h0
      obtain ⟨h1, h2, h3⟩ := ih (x / 2) (by rw [Nat.pow_succ] at hx; omega)
      refine ⟨by rw [Nat.add_comm, Nat.pow_succ]; omega, fun _ => ?_, fun _ => by omega⟩
      rw [Nat.add_sub_cancel_left]
      by_cases h : x / 2 = 0
      · rw [h]
        cases f with
        | zero => simp [Lib.bitLenAux]; omega
        | succ f => simp [Lib.bitLenAux]; omega
      · have h4 := h2 h
        have h5 := h3 h
        obtain ⟨k, hk⟩ : ∃ k, Lib.bitLenAux f (x / 2) = k + 1 := ⟨_, (Nat.sub_add_cancel h5).symm⟩
        rw [hk] at h4 ⊢
        rw [Nat.add_sub_cancel] at h4
        rw [Nat.pow_succ]; omega
theorem bl_spec {x : Nat} (hx : x < 18446744073709551616) : x < 2 ^ Lib.bitLen x ∧ (x ≠ 0 → 2 ^ (Lib.bitLen x - 1) ≤ x) ∧ (x ≠ 0 → 0 < Lib.bitLen x) := bl_aux 64 x hx
theorem pow7 (k : Nat) : 128 ^ k = 2 ^ (7 * k) := by rw [show (128 : Nat) = 2 ^ 7 by decide, ← Nat.pow_mul]
theorem bl_le {x : Nat} (hx : x < 18446744073709551616) : Lib.bitLen x ≤ 64 := by
  obtain ⟨_, h2, _⟩ := bl_spec hx
  by_cases h : x = 0
  · subst h; decide
  · have := h2 h
    rcases Nat.lt_or_ge 64 (Lib.bitLen x) with h1 | h1
    · have : 2 ^ 64 ≤ 2 ^ (Lib.bitLen x - 1) := Nat.pow_le_pow_right (by omega) (by omega)
      have : (2 : Nat) ^ 64 = 18446744073709551616 := by decide
      omega
    · exact h1
theorem or_one (n : Nat) : n ||| 1 = n / 2 * 2 + 1 := by
  have h := Nat.div_add_mod (n ||| 1) 2
  have e1 : (n ||| 1) / 2 = n / 2 := by
    have := Nat.shiftRight_or_distrib (a := n) (b := 1) (i := 1)
    simp only [Nat.shiftRight_succ, Nat.shiftRight_zero] at this
    simpa using this
  have e2 : (n ||| 1) % 2 = 1 := by
    rw [Nat.or_mod_two_eq_one]; omega
  omega
/-- Size's count is the varint's length -/
theorem size_vrt {n : Nat} (h : n < 18446744073709551616) : (Lib.bitLen (n ||| 1) + 6) / 7 = (vrt n).length := by
  have hx : n ||| 1 < 18446744073709551616 := Nat.or_lt_two_pow (n := 64) h (by decide)
  have hne : n ||| 1 ≠ 0 := by rw [or_one]; omega
  obtain ⟨h1, h2, h3⟩ := bl_spec hx
  have h2 := h2 hne
  have h3 := h3 hne
  have hl := vrt_len n
  have hhi := vrt_hi n
  have hhi2 : n ||| 1 < 2 ^ (7 * (vrt n).length) := by
    rw [← pow7, or_one]
    have : 128 ^ (vrt n).length = 128 * 128 ^ ((vrt n).length - 1) := by rw [← pw, Nat.sub_add_cancel hl]
    omega
  have hlo : 2 ^ (7 * ((vrt n).length - 1)) ≤ n ||| 1 := by
    rw [← pow7, or_one]
    rcases Nat.lt_or_ge 1 (vrt n).length with h4 | h4
    · have := vrt_lo n h4; omega
    · rw [show (vrt n).length - 1 = 0 by omega]; simp
  have a1 : Lib.bitLen (n ||| 1) - 1 < 7 * (vrt n).length := by
    refine (Nat.pow_lt_pow_iff_right (a := 2) (by omega)).1 ?_
    omega
  have a2 : 7 * ((vrt n).length - 1) < Lib.bitLen (n ||| 1) := by
    refine (Nat.pow_lt_pow_iff_right (a := 2) (by omega)).1 ?_
    omega
  omega

/-- so many digits of a number, the highest first -/
def dg : Nat → Nat → List Nat
  | 0, _ => []
  | c + 1, n => n / 128 ^ c % 128 :: dg c n
theorem dg_len (c n : Nat) : (dg c n).length = c := by
  induction c with
  | zero => rfl
  | succ c ih => simp [dg, ih]
theorem dg_lt (c n : Nat) : ∀ x ∈ dg c n, x < 128 := by
  induction c with
  | zero => simp [dg]
  | succ c ih =>
    intro x hx
    rcases List.mem_cons.1 hx with rfl | hx
    · omega
    · exact ih x hx
theorem dg_byt (c n : Nat) : Byt (dg c n) := fun x hx => by have := dg_lt c n x hx; omega
def nm (l : List Nat) : Nat := l.foldl (fun a c => a * 128 + c) 0
theorem nm_snoc (l : List Nat) (c : Nat) : nm (l ++ [c]) = nm l * 128 + c := by simp [nm, List.foldl_append]
theorem nm_foldl (a : Nat) (l : List Nat) : l.foldl (fun a c => a * 128 + c) a = a * 128 ^ l.length + nm l := by
  induction l generalizing a with
  | nil => simp [nm]
  | cons x r ih =>
    simp only [List.foldl_cons, List.length_cons, nm]
    rw [ih, ih (0 * 128 + x), pw, Nat.zero_mul, Nat.zero_add, Nat.add_mul, Nat.mul_assoc, Nat.add_assoc]
theorem nm_cons (x : Nat) (r : List Nat) : nm (x :: r) = x * 128 ^ r.length + nm r := by
  rw [nm, List.foldl_cons, nm_foldl, Nat.zero_mul, Nat.zero_add]
theorem nm_dg (c n : Nat) : nm (dg c n) = n % 128 ^ c := by
  induction c with
  | zero => simp [dg, nm, Nat.mod_one]
  | succ c ih =>
    rw [dg, nm_cons, dg_len, ih, Nat.pow_succ, Nat.mod_mul, Nat.mul_comm, Nat.add_comm]
theorem nm_lt {l : List Nat} (h : ∀ x ∈ l, x < 128) : nm l < 128 ^ l.length := by
  induction l with
  | nil => simp [nm]
  | cons x r ih =>
    have h1 := h x List.mem_cons_self
    have h2 := ih fun y hy => h y (List.mem_cons_of_mem _ hy)
    rw [nm_cons, List.length_cons, pw]
    have : x * 128 ^ r.length ≤ 127 * 128 ^ r.length := Nat.mul_le_mul_right _ (by omega)
    omega
theorem dg_nm {l : List Nat} (h : ∀ x ∈ l, x < 128) : dg l.length (nm l) = l := by
  have key : ∀ (l : List Nat), (∀ x ∈ l, x < 128) → ∀ a, dg l.length (a * 128 ^ l.length + nm l) = l := by
    intro l
    induction l with
    | nil => intro _ _; rfl
    | cons x r ih =>
      intro h a
      have h1 := h x List.mem_cons_self
      have h2 := nm_lt fun y hy => h y (List.mem_cons_of_mem _ hy)
      have hr := fun y hy => h y (List.mem_cons_of_mem _ hy)
      rw [List.length_cons, dg, nm_cons, pw]
      have e : a * (128 * 128 ^ r.length) + (x * 128 ^ r.length + nm r) = (a * 128 + x) * 128 ^ r.length + nm r := by
        rw [Nat.add_mul, Nat.mul_assoc, Nat.add_assoc]
      rw [e, ih hr (a * 128 + x)]
      rw [Nat.add_comm ((a * 128 + x) * 128 ^ r.length), Nat.add_mul_div_right _ _ (pw_pos _), Nat.div_eq_of_lt h2]
      congr 1
      omega
  have := key l h 0
  rwa [Nat.zero_mul, Nat.zero_add] at this
theorem bl_digits {n c : Nat} (h : n < 18446744073709551616) : 7 * c < Lib.bitLen n ↔ 128 ^ c ≤ n := by
  obtain ⟨h1, h2, h3⟩ := bl_spec h
  rw [pow7]
  constructor
  · intro h4
    have hn : n ≠ 0 := by intro e; subst e; simp [Lib.bitLen, Lib.bitLenAux] at h4
    have := h2 hn
    have : 2 ^ (7 * c) ≤ 2 ^ (Lib.bitLen n - 1) := Nat.pow_le_pow_right (by omega) (by omega)
    omega
  · intro h4
    refine (Nat.pow_lt_pow_iff_right (a := 2) (by omega)).1 ?_
    omega
end Vt
end Go.Proofs.Ytnjhbidialngmaa
namespace Go.Proofs.Ytnjhbidialngmaa
open Go.ChangeShapes Go.WideShapes Go.ChangeAt Go.RowKit
namespace Vt
theorem hd {p : Prop} (h : p) : Hid p := h
theorem own : ownKnob Try.prog.godebug = none := by kernel_rfl
theorem laidOut : laidOutB Try.prog = true := by kernel_rfl
theorem ret_int {k : IntKind} {a b : Int} (h : a = b) : Ending.returned (.int k a) = .returned (.int k b) := by rw [h]

/-- A row of numbers in memory. -/
def RowK (k : IntKind) (w : World) (b off : Nat) (l : List Nat) : Prop := ∀ i, i < l.length → w.cell? ⟨b, off + i, none⟩ = some (.int k ((l.getD i 0 : Nat) : Int))
/-- A slice value that reads as the numbers l, each below M. -/
def IsK (k : IntKind) (M : Nat) (w : World) (v : Value) (l : List Nat) : Prop :=
  (∀ x ∈ l, x < M) ∧ l.length ≤ maxLen ∧ ((l = [] ∧ ∃ a c, v = .slice a 0 c) ∨ ∃ b off c, v = .slice (some ⟨b, off, none⟩) l.length c ∧ l.length ≤ c ∧ c ≤ maxLen ∧ b < w.heap.size ∧ RowK k w b off l)
abbrev Row := RowK .u8
abbrev IsB := IsK .u8 256
abbrev IsN := IsK .u64 18446744073709551616
theorem lt_of_cell {w : World} {p : Addr} {v : Value} (h : w.cell? p = some v) : p.block < w.heap.size := by
  rcases Nat.lt_or_ge p.block w.heap.size with h' | h'
  · exact h'
  · simp [World.cell?, Array.getElem?_eq_none h'] at h
theorem add_at (b off k : Nat) : Addr.add ⟨b, off, none⟩ k = ⟨b, off + k, none⟩ := by
  unfold Addr.add; split
  · subst_vars; rfl
  · rfl
theorem IsK.drewN {k : IntKind} {M : Nat} {w : World} {v : Value} {l : List Nat} (h : IsK k M w v l) (n : Nat) : IsK k M (w.drewN n) v l := h
theorem IsK.shape {k : IntKind} {M : Nat} {w : World} {v : Value} {l : List Nat} (h : IsK k M w v l) : ∃ a c, v = .slice a l.length c := by
  obtain ⟨_, _, ⟨rfl, a, c, rfl⟩ | ⟨b, off, c, rfl, _⟩⟩ := h
  · exact ⟨a, c, rfl⟩
  · exact ⟨_, c, rfl⟩
theorem IsK.below {k : IntKind} {M : Nat} {w w' : World} {v : Value} {l : List Nat} (h : IsK k M w v l) (hb : Below w.heap.size w w') : IsK k M w' v l := by
  obtain ⟨h1, h2, ⟨rfl, a, c, rfl⟩ | ⟨b, off, c, rfl, h3, h4, h5, h6⟩⟩ := h
  · exact ⟨h1, h2, .inl ⟨rfl, a, c, rfl⟩⟩
  · refine ⟨h1, h2, .inr ⟨b, off, c, rfl, h3, h4, Nat.lt_of_lt_of_le h5 hb.size, fun k hk => ?_⟩⟩
    rw [hb.cell h5]; exact h6 k hk
theorem isK_nil (k : IntKind) (M : Nat) (w : World) (a : Option Addr) (c : Nat) : IsK k M w (.slice a 0 c) [] := ⟨by intro x hx; simp at hx, by simp, .inl ⟨rfl, _, _, rfl⟩⟩
theorem IsK.row {k : IntKind} {M : Nat} {w : World} {b off n c : Nat} {l : List Nat} (h : IsK k M w (.slice (some ⟨b, off, none⟩) n c) l) : RowK k w b off l := by
  obtain ⟨h1, h2, ⟨rfl, a, c', e⟩ | ⟨b', off', c', e, h3, h4, h5, h6⟩⟩ := h
  · intro k hk; simp at hk
  · injection e with e1 e2 e3
    injection e1 with e1
    injection e1 with e4 e5
    subst e2 e3 e4 e5
    exact h6
theorem IsK.take {k : IntKind} {M : Nat} {w : World} {a : Option Addr} {n c : Nat} {l : List Nat} (h : IsK k M w (.slice a n c) l) (m : Nat) (hm : m ≤ l.length) : IsK k M w (.slice a m c) (l.take m) := by
  obtain ⟨h1, h2, ⟨rfl, a', c', e⟩ | ⟨b', off', c', e, h3, h4, h5, h6⟩⟩ := h
  · obtain rfl : m = 0 := by simpa using hm
    rw [List.take_nil]; exact isK_nil _ _ _ _ _
  · injection e with e1 e2 e3
    subst e1 e2 e3
    have hl : (l.take m).length = m := by rw [List.length_take]; omega
    refine ⟨fun x hx => h1 x (List.mem_of_mem_take hx), by omega, .inr ⟨b', off', c, by rw [hl], by omega, h4, h5, fun j hj => ?_⟩⟩
    rw [hl] at hj
    rw [h6 j (by omega), List.getD_eq_getElem?_getD, List.getD_eq_getElem?_getD, List.getElem?_take_of_lt hj]
theorem IsK.drop {k : IntKind} {M : Nat} {w : World} {b off n c : Nat} {l : List Nat} (h : IsK k M w (.slice (some ⟨b, off, none⟩) n c) l) (m : Nat) (hm : m ≤ n) (o' n' c' : Nat) (ho : m < n → o' = off + m) (hn : n' = n - m) (hc : c' = c - m) : IsK k M w (.slice (some ⟨b, o', none⟩) n' c') (l.drop m) := by
  subst hn hc
  obtain ⟨h1, h2, ⟨rfl, a', c', e⟩ | ⟨b', off', c', e, h3, h4, h5, h6⟩⟩ := h
  · injection e with e1 e2 e3
    subst e2
    rw [List.drop_nil, Nat.zero_sub]; exact isK_nil _ _ _ _ _
  · injection e with e1 e2 e3
    injection e1 with e1
    injection e1 with e4 e5
    subst e2 e3 e4 e5
    have hl : (l.drop m).length = l.length - m := List.length_drop
    by_cases hlt : m < l.length
    · rw [ho hlt]
      refine ⟨fun x hx => h1 x (List.mem_of_mem_drop hx), by omega, .inr ⟨b, off + m, c - m, by rw [hl], by omega, by omega, h5, fun j hj => ?_⟩⟩
      rw [hl] at hj
      rw [Nat.add_assoc, h6 (m + j) (by omega), List.getD_eq_getElem?_getD, List.getD_eq_getElem?_getD, List.getElem?_drop]
    · have e : l.drop m = [] := List.drop_of_length_le (by omega)
      rw [e, show l.length - m = 0 by omega]; exact isK_nil _ _ _ _ _
theorem IsK.dropIf {k : IntKind} {M : Nat} {w : World} {b off n c : Nat} {l : List Nat} (h : IsK k M w (.slice (some ⟨b, off, none⟩) n c) l) (m : Nat) (hk : m ≤ n) (hn : n ≤ c) :
    IsK k M w (.slice (if c = m then some ⟨b, off, none⟩ else some ⟨b, off + m, none⟩) (n - m) (c - m)) (l.drop m) := by
  split
  · exact h.drop m hk off _ _ (by omega) rfl rfl
  · exact h.drop m hk (off + m) _ _ (fun _ => rfl) rfl rfl

/-- What a walk is told of a slice of integers that came in: it is nil; or it leads to a row of 'cap' cells, the numbers 'zs' (the first 'len' are its elements), each fitting its kind. -/
def IsRow (k : IntKind) (w : World) (a : Option Addr) (len cap : Nat) (zs : List Int) : Prop :=
  (a = none ∧ len = 0 ∧ cap = 0 ∧ zs = []) ∨
  ∃ x, a = some x ∧ len ≤ cap ∧ cap ≤ maxLen ∧ zs.length = cap ∧ (∀ i, i < zs.length → w.cell? (x.add i) = some (.int k (zs.getD i 0))) ∧ ∀ n ∈ zs, (Lit.int k n).wf = true
theorem isK_of {k : IntKind} {M : Nat} (hw : ∀ n : Int, (Lit.int k n).wf = true → 0 ≤ n ∧ n < (M : Int)) {w : World} {a : Option Addr} {len cap : Nat} {zs : List Int} (h : IsRow k w a len cap zs) : ∃ l : List Nat, l.length = len ∧ IsK k M w (.slice a len cap) l := by
  rcases h with ⟨rfl, rfl, rfl, rfl⟩ | ⟨x, rfl, hl, hm, hz, hcell, hwz⟩
  · exact ⟨[], rfl, isK_nil _ _ _ _ _⟩
  · have hlen : ((zs.take len).map Int.toNat).length = len := by rw [List.length_map, List.length_take]; omega
    refine ⟨(zs.take len).map Int.toNat, hlen, ?_, by rw [hlen]; omega, ?_⟩
    · intro n hn
      obtain ⟨z, hz1, rfl⟩ := List.mem_map.1 hn
      have := hw z (hwz z (List.mem_of_mem_take hz1))
      omega
    by_cases h0 : len = 0
    · subst h0
      exact .inl ⟨by simp, _, _, rfl⟩
    · obtain ⟨b, off, spot⟩ := x
      have hc := hcell 0 (by omega)
      have hspot : spot = none := by simpa [Addr.add] using World.cell?_spot hc
      subst hspot
      have hbl : b < w.heap.size := lt_of_cell hc
      refine .inr ⟨b, off, cap, by rw [hlen], by rw [hlen]; omega, hm, hbl, ?_⟩
      intro j hj
      rw [hlen] at hj
      have hck := hcell j (by omega)
      have hg : zs[j]? = some (zs.getD j 0) := by rw [List.getD_eq_getElem?_getD, List.getElem?_eq_getElem (by omega)]; rfl
      have hwj := hw _ (hwz (zs.getD j 0) (List.mem_of_getElem? hg))
      have he : (((zs.take len).map Int.toNat).getD j 0 : Nat) = (zs.getD j 0).toNat := by
        rw [List.getD_eq_getElem?_getD, List.getElem?_map, List.getElem?_take_of_lt hj, hg]; rfl
      rw [he, show (((zs.getD j 0).toNat : Nat) : Int) = zs.getD j 0 by omega]
      rw [add_at] at hck
      exact hck
theorem wf_u8 {n : Int} (h : (Lit.int .u8 n).wf = true) : 0 ≤ n ∧ n < ((256 : Nat) : Int) := by
  have := bounds_u8 h; omega
theorem IsRow.isB {w : World} {a : Option Addr} {len cap : Nat} {zs : List Int} (h : IsRow .u8 w a len cap zs) : ∃ l : List Nat, l.length = len ∧ IsB w (.slice a len cap) l := isK_of (fun _ => wf_u8) h
def bs (l : List Nat) : List Value := l.map fun x => Value.int .u8 ((x : Nat) : Int)
theorem bs_app (a b : List Nat) : bs a ++ bs b = bs (a ++ b) := by unfold bs; rw [List.map_append]
theorem bs_len (l : List Nat) : (bs l).length = l.length := by simp [bs]
/-- The block g holds the bytes l, and they may be written. -/
def Buf (w : World) (g cap : Nat) (l : List Nat) : Prop := l.length ≤ cap ∧ cap ≤ maxLen ∧ g < w.heap.size ∧ Byt l ∧ Row w g 0 l ∧ ∀ j, j < l.length → w.frozen? ⟨g, j, none⟩ = false
theorem Buf.isB {w : World} {g cap n : Nat} {l : List Nat} (h : Buf w g cap l) (hn : n = l.length) : IsB w (.slice (some ⟨g, 0, none⟩) n cap) l := by
  subst hn
  obtain ⟨h1, h2, h3, h4, h5, _⟩ := h
  exact ⟨h4, by omega, .inr ⟨g, 0, cap, rfl, h1, h2, h3, h5⟩⟩
theorem Buf.cell {w : World} {g cap : Nat} {l : List Nat} (h : Buf w g cap l) {j : Nat} (hj : j < l.length) : w.cell? ⟨g, j, none⟩ = some (.int .u8 ((l.getD j 0 : Nat) : Int)) := by
  have := h.2.2.2.2.1 j hj
  rwa [Nat.zero_add] at this
theorem Buf.set {w : World} {g cap : Nat} {l : List Nat} (h : Buf w g cap l) {j y : Nat} (hj : j < l.length) (hy : y < 256) : Buf (w.setCell ⟨g, j, none⟩ (.int .u8 (y : Int))) g cap (l.set j y) := by
  have hcj := h.cell hj
  obtain ⟨h1, h2, h3, h4, h5, h6⟩ := h
  refine ⟨by rw [List.length_set]; exact h1, h2, ?_, ?_, ?_, ?_⟩
  · have : (w.setCell ⟨g, j, none⟩ (.int .u8 (y : Int))).heap.size = w.heap.size := by simp [World.setCell]
    omega
  · intro x hx
    rcases List.mem_or_eq_of_mem_set hx with hx | hx
    · exact h4 x hx
    · omega
  · intro k hk
    rw [List.length_set] at hk
    rw [Nat.zero_add]
    by_cases e : k = j
    · subst e
      rw [World.cell?_setCell_same _ _ _ hcj, List.getD_eq_getElem?_getD, List.getElem?_set_self hj]; rfl
    · rw [World.cell?_setCell_other _ _ _ _ (by intro he; injection he; omega)]
      have := h5 k hk
      rw [Nat.zero_add] at this
      rw [this, List.getD_eq_getElem?_getD, List.getD_eq_getElem?_getD, List.getElem?_set_ne (by omega)]
  · intro k hk
    rw [List.length_set] at hk
    rw [World.frozen?_setCell]; exact h6 k hk
theorem Buf.below {w w' : World} {g cap n : Nat} {l : List Nat} (h : Buf w g cap l) (hg : g < n) (hb : Below n w w') : Buf w' g cap l := by
  obtain ⟨h1, h2, h3, h4, h5, h6⟩ := h
  refine ⟨h1, h2, Nat.lt_of_lt_of_le h3 hb.size, h4, fun k hk => ?_, fun k hk => ?_⟩
  · rw [hb.cell hg]; exact h5 k hk
  · rw [hb.frozen hg]; exact h6 k hk
theorem Buf.other {w : World} {g cap : Nat} {l : List Nat} (h : Buf w g cap l) {p : Addr} (hp : p.block ≠ g) (v : Value) : Buf (w.setCell p v) g cap l := by
  obtain ⟨h1, h2, h3, h4, h5, h6⟩ := h
  refine ⟨h1, h2, ?_, h4, fun k hk => ?_, fun k hk => ?_⟩
  · have : (w.setCell p v).heap.size = w.heap.size := by simp [World.setCell]
    omega
  · rw [World.cell?_setCell_other _ _ _ _ (by intro e; exact hp (by rw [e]))]; exact h5 k hk
  · rw [World.frozen?_setCell]; exact h6 k hk
theorem bs_at (l : List Nat) (j : Nat) (hj : j < l.length) : (bs l)[j]? = some (.int .u8 ((l.getD j 0 : Nat) : Int)) := by
  unfold bs
  rw [List.getElem?_map, List.getElem?_eq_getElem hj, List.getD_eq_getElem?_getD, List.getElem?_eq_getElem hj]; rfl
theorem buf_of_own {w : World} {base g n cap : Nat} {l : List Nat} (hb : Byt l) (hn : n = l.length) (hg : g < w.heap.size) (h : w.ownsRow base 5 1 (.slice (some ⟨g, 0, none⟩) n cap) n (bs l)) : Buf w g cap l := by
  obtain ⟨h0, ⟨e, _⟩ | ⟨g', cap', cur, e, _, hh, hl, hm, hc, ht⟩⟩ := h
  · simp at e
  · injection e with e1 e2 e3
    injection e1 with e1
    injection e1 with e4 _
    subst e4 e3 hn
    have hat : ∀ j, j < l.length → cur[j]? = some (.int .u8 ((l.getD j 0 : Nat) : Int)) := by
      intro j hj
      have := bs_at l j hj
      rw [← ht, List.getElem?_take_of_lt (by omega)] at this
      simpa using this
    refine ⟨hl, hm, hg, hb, fun k hk => ?_, fun k hk => ?_⟩
    · rw [Nat.zero_add]
      simp only [World.cell?, hh]
      simpa using hat k hk
    · simp [World.frozen?, hh]
theorem news_of_row {w : World} {b off : Nat} {l : List Nat} (h : Row w b off l) : ∀ j u, (bs l)[j]? = some u → w.cell? (Addr.add ⟨b, off, none⟩ j) = some u := by
  intro j u hu
  have hj : j < l.length := by
    have := (List.getElem?_eq_some_iff.1 hu).1
    simpa [bs] using this
  rw [add_at, h j hj]
  rw [bs_at l j hj] at hu
  exact hu
theorem bs_one (l : List Nat) : ∀ u ∈ bs l, u.oneCell' = true := by
  intro u hu
  obtain ⟨x, _, rfl⟩ := List.mem_map.1 hu
  rfl
theorem info_u8 : (Try.prog.info? 5).map (fun i => (i.zero, i.size, i.bytes)) = some (some (.int .u8 0), 1, 1) := by kernel_rfl
theorem own_nil (w : World) (base : Nat) : w.ownsRow base 5 1 (.slice none 0 0) 0 (bs []) := ⟨rfl, .inl ⟨rfl, rfl⟩⟩
/-- a list of bytes of the call's own: nil where there is none -/
def JB (w : World) (base : Nat) (v : Value) (l : List Nat) : Prop := Byt l ∧ w.ownsRow base 5 1 v l.length (bs l)
theorem JB.isB {w : World} {base : Nat} {v : Value} {l : List Nat} (h : JB w base v l) : IsB w v l := by
  obtain ⟨hb, ho⟩ := h
  by_cases h0 : l.length = 0
  · obtain rfl : l = [] := List.length_eq_zero_iff.1 h0
    rcases ho.2 with ⟨rfl, _⟩ | ⟨g, cap, cur, rfl, _⟩
    · exact isK_nil _ _ _ _ _
    · exact isK_nil _ _ _ _ _
  · obtain ⟨g, cap, rfl, _, hlt⟩ := ho.form (by omega)
    exact (buf_of_own hb rfl hlt ho).isB rfl
theorem own_lt {w : World} {base g n cap : Nat} {e : TypeId} {xs : List Value} (h : w.ownsRow base e 1 (.slice (some ⟨g, 0, none⟩) n cap) n xs) : g < w.heap.size ∧ base ≤ g := by
  obtain ⟨_, ⟨h, _⟩ | ⟨g', cap', cur, h, hb, hh, _⟩⟩ := h
  · cases h
  · injection h with h1 h2 h3
    injection h1 with h1
    injection h1 with h1
    subst h1
    exact ⟨(Array.getElem?_eq_some_iff.1 hh).1, hb⟩
theorem JB.buf {w : World} {base g n cap : Nat} {l : List Nat} (h : JB w base (.slice (some ⟨g, 0, none⟩) n cap) l) : Buf w g cap l := by
  obtain ⟨hb, ho⟩ := h
  have hn : n = l.length := by
    rcases ho.2 with ⟨h, _⟩ | ⟨g', cap', cur, h, _⟩
    · cases h
    · injection h with h1 h2 h3
  subst hn
  exact buf_of_own hb rfl (own_lt ho).1 ho
theorem own_set {w : World} {base g n cap j : Nat} {e : TypeId} {xs : List Value} (h : w.ownsRow base e 1 (.slice (some ⟨g, 0, none⟩) n cap) n xs) (u : Value) : (w.setCell ⟨g, j, none⟩ u).ownsRow base e 1 (.slice (some ⟨g, 0, none⟩) n cap) n (xs.set j u) := by
  obtain ⟨h0, ⟨h, _⟩ | ⟨g', cap', cur, h, hb, hh, hl, hm, hc, ht⟩⟩ := h
  · cases h
  · injection h with h1 h2 h3
    injection h1 with h1
    injection h1 with h1
    subst h1 h3
    refine ⟨by rw [List.length_set]; exact h0, .inr ⟨g, cap, cur.setIfInBounds j u, rfl, hb, ?_, hl, hm, by rw [Array.size_setIfInBounds]; exact hc, ?_⟩⟩
    · have hlt := (Array.getElem?_eq_some_iff.1 hh).1
      have h' : w.heap[g] = .cells cur e (0, 0) := by simpa [Array.getElem?_eq_getElem hlt] using hh
      show (w.heap.modify g _)[g]? = _
      rw [Array.getElem?_eq_getElem (by simpa using hlt), Array.getElem_modify_self, h']
      rfl
    · rw [Array.toList_setIfInBounds, List.take_set, ht]
theorem JB.set {w : World} {base g n cap j y : Nat} {l : List Nat} (h : JB w base (.slice (some ⟨g, 0, none⟩) n cap) l) (hn : n = l.length) (hy : y < 256) : JB (w.setCell ⟨g, j, none⟩ (.int .u8 (y : Int))) base (.slice (some ⟨g, 0, none⟩) n cap) (l.set j y) := by
  subst hn
  refine ⟨?_, ?_⟩
  · intro x hx
    rcases List.mem_or_eq_of_mem_set hx with hx | hx
    · exact h.1 x hx
    · omega
  · have := own_set (j := j) h.2 (.int .u8 (y : Int))
    unfold bs
    rw [List.length_set, List.map_set]
    exact this
end Vt
end Go.Proofs.Ytnjhbidialngmaa
namespace Go.Proofs.Ytnjhbidialngmaa
open Go.RowKit
namespace Vt
theorem drewN2 (w : World) (n m : Nat) : ∃ k, (w.drewN n).drewN m = w.drewN k := ⟨n + m, World.drewN_drewN w n m⟩
theorem ext_getD {la lb : List Nat} (hl : la.length = lb.length) (h : ∀ k, k < la.length → la.getD k 0 = lb.getD k 0) : la = lb := by
  refine List.ext_getElem hl fun i h1 h2 => ?_
  have := h i h1
  rwa [List.getD_eq_getElem?_getD, List.getD_eq_getElem?_getD, List.getElem?_eq_getElem h1, List.getElem?_eq_getElem h2] at this
theorem made8 (n : Nat) : (madeCells (Value.int .u8 0).cells (n * 1)).toList = bs (List.replicate n 0) := by
  refine List.ext_getElem (by simp [madeCells, bs]) fun i h1 h2 => ?_
  simp [madeCells, bs, Value.cells, Nat.mod_one]
theorem lit_isK (k : IntKind) (M : Nat) (w : World) (xs : Array Value) (t : TypeId) (l : List Nat) (n : Nat) (hn : n = l.length) (hx : xs = (l.map fun x => Value.int k ((x : Nat) : Int)).toArray) (hb : ∀ x ∈ l, x < M) (hm : l.length ≤ maxLen) : IsK k M (w.alloc (.cells xs t)) (.slice (some ⟨w.heap.size, 0, none⟩) n n) l := by
  subst hn
  refine ⟨hb, hm, .inr ⟨w.heap.size, 0, l.length, rfl, Nat.le_refl _, hm, by simp, fun j hj => ?_⟩⟩
  subst hx
  rw [Nat.zero_add, World.cell?_alloc_new, List.getD_eq_getElem?_getD, List.getElem?_eq_getElem hj]
  simp [hj]
theorem lit_isK_at (k : IntKind) (M : Nat) (w : World) (xs : Array Value) (t : TypeId) (l : List Nat) (n g : Nat) (hg : w.heap.size = g) (hn : n = l.length) (hx : xs = (l.map fun x => Value.int k ((x : Nat) : Int)).toArray) (hb : ∀ x ∈ l, x < M) (hm : l.length ≤ maxLen) : IsK k M (w.alloc (.cells xs t)) (.slice (some ⟨g, 0, none⟩) n n) l := by
  subst hg
  exact lit_isK k M w xs t l n hn hx hb hm
theorem own_below {w w' : World} {base g m n cap k : Nat} {e : TypeId} {xs : List Value} (h : w.ownsRow base e 1 (.slice (some ⟨g, 0, none⟩) m cap) n xs) (hg : g < k) (hb : Below k w w') : w'.ownsRow base e 1 (.slice (some ⟨g, 0, none⟩) m cap) n xs := by
  obtain ⟨h0, ⟨h, _⟩ | ⟨g', cap', cur, h, hbs, hh, hr⟩⟩ := h
  · cases h
  · refine ⟨h0, .inr ⟨g', cap', cur, h, hbs, ?_, hr⟩⟩
    injection h with h1 h2 h3
    injection h1 with h1
    injection h1 with h1
    subst h1
    rw [hb.block g hg]; exact hh
theorem JB.below {w w' : World} {base g n cap k : Nat} {l : List Nat} (h : JB w base (.slice (some ⟨g, 0, none⟩) n cap) l) (hg : g < k) (hb : Below k w w') : JB w' base (.slice (some ⟨g, 0, none⟩) n cap) l := ⟨h.1, own_below h.2 hg hb⟩
theorem IsK.cap {k : IntKind} {M : Nat} {w : World} {a : Option Addr} {n c : Nat} {l : List Nat} (h : IsK k M w (.slice a n c) l) : l.length ≤ c := by
  obtain ⟨_, _, ⟨rfl, a', c', e⟩ | ⟨b, off, c', e, h1, _⟩⟩ := h
  · simp
  · injection e with e1 e2 e3
    omega
theorem jb_snoc {w : World} {base : Nat} {a : Option Addr} {n cap y : Nat} {l : List Nat} {z : Int} (hz : z = (y : Int)) (hy : y < 256) (hb : Byt l) (hn : n + 1 = l.length + 1) (h : w.ownsRow base 5 1 (.slice a (n + 1) cap) (n + 1) (bs l ++ [.int .u8 z])) : JB w base (.slice a (n + 1) cap) (l ++ [y]) := by
  subst hz
  refine ⟨byt_app hb (by intro x hx; simp at hx; omega), ?_⟩
  rw [List.length_append, List.length_singleton, ← hn, ← bs_app]
  exact h
end Vt
end Go.Proofs.Ytnjhbidialngmaa
namespace Go.Proofs.Ytnjhbidialngmaa
open Go.RowKit
namespace Vt
theorem JB.shape {w : World} {base : Nat} {v : Value} {l : List Nat} (h : JB w base v l) : ∃ a c, v = .slice a l.length c ∧ l.length ≤ c := by
  rcases h.2.2 with ⟨rfl, e⟩ | ⟨g, cap, cur, rfl, _, _, hl, _⟩
  · exact ⟨none, 0, by rw [e], by omega⟩
  · exact ⟨_, cap, rfl, hl⟩
theorem JB.lt {w : World} {base g n cap : Nat} {l : List Nat} (h : JB w base (.slice (some ⟨g, 0, none⟩) n cap) l) : g < w.heap.size ∧ base ≤ g := by
  rcases h.2.2 with ⟨h, _⟩ | ⟨g', cap', cur, h, hb, hh, _⟩
  · cases h
  · injection h with h1 h2 h3
    injection h1 with h1
    injection h1 with h1
    subst h1
    exact ⟨(Array.getElem?_eq_some_iff.1 hh).1, hb⟩
/-- what is below stays -/
theorem JB.keep {w w' : World} {base k : Nat} {v : Value} {l : List Nat} (h : JB w base v l) (hk : ∀ g, v.ownBlock = some g → g < k) (hb : Below k w w') : JB w' base v l := by
  obtain ⟨h1, h0, ⟨rfl, e⟩ | ⟨g', cap', cur, rfl, hbs, hh, hr⟩⟩ := h
  · exact ⟨h1, h0, .inl ⟨rfl, e⟩⟩
  · refine ⟨h1, h0, .inr ⟨g', cap', cur, rfl, hbs, ?_, hr⟩⟩
    rw [hb.block g' (hk g' rfl)]; exact hh
theorem JB.keepAll {w w' : World} {base : Nat} {v : Value} {l : List Nat} (h : JB w base v l) (hb : Below w.heap.size w w') : JB w' base v l := by
  refine h.keep (fun g hg => ?_) hb
  obtain ⟨_, _, ⟨rfl, e⟩ | ⟨g', cap', cur, rfl, hbs, hh, hr⟩⟩ := h
  · cases hg
  · cases hg
    exact (Array.getElem?_eq_some_iff.1 hh).1
theorem run_append_jb (ty : TypeId) (w : World) (base : Nat) (v u : Value) (l r : List Nat) (hJ : JB w base v l) (hI : IsB w u r) (hb : l.length + r.length ≤ 140737488355328) (hbase : base ≤ w.heap.size) :
    ∃ a' cap w', (Builtin.append_ #[36, 36] ty #[v, u]).run Try.prog w = .ok (.slice a' (l.length + r.length) cap) w' ∧ JB w' base (.slice a' (l.length + r.length) cap) (l ++ r) ∧ w.grownBy w' v.ownBlock := by
  obtain ⟨i0, hi, hz0, hz1, hz2⟩ := info_parts info_u8
  by_cases h0 : r.length = 0
  · obtain rfl : r = [] := List.length_eq_zero_iff.1 h0
    obtain ⟨a, c, rfl⟩ := hI.shape
    obtain ⟨a', c', rfl, hlc⟩ := hJ.shape
    refine ⟨a', c', w, ?_, ?_, World.grownBy.refl _ _⟩
    · cases a <;> cases a' <;> simp [Builtin.append_, run_underlying Try.underlying36, sizeOf, typeInfo, hi, hlc, Builtin.lenOf, Builtin.firstCells, storeCells, loadCells, loadCellsFrom]
    · simpa using hJ
  · obtain ⟨hbl, hml, ⟨rfl, _⟩ | ⟨bb, oo, cc, rfl, hlc, hcm, hbb, hrow⟩⟩ := hI
    · simp at h0
    · have hlen : (bs r).length = r.length * 1 := by simp [bs]
      obtain ⟨g, cap, w', hr, h2, h3, _, _⟩ := run_append_lies (P := Try.prog) w 36 ty base 5 i0 (.int .u8 0) 1 1 Try.underlying36 hi hz0 hz1 hz2 rfl (by decide) v l.length (bs l) hJ.2 ⟨bb, oo, none⟩ r.length cc (bs r) hlen (news_of_row hrow) (bs_one r) (by omega) (by unfold maxLen; omega) (by omega) hbase w.heap.size rfl
      refine ⟨_, cap, w', hr, ⟨byt_app hJ.1 hbl, ?_⟩, h3⟩
      rw [bs_app] at h2
      rw [List.length_append]; exact h2
/-- .. for the walk: k: the new length, R: the new list -/
theorem wpList_append_jb (w : World) {ops : Array Oper} {rest : List Oper} {o : Oper} {a : Act} {Q : Exit → Act → World → Prop} (hgd : o.guard = none) (s x : Operand)
    (ho : o.op = .call { callee := .builtin .append, args := #[s, x], argTypes := #[36, 36] })
    (base : Nat) (v u : Value) (l r : List Nat) (hs : a.eval s = v) (hx : a.eval x = u) (hJ : JB w base v l) (hI : IsB w u r) (k : Nat) (hk : l.length + r.length = k) (R : List Nat) (hR : l ++ r = R) (hb : k ≤ 140737488355328) (hbase : base ≤ w.heap.size)
    (h : ∀ a' cap w', JB w' base (.slice a' k cap) R → w.grownBy w' v.ownBlock → k ≤ cap → wpList Try.prog ops Q rest (a.put o.dst (.slice a' k cap)) w') : wpList Try.prog ops Q (o :: rest) a w := by
  subst hk hR
  refine wpList_plain hgd fun K hK => ?_
  obtain ⟨a', cap, w', hr, h2, h3⟩ := run_append_jb o.type w base v u l r hJ hI hb hbase
  unfold Oper.wp execOp
  simp only [ho, resolve, invoke, builtin, Sem.run_bind, Sem.run_pure, Result.andThen_ok, List.map_toArray, List.map_cons, List.map_nil, hs, hx, hr]
  refine hK _ _ (h a' cap w' h2 h3 ?_)
  obtain ⟨a2, c2, e, hle⟩ := h2.shape
  injection e with e1 e2 e3
  rw [List.length_append] at hle
  omega
/-- what grew leaves all below as it was, where the row is the call's own -/
theorem JB.grown {w w' : World} {base : Nat} {v : Value} {l : List Nat} {n : Nat} {w0 : World} (hJ : JB w base v l) (hb : Below n w0 w) (hn : n ≤ base) (hn2 : n ≤ w.heap.size) (hg : w.grownBy w' v.ownBlock) : Below n w0 w' := by
  refine hb.grown hg hn2 fun k hk => ?_
  obtain ⟨_, _, ⟨rfl, e⟩ | ⟨g', cap', cur, rfl, hbs, hh, hr⟩⟩ := hJ
  · cases hk
  · cases hk
    exact Nat.le_trans hn hbs
/-- a slice elsewhere reads as it did, where a row of the call's own has grown -/
theorem IsK.grown {k : IntKind} {M : Nat} {w w' : World} {row : Option Nat} {v : Value} {l : List Nat} (h : IsK k M w v l) (hg : w.grownBy w' row) (hne : ∀ b off n c, v = .slice (some ⟨b, off, none⟩) n c → some b ≠ row) : IsK k M w' v l := by
  obtain ⟨h1, h2, ⟨rfl, a, c, rfl⟩ | ⟨b, off, c, rfl, h3, h4, h5, h6⟩⟩ := h
  · exact ⟨h1, h2, .inl ⟨rfl, a, c, rfl⟩⟩
  · refine ⟨h1, h2, .inr ⟨b, off, c, rfl, h3, h4, Nat.lt_of_lt_of_le h5 hg.size, fun j hj => ?_⟩⟩
    rw [World.cell?_of_block (a := ⟨b, off + j, none⟩) (hg.block b h5 (hne _ _ _ _ rfl))]; exact h6 j hj
theorem JB.blk_lt {w : World} {base : Nat} {v : Value} {l : List Nat} (h : JB w base v l) : ∀ g, v.ownBlock = some g → g < w.heap.size := by
  intro g hg
  obtain ⟨_, _, ⟨rfl, e⟩ | ⟨g', cap', cur, rfl, hbs, hh, hr⟩⟩ := h
  · cases hg
  · cases hg
    exact (Array.getElem?_eq_some_iff.1 hh).1
theorem JB.blk_ge {w : World} {base : Nat} {v : Value} {l : List Nat} (h : JB w base v l) : ∀ b off n c, v = .slice (some ⟨b, off, none⟩) n c → base ≤ b := by
  intro b off n c hv
  obtain ⟨_, _, ⟨rfl, e⟩ | ⟨g', cap', cur, rfl, hbs, hh, hr⟩⟩ := h
  · cases hv
  · injection hv with e1
    injection e1 with e1
    injection e1 with e1
    omega
theorem jb_nil (w : World) (base : Nat) : JB w base (.slice none 0 0) [] := ⟨byt_nil, own_nil _ _⟩
end Vt
end Go.Proofs.Ytnjhbidialngmaa
