/-
  Sum OF ONE, TWO, THREE PARTS that the caller has just laid side by side; parts of a slice.
-/
import Derived.Test.YtfnbfgkoicdiaaaW8
namespace Go.Proofs.Ytfnbfgkoicdiaaa
open Go.RowKit
theorem IsB.take {w : World} {b off n c : Nat} {l : List Nat} (h : IsB w (.slice (some ⟨b, off, none⟩) n c) l) (k : Nat) (hk : k ≤ n) : IsB w (.slice (some ⟨b, off, none⟩) k c) (l.take k) := by
  obtain ⟨h1, h2, ⟨rfl, a, c', e⟩ | ⟨b', off', c', e, h3, h4, h5, h6⟩⟩ := h
  · injection e with e1 e2 e3
    obtain rfl : k = 0 := by omega
    exact ⟨by rw [List.take_nil]; exact h1, by simp, .inl ⟨by simp, _, _, rfl⟩⟩
  · injection e with e1 e2 e3
    injection e1 with e1
    injection e1 with e4 e5
    subst e2 e3 e4 e5
    have hl : (l.take k).length = k := by rw [List.length_take]; omega
    exact ⟨byt_take h1 k, by rw [hl]; omega, .inr ⟨_, _, _, by rw [hl], by rw [hl]; omega, h4, h5, row_take h6 k⟩⟩
theorem IsB.drop {w : World} {b off n c : Nat} {l : List Nat} (h : IsB w (.slice (some ⟨b, off, none⟩) n c) l) (k : Nat) (hk : k ≤ n) (o m d : Nat) (ho : k < n → o = off + k) (hm : m = n - k) (hd : d = c - k) : IsB w (.slice (some ⟨b, o, none⟩) m d) (l.drop k) := by
  obtain ⟨h1, h2, ⟨rfl, a, c', e⟩ | ⟨b', off', c', e, h3, h4, h5, h6⟩⟩ := h
  · injection e with e1 e2 e3
    obtain rfl : k = 0 := by omega
    subst hm e2
    exact ⟨by rw [List.drop_nil]; exact h1, by simp, .inl ⟨by simp, _, _, rfl⟩⟩
  · injection e with e1 e2 e3
    injection e1 with e1
    injection e1 with e4 e5
    subst e2 e3 e4 e5
    have hl : (l.drop k).length = m := by rw [List.length_drop]; omega
    refine ⟨byt_drop h1 k, by rw [hl]; omega, .inr ⟨_, _, _, by rw [hl], by rw [hl]; omega, by omega, h5, ?_⟩⟩
    by_cases hlt : k < l.length
    · rw [ho hlt]; exact row_drop h6 k
    · intro j hj; rw [hl] at hj; omega
theorem isB_nil (w : World) : IsB w (.slice none 0 0) [] := ⟨by intro x hx; simp at hx, by simp, .inl ⟨rfl, _, _, rfl⟩⟩
theorem cell_new (U : World) (C : Array Value) (t : TypeId) (N i : Nat) (hN : N = U.heap.size) : (U.alloc (.cells C t)).cell? ⟨N, 0 + i, none⟩ = C[i]? := by
  subst hN; rw [Nat.zero_add, World.cell?_alloc_new]
theorem below_alloc {U w' : World} (o : Obj) (h : Below (U.alloc o).heap.size (U.alloc o) w') : Below U.heap.size U w' := by
  have : U.heap.size ≤ (U.alloc o).heap.size := by simp
  exact ((Below.refl _ _).alloc (Nat.le_refl _) o).trans (h.mono this)
theorem sum_one (U : World) (N : Nat) (hN : N = U.heap.size) (v0 : Value) (l0 : List Nat) (h0 : IsB U v0 l0) :
    Calls Try.prog 24 #[.slice (some ⟨N, 0, none⟩) 1 1] (U.alloc (.cells #[v0] 25)) fun e w' => e = .returned (.int .u32 ((Crc.go 0 l0 : Nat) : Int)) ∧ Below U.heap.size U w' := by
  have hb : Below U.heap.size U (U.alloc (.cells #[v0] 25)) := (Below.refl _ _).alloc (Nat.le_refl _) _
  refine (sum_row N 0 1 [l0] _ (by simp [maxLen]) (by subst hN; simp) ?_).mono ?_
  · intro i hi
    rw [cell_new U _ _ N i hN]
    match i, hi with
    | 0, _ => exact ⟨v0, rfl, h0.below hb⟩
  · rintro e w' ⟨rfl, h⟩
    exact ⟨by simp, below_alloc _ h⟩
theorem sum_two (U : World) (N : Nat) (hN : N = U.heap.size) (v0 v1 : Value) (l0 l1 : List Nat) (h0 : IsB U v0 l0) (h1 : IsB U v1 l1) :
    Calls Try.prog 24 #[.slice (some ⟨N, 0, none⟩) 2 2] (U.alloc (.cells #[v0, v1] 25)) fun e w' => e = .returned (.int .u32 ((Crc.go 0 (l0 ++ l1) : Nat) : Int)) ∧ Below U.heap.size U w' := by
  have hb : Below U.heap.size U (U.alloc (.cells #[v0, v1] 25)) := (Below.refl _ _).alloc (Nat.le_refl _) _
  refine (sum_row N 0 2 [l0, l1] _ (by simp [maxLen]) (by subst hN; simp) ?_).mono ?_
  · intro i hi
    rw [cell_new U _ _ N i hN]
    match i, hi with
    | 0, _ => exact ⟨v0, rfl, h0.below hb⟩
    | 1, _ => exact ⟨v1, rfl, h1.below hb⟩
  · rintro e w' ⟨rfl, h⟩
    exact ⟨by simp, below_alloc _ h⟩
theorem sum_three (U : World) (N : Nat) (hN : N = U.heap.size) (v0 v1 v2 : Value) (l0 l1 l2 : List Nat) (h0 : IsB U v0 l0) (h1 : IsB U v1 l1) (h2 : IsB U v2 l2) :
    Calls Try.prog 24 #[.slice (some ⟨N, 0, none⟩) 3 3] (U.alloc (.cells #[v0, v1, v2] 25)) fun e w' => e = .returned (.int .u32 ((Crc.go 0 (l0 ++ (l1 ++ l2)) : Nat) : Int)) ∧ Below U.heap.size U w' := by
  have hb : Below U.heap.size U (U.alloc (.cells #[v0, v1, v2] 25)) := (Below.refl _ _).alloc (Nat.le_refl _) _
  refine (sum_row N 0 3 [l0, l1, l2] _ (by simp [maxLen]) (by subst hN; simp) ?_).mono ?_
  · intro i hi
    rw [cell_new U _ _ N i hN]
    match i, hi with
    | 0, _ => exact ⟨v0, rfl, h0.below hb⟩
    | 1, _ => exact ⟨v1, rfl, h1.below hb⟩
    | 2, _ => exact ⟨v2, rfl, h2.below hb⟩
  · rintro e w' ⟨rfl, h⟩
    exact ⟨by simp, below_alloc _ h⟩
end Go.Proofs.Ytfnbfgkoicdiaaa
