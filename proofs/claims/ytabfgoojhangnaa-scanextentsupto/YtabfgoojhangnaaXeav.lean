/-
  THE WALK OF Sum: of whatever parts, nil ones and none among them, it answers the sum of all, one behind the other; nothing that was there is turned.
  Sum OF ONE, TWO, THREE PARTS that the caller has just laid side by side; parts of a slice.
-/
import Derived.Test.YtabfgoojhangnaaXeau
namespace Go.Proofs.Ytabfgoojhangnaa
open Go.RowKit

theorem below_drewN {B : Nat} {a w : World} (h : Below B a w) (n : Nat) : Below B a (w.drewN n) := ⟨h.os, h.tape, h.output, h.size, h.block⟩
theorem IsPs.below {w w' : World} {b off : Nat} {ls : List (List Nat)} (h : IsPs w b off ls) (hb : b < w.heap.size) (hB : Below w.heap.size w w') : IsPs w' b off ls := by
  intro i hi
  obtain ⟨v, hv, hI⟩ := h i hi
  exact ⟨v, by rw [hB.cell hb]; exact hv, hI.below hB⟩
theorem IsP.below {w w' : World} {v : Value} {ls : List (List Nat)} (h : IsP w v ls) (hB : Below w.heap.size w w') : IsP w' v ls := by
  obtain ⟨h1, ⟨rfl, a, c, rfl⟩ | ⟨b, off, c, rfl, h3, h4⟩⟩ := h
  · exact ⟨h1, .inl ⟨rfl, a, c, rfl⟩⟩
  · exact ⟨h1, .inr ⟨b, off, c, rfl, Nat.lt_of_lt_of_le h3 hB.size, h4.below h3 hB⟩⟩
set_option maxRecDepth 100000 in
set_option maxHeartbeats 400000 in
theorem sumWith_nil (a : Option Addr) (c : Nat) (fv : Value) (w : World) :
    Calls Try.prog 43 #[fv, .slice a 0 c] w fun e w' => e = .returned (.int .u32 0) ∧ w' = w := by
  go_enter Try.func43, Try.ntmps43
  go_wp2
  go_loop [5, 10] (fun t i => i = .int .i64 0 ∧ t = .int .u32 0) (fun _ _ => 0)
  case atStart => exact ⟨rfl, rfl⟩
  case round =>
    obtain ⟨rfl, rfl⟩ := hrel
    go_wp2
    go_ret
    exact ⟨rfl, rfl⟩
set_option maxRecDepth 100000 in
set_option maxHeartbeats 400000 in
theorem sum_nil (a : Option Addr) (c : Nat) (w : World) :
    Calls Try.prog 32 #[.slice a 0 c] w fun e w' => e = .returned (.int .u32 0) ∧ w' = w := by
  go_enter Try.func32, Try.ntmps32
  go_wp2
  go_loop [3, 8] (fun t i => i = .int .i64 0 ∧ t = .int .i64 0) (fun _ _ => 0)
  case atStart => exact ⟨rfl, rfl⟩
  case round =>
    obtain ⟨rfl, rfl⟩ := hrel
    go_wp2_with (go_at_call 43; refine (sumWith_nil _ _ _ _).mono ?_; rintro e w' ⟨rfl, rfl⟩)
    go_ret
    exact ⟨rfl, rfl⟩
set_option maxRecDepth 100000 in
set_option maxHeartbeats 400000 in
theorem sum_row (b off c : Nat) (ls : List (List Nat)) (w : World) (hm0 : ls.length ≤ maxLen) (hb : b < w.heap.size) (hP : IsPs w b off ls) :
    Calls Try.prog 32 #[.slice (some ⟨b, off, none⟩) ls.length c] w fun e w' => e = .returned (.int .u32 ((Crc.go 0 ls.flatten : Nat) : Int)) ∧ Below w.heap.size w w' := by
  have hm := hm0
  unfold maxLen at hm
  have HP : Hid (IsPs w b off ls) := hP
  clear hP
  have HC1 : Hid _ := sumWith_bitwise b off c ls w hm0 HP.out
  have HC2 : Hid (∀ u : World, Below w.heap.size w u → Tab u w.heap.size → _) := fun u h1 h2 => sumWith_byEight w.heap.size b off c ls u hm0 (HP.out.below hb h1) h2
  go_enter Try.func32, Try.ntmps32
  go_wp2
  go_loop [3, 8] (fun t i => ∃ (k : Nat) (x : Int), k ≤ ls.length ∧ i = .int .i64 k ∧ t = .int .i64 x) (fun _ i => ls.length - (intOf i).toNat)
  case atStart => exact ⟨0, 0, Nat.zero_le _, rfl, rfl⟩
  case round =>
    obtain ⟨k, x, hk, rfl, rfl⟩ := hrel
    by_cases hlt : k < ls.length
    · obtain ⟨v, hv, hB⟩ := HP.out k hlt
      generalize ls.getD k [] = l at *
      obtain ⟨a, c', e⟩ := hB.shape
      rw [e] at hv
      clear hB e
      go_wp2
      go_round
      case rel => exact ⟨k + 1, _, hlt, by go_num, rfl⟩
      case measure => simp [intOf]; omega
    · obtain rfl : k = ls.length := by omega
      by_cases hx : x < 1024
      · go_wp2_with (go_at_call 43; refine Calls.mono HC1.out ?_; rintro e w' ⟨rfl, n, rfl⟩)
        go_ret
        exact ⟨rfl, below_drewN (Below.refl _ _) n⟩
      · go_wp2_with fail
        refine (new_any _).mono ?_
        rintro e w1 ⟨rfl, hT, hB⟩
        have HT : Hid (Tab w1 w.heap.size) := hT
        have HB : Hid (Below w.heap.size w w1) := hB
        clear hT hB
        go_wp2_with fail
        refine Calls.mono (HC2.out w1 HB.out HT.out) ?_
        rintro e w' ⟨rfl, n, rfl⟩
        go_wp2
        go_ret
        exact ⟨rfl, below_drewN HB.out n⟩
theorem sum_is (v : Value) (ls : List (List Nat)) (w : World) (h : IsP w v ls) :
    Calls Try.prog 32 #[v] w fun e w' => e = .returned (.int .u32 ((Crc.go 0 ls.flatten : Nat) : Int)) ∧ Below w.heap.size w w' := by
  obtain ⟨h1, ⟨rfl, a, c, rfl⟩ | ⟨b, off, c, rfl, h3, h4⟩⟩ := h
  · refine (sum_nil a c w).mono ?_
    rintro e w' ⟨rfl, rfl⟩
    exact ⟨ret_int (by rw [List.flatten_nil, Crc.go_nil (by omega)]; rfl), Below.refl _ _⟩
  · exact sum_row b off c ls w h1 h3 h4
end Go.Proofs.Ytabfgoojhangnaa
namespace Go.Proofs.Ytabfgoojhangnaa
open Go.RowKit
theorem IsB.take {w : World} {b off n c : Nat} {l : List Nat} (h : IsB w (.slice (some ⟨b, off, none⟩) n c) l) (k : Nat) (hk : k ≤ n) : IsB w (.slice (some ⟨b, off, none⟩) k c) (l.take k) := by
  obtain ⟨h1, h2, ⟨rfl, a, c', e⟩ | ⟨b', off', c', e, h3, h4, h5, h6⟩⟩ := h
  · injection e with e1 e2 e3
    obtain rfl : k = 0 := by omega
    exact ⟨by rw [List.take_nil]; exact h1, by simp, .inl ⟨by simp, _, _, rfl⟩⟩
  · injection e with e1 e2 e3
    injection e1 with e1
    injection e1 with e4 e5
    subst e2 e3 e4 e5
    have hl : (l.take k).length = k := by rw [List.length_take]; omega
    exact ⟨byt_take h1 k, by rw [hl]; omega, .inr ⟨_, _, _, by rw [hl], by rw [hl]; omega, h4, h5, row_take h6 k⟩⟩
theorem IsB.drop {w : World} {b off n c : Nat} {l : List Nat} (h : IsB w (.slice (some ⟨b, off, none⟩) n c) l) (k : Nat) (hk : k ≤ n) (o m d : Nat) (ho : k < n → o = off + k) (hm : m = n - k) (hd : d = c - k) : IsB w (.slice (some ⟨b, o, none⟩) m d) (l.drop k) := by
  obtain ⟨h1, h2, ⟨rfl, a, c', e⟩ | ⟨b', off', c', e, h3, h4, h5, h6⟩⟩ := h
  · injection e with e1 e2 e3
    obtain rfl : k = 0 := by omega
    subst hm e2
    exact ⟨by rw [List.drop_nil]; exact h1, by simp, .inl ⟨by simp, _, _, rfl⟩⟩
  · injection e with e1 e2 e3
    injection e1 with e1
    injection e1 with e4 e5
    subst e2 e3 e4 e5
    have hl : (l.drop k).length = m := by rw [List.length_drop]; omega
    refine ⟨byt_drop h1 k, by rw [hl]; omega, .inr ⟨_, _, _, by rw [hl], by rw [hl]; omega, by omega, h5, ?_⟩⟩
    by_cases hlt : k < l.length
    · rw [ho hlt]; exact row_drop h6 k
    · intro j hj; rw [hl] at hj; omega
theorem isB_nil (w : World) : IsB w (.slice none 0 0) [] := ⟨by intro x hx; simp at hx, by simp, .inl ⟨rfl, _, _, rfl⟩⟩
theorem cell_new (U : World) (C : Array Value) (t : TypeId) (N i : Nat) (hN : N = U.heap.size) : (U.alloc (.cells C t)).cell? ⟨N, 0 + i, none⟩ = C[i]? := by
  subst hN; rw [Nat.zero_add, World.cell?_alloc_new]
theorem below_alloc {U w' : World} (o : Obj) (h : Below (U.alloc o).heap.size (U.alloc o) w') : Below U.heap.size U w' := by
  have : U.heap.size ≤ (U.alloc o).heap.size := by simp
  exact ((Below.refl _ _).alloc (Nat.le_refl _) o).trans (h.mono this)
theorem sum_one (U : World) (N : Nat) (hN : N = U.heap.size) (v0 : Value) (l0 : List Nat) (h0 : IsB U v0 l0) :
    Calls Try.prog 32 #[.slice (some ⟨N, 0, none⟩) 1 1] (U.alloc (.cells #[v0] 22)) fun e w' => e = .returned (.int .u32 ((Crc.go 0 l0 : Nat) : Int)) ∧ Below U.heap.size U w' := by
  have hb : Below U.heap.size U (U.alloc (.cells #[v0] 22)) := (Below.refl _ _).alloc (Nat.le_refl _) _
  refine (sum_row N 0 1 [l0] _ (by simp [maxLen]) (by subst hN; simp) ?_).mono ?_
  · intro i hi
    rw [cell_new U _ _ N i hN]
    match i, hi with
    | 0, _ => exact ⟨v0, rfl, h0.below hb⟩
  · rintro e w' ⟨rfl, h⟩
    exact ⟨by simp, below_alloc _ h⟩
theorem sum_two (U : World) (N : Nat) (hN : N = U.heap.size) (v0 v1 : Value) (l0 l1 : List Nat) (h0 : IsB U v0 l0) (h1 : IsB U v1 l1) :
    Calls Try.prog 32 #[.slice (some ⟨N, 0, none⟩) 2 2] (U.alloc (.cells #[v0, v1] 22)) fun e w' => e = .returned (.int .u32 ((Crc.go 0 (l0 ++ l1) : Nat) : Int)) ∧ Below U.heap.size U w' := by
  have hb : Below U.heap.size U (U.alloc (.cells #[v0, v1] 22)) := (Below.refl _ _).alloc (Nat.le_refl _) _
  refine (sum_row N 0 2 [l0, l1] _ (by simp [maxLen]) (by subst hN; simp) ?_).mono ?_
  · intro i hi
    rw [cell_new U _ _ N i hN]
    match i, hi with
    | 0, _ => exact ⟨v0, rfl, h0.below hb⟩
    | 1, _ => exact ⟨v1, rfl, h1.below hb⟩
  · rintro e w' ⟨rfl, h⟩
    exact ⟨by simp, below_alloc _ h⟩
theorem sum_three (U : World) (N : Nat) (hN : N = U.heap.size) (v0 v1 v2 : Value) (l0 l1 l2 : List Nat) (h0 : IsB U v0 l0) (h1 : IsB U v1 l1) (h2 : IsB U v2 l2) :
    Calls Try.prog 32 #[.slice (some ⟨N, 0, none⟩) 3 3] (U.alloc (.cells #[v0, v1, v2] 22)) fun e w' => e = .returned (.int .u32 ((Crc.go 0 (l0 ++ (l1 ++ l2)) : Nat) : Int)) ∧ Below U.heap.size U w' := by
  have hb : Below U.heap.size U (U.alloc (.cells #[v0, v1, v2] 22)) := (Below.refl _ _).alloc (Nat.le_refl _) _
  refine (sum_row N 0 3 [l0, l1, l2] _ (by simp [maxLen]) (by subst hN; simp) ?_).mono ?_
  · intro i hi
    rw [cell_new U _ _ N i hN]
    match i, hi with
    | 0, _ => exact ⟨v0, rfl, h0.below hb⟩
    | 1, _ => exact ⟨v1, rfl, h1.below hb⟩
    | 2, _ => exact ⟨v2, rfl, h2.below hb⟩
  · rintro e w' ⟨rfl, h⟩
    exact ⟨by simp, below_alloc _ h⟩
end Go.Proofs.Ytabfgoojhangnaa
