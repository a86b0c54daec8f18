/-
  THE WALKS OF sumWith (by Bitwise, by the method value ByEight) and of Sum: the sum of all parts, one behind the other.
  THE WALK OF Sum: of whatever parts, nil ones and none among them, it answers the sum of all, one behind the other; nothing that was there is turned.
  Sum OF ONE, TWO, THREE PARTS that the caller has just laid side by side; parts of a slice.
-/
import Derived.Test.YtnjhbidialngmaaXhaj
namespace Go.Proofs.Ytnjhbidialngmaa
open Go.RowKit

theorem IsB.drewN {w : World} {v : Value} {l : List Nat} (h : IsB w v l) (n : Nat) : IsB (w.drewN n) v l := h
theorem IsB.shape {w : World} {v : Value} {l : List Nat} (h : IsB w v l) : ∃ a c, v = .slice a l.length c := by
  obtain ⟨_, _, ⟨rfl, a, c, rfl⟩ | ⟨b, off, c, rfl, _⟩⟩ := h
  · exact ⟨a, c, rfl⟩
  · exact ⟨_, c, rfl⟩
theorem IsB.below {w w' : World} {v : Value} {l : List Nat} (h : IsB w v l) (hb : Below w.heap.size w w') : IsB w' v l := by
  obtain ⟨h1, h2, ⟨rfl, a, c, rfl⟩ | ⟨b, off, c, rfl, h3, h4, h5, h6⟩⟩ := h
  · exact ⟨h1, h2, .inl ⟨rfl, a, c, rfl⟩⟩
  · refine ⟨h1, h2, .inr ⟨b, off, c, rfl, h3, h4, Nat.lt_of_lt_of_le h5 hb.size, fun k hk => ?_⟩⟩
    rw [hb.cell h5]; exact h6 k hk
/-- The parts: a slice of slices of bytes. -/
def IsPs (w : World) (b off : Nat) (ls : List (List Nat)) : Prop := ∀ i, i < ls.length → ∃ v, w.cell? ⟨b, off + i, none⟩ = some v ∧ IsB w v (ls.getD i [])
def IsP (w : World) (v : Value) (ls : List (List Nat)) : Prop :=
  ls.length ≤ maxLen ∧ ((ls = [] ∧ ∃ a c, v = .slice a 0 c) ∨ ∃ b off c, v = .slice (some ⟨b, off, none⟩) ls.length c ∧ b < w.heap.size ∧ IsPs w b off ls)
theorem byt_flatten {w : World} {b off : Nat} {ls : List (List Nat)} (h : IsPs w b off ls) (k : Nat) : Crc.Byt (ls.take k).flatten := by
  intro x hx
  obtain ⟨l, hl, hxl⟩ := List.mem_flatten.1 hx
  obtain ⟨i, hi, he⟩ := List.getElem_of_mem (List.mem_of_mem_take hl)
  obtain ⟨v, _, hB⟩ := h i hi
  rw [List.getD_eq_getElem?_getD, List.getElem?_eq_getElem hi, he] at hB
  exact hB.1 x hxl
theorem takes_succ {ls : List (List Nat)} {k : Nat} (h : k < ls.length) : (ls.take (k + 1)).flatten = (ls.take k).flatten ++ ls.getD k [] := by
  rw [List.take_succ_eq_append_getElem h, List.getD_eq_getElem?_getD, List.getElem?_eq_getElem h, List.flatten_append]; simp
set_option maxRecDepth 100000 in
set_option maxHeartbeats 400000 in
theorem sumWith_bitwise (b off c : Nat) (ls : List (List Nat)) (w : World) (hm : ls.length ≤ maxLen) (hP : IsPs w b off ls) :
    Calls Try.prog 57 #[.func (.func 58) #[] #[], .slice (some ⟨b, off, none⟩) ls.length c] w fun e w' => e = .returned (.int .u32 ((Crc.go 0 ls.flatten : Nat) : Int)) ∧ ∃ n, w' = w.drewN n := by
  unfold maxLen at hm
  have HP : Hid (IsPs w b off ls) := hP
  clear hP
  go_enter Try.func57, Try.ntmps57
  go_wp2
  go_loopw [5, 10] (fun t i wr => (∃ n, wr = w.drewN n) ∧ ∃ k : Nat, k ≤ ls.length ∧ i = .int .i64 k ∧ t = .int .u32 ((Crc.go 0 (ls.take k).flatten : Nat) : Int)) (fun _ i _ => ls.length - (intOf i).toNat)
  case atStart => exact ⟨⟨0, rfl⟩, 0, Nat.zero_le _, rfl, by rw [List.take_zero, List.flatten_nil, Crc.go_nil (by omega)]; rfl⟩
  case round =>
    obtain ⟨⟨n, rfl⟩, k, hk, rfl, rfl⟩ := hrel
    by_cases hlt : k < ls.length
    · obtain ⟨v, hv, hB⟩ := HP.out k hlt
      have HE : Hid (Crc.go (Crc.go 0 (ls.take k).flatten) (ls.getD k []) = Crc.go 0 (ls.take (k + 1)).flatten) := by
        show Crc.go (Crc.go 0 (ls.take k).flatten) (ls.getD k []) = Crc.go 0 (ls.take (k + 1)).flatten
        rw [takes_succ hlt, Crc.go_append _ (byt_flatten HP.out k)]
      generalize ls.getD k [] = l at *
      have HC : Hid _ := bitwise_is _ v _ (w.drewN n) (Crc.go_lt 0 (ls.take k).flatten) (hB.drewN n)
      obtain ⟨a, c', e⟩ := hB.shape
      rw [e] at hv HC
      clear hB e
      go_wp2_with fail
      refine Calls.mono HC.out ?_
      rintro e w2 ⟨rfl, rfl⟩
      go_wp2
      go_roundw
      case rel => exact ⟨⟨n, by rfl⟩, k + 1, hlt, by go_num, by rw [HE.out]⟩
      case measure => simp [intOf]; omega
    · obtain rfl : k = ls.length := by omega
      go_wp2
      go_ret
      exact ⟨ret_int (by rw [List.take_length]), n, rfl⟩
set_option maxRecDepth 100000 in
set_option maxHeartbeats 400000 in
theorem sumWith_byEight (B : Nat) (b off c : Nat) (ls : List (List Nat)) (w : World) (hm : ls.length ≤ maxLen) (hP : IsPs w b off ls) (hT : Tab w B) :
    Calls Try.prog 57 #[.func (.func 60) #[.pointer (some ⟨B, 0, none⟩)] #[], .slice (some ⟨b, off, none⟩) ls.length c] w fun e w' => e = .returned (.int .u32 ((Crc.go 0 ls.flatten : Nat) : Int)) ∧ ∃ n, w' = w.drewN n := by
  unfold maxLen at hm
  have HP : Hid (IsPs w b off ls) := hP
  clear hP
  have HT : Hid (Tab w B) := hT
  clear hT
  go_enter Try.func57, Try.ntmps57
  go_wp2
  go_loopw [5, 10] (fun t i wr => (∃ n, wr = w.drewN n) ∧ ∃ k : Nat, k ≤ ls.length ∧ i = .int .i64 k ∧ t = .int .u32 ((Crc.go 0 (ls.take k).flatten : Nat) : Int)) (fun _ i _ => ls.length - (intOf i).toNat)
  case atStart => exact ⟨⟨0, rfl⟩, 0, Nat.zero_le _, rfl, by rw [List.take_zero, List.flatten_nil, Crc.go_nil (by omega)]; rfl⟩
  case round =>
    obtain ⟨⟨n, rfl⟩, k, hk, rfl, rfl⟩ := hrel
    by_cases hlt : k < ls.length
    · obtain ⟨v, hv, hB⟩ := HP.out k hlt
      have HE : Hid (Crc.go (Crc.go 0 (ls.take k).flatten) (ls.getD k []) = Crc.go 0 (ls.take (k + 1)).flatten) := by
        show Crc.go (Crc.go 0 (ls.take k).flatten) (ls.getD k []) = Crc.go 0 (ls.take (k + 1)).flatten
        rw [takes_succ hlt, Crc.go_append _ (byt_flatten HP.out k)]
      generalize ls.getD k [] = l at *
      have HC : Hid _ := byEight_is B _ v _ (w.drewN n) (Crc.go_lt 0 (ls.take k).flatten) (HT.out.drewN n) (hB.drewN n)
      obtain ⟨a, c', e⟩ := hB.shape
      rw [e] at hv HC
      clear hB e
      go_wp2_with fail
      refine Calls.mono HC.out ?_
      rintro e w2 ⟨rfl, m, rfl⟩
      go_wp2
      go_roundw
      case rel => exact ⟨⟨n + m, by rfl⟩, k + 1, hlt, by go_num, by rw [HE.out]⟩
      case measure => simp [intOf]; omega
    · obtain rfl : k = ls.length := by omega
      go_wp2
      go_ret
      exact ⟨ret_int (by rw [List.take_length]), n, rfl⟩
end Go.Proofs.Ytnjhbidialngmaa
namespace Go.Proofs.Ytnjhbidialngmaa
open Go.RowKit

theorem below_drewN {B : Nat} {a w : World} (h : Below B a w) (n : Nat) : Below B a (w.drewN n) := ⟨h.os, h.tape, h.output, h.size, h.block⟩
theorem IsPs.below {w w' : World} {b off : Nat} {ls : List (List Nat)} (h : IsPs w b off ls) (hb : b < w.heap.size) (hB : Below w.heap.size w w') : IsPs w' b off ls := by
  intro i hi
  obtain ⟨v, hv, hI⟩ := h i hi
  exact ⟨v, by rw [hB.cell hb]; exact hv, hI.below hB⟩
theorem IsP.below {w w' : World} {v : Value} {ls : List (List Nat)} (h : IsP w v ls) (hB : Below w.heap.size w w') : IsP w' v ls := by
  obtain ⟨h1, ⟨rfl, a, c, rfl⟩ | ⟨b, off, c, rfl, h3, h4⟩⟩ := h
  · exact ⟨h1, .inl ⟨rfl, a, c, rfl⟩⟩
  · exact ⟨h1, .inr ⟨b, off, c, rfl, Nat.lt_of_lt_of_le h3 hB.size, h4.below h3 hB⟩⟩
set_option maxRecDepth 100000 in
set_option maxHeartbeats 400000 in
theorem sum_row (b off c : Nat) (ls : List (List Nat)) (w : World) (hm0 : ls.length ≤ maxLen) (hb : b < w.heap.size) (hP : IsPs w b off ls) :
    Calls Try.prog 28 #[.slice (some ⟨b, off, none⟩) ls.length c] w fun e w' => e = .returned (.int .u32 ((Crc.go 0 ls.flatten : Nat) : Int)) ∧ Below w.heap.size w w' := by
  have hm := hm0
  unfold maxLen at hm
  have HP : Hid (IsPs w b off ls) := hP
  clear hP
  have HC1 : Hid _ := sumWith_bitwise b off c ls w hm0 HP.out
  have HC2 : Hid (∀ u : World, Below w.heap.size w u → Tab u w.heap.size → _) := fun u h1 h2 => sumWith_byEight w.heap.size b off c ls u hm0 (HP.out.below hb h1) h2
  go_enter Try.func28, Try.ntmps28
  go_wp2
  go_loop [3, 8] (fun t i => ∃ (k : Nat) (x : Int), k ≤ ls.length ∧ i = .int .i64 k ∧ t = .int .i64 x) (fun _ i => ls.length - (intOf i).toNat)
  case atStart => exact ⟨0, 0, Nat.zero_le _, rfl, rfl⟩
  case round =>
    obtain ⟨k, x, hk, rfl, rfl⟩ := hrel
    by_cases hlt : k < ls.length
    · obtain ⟨v, hv, hB⟩ := HP.out k hlt
      generalize ls.getD k [] = l at *
      obtain ⟨a, c', e⟩ := hB.shape
      rw [e] at hv
      clear hB e
      go_wp2
      go_round
      case rel => exact ⟨k + 1, _, hlt, by go_num, rfl⟩
      case measure => simp [intOf]; omega
    · obtain rfl : k = ls.length := by omega
      by_cases hx : x < 1024
      · go_wp2_with (go_at_call 57; refine Calls.mono HC1.out ?_; rintro e w' ⟨rfl, n, rfl⟩)
        go_ret
        exact ⟨rfl, below_drewN (Below.refl _ _) n⟩
      · go_wp2_with fail
        refine (new_any _).mono ?_
        rintro e w1 ⟨rfl, hT, hB⟩
        have HT : Hid (Tab w1 w.heap.size) := hT
        have HB : Hid (Below w.heap.size w w1) := hB
        clear hT hB
        go_wp2_with fail
        refine Calls.mono (HC2.out w1 HB.out HT.out) ?_
        rintro e w' ⟨rfl, n, rfl⟩
        go_wp2
        go_ret
        exact ⟨rfl, below_drewN HB.out n⟩
end Go.Proofs.Ytnjhbidialngmaa
namespace Go.Proofs.Ytnjhbidialngmaa
open Go.RowKit
theorem IsB.take {w : World} {b off n c : Nat} {l : List Nat} (h : IsB w (.slice (some ⟨b, off, none⟩) n c) l) (k : Nat) (hk : k ≤ n) : IsB w (.slice (some ⟨b, off, none⟩) k c) (l.take k) := by
  obtain ⟨h1, h2, ⟨rfl, a, c', e⟩ | ⟨b', off', c', e, h3, h4, h5, h6⟩⟩ := h
  · injection e with e1 e2 e3
    obtain rfl : k = 0 := by omega
    exact ⟨by rw [List.take_nil]; exact h1, by simp, .inl ⟨by simp, _, _, rfl⟩⟩
  · injection e with e1 e2 e3
    injection e1 with e1
    injection e1 with e4 e5
    subst e2 e3 e4 e5
    have hl : (l.take k).length = k := by rw [List.length_take]; omega
    exact ⟨byt_take h1 k, by rw [hl]; omega, .inr ⟨_, _, _, by rw [hl], by rw [hl]; omega, h4, h5, row_take h6 k⟩⟩
theorem IsB.drop {w : World} {b off n c : Nat} {l : List Nat} (h : IsB w (.slice (some ⟨b, off, none⟩) n c) l) (k : Nat) (hk : k ≤ n) (o m d : Nat) (ho : k < n → o = off + k) (hm : m = n - k) (hd : d = c - k) : IsB w (.slice (some ⟨b, o, none⟩) m d) (l.drop k) := by
  obtain ⟨h1, h2, ⟨rfl, a, c', e⟩ | ⟨b', off', c', e, h3, h4, h5, h6⟩⟩ := h
  · injection e with e1 e2 e3
    obtain rfl : k = 0 := by omega
    subst hm e2
    exact ⟨by rw [List.drop_nil]; exact h1, by simp, .inl ⟨by simp, _, _, rfl⟩⟩
  · injection e with e1 e2 e3
    injection e1 with e1
    injection e1 with e4 e5
    subst e2 e3 e4 e5
    have hl : (l.drop k).length = m := by rw [List.length_drop]; omega
    refine ⟨byt_drop h1 k, by rw [hl]; omega, .inr ⟨_, _, _, by rw [hl], by rw [hl]; omega, by omega, h5, ?_⟩⟩
    by_cases hlt : k < l.length
    · rw [ho hlt]; exact row_drop h6 k
    · intro j hj; rw [hl] at hj; omega
theorem cell_new (U : World) (C : Array Value) (t : TypeId) (N i : Nat) (hN : N = U.heap.size) : (U.alloc (.cells C t)).cell? ⟨N, 0 + i, none⟩ = C[i]? := by
  subst hN; rw [Nat.zero_add, World.cell?_alloc_new]
theorem below_alloc {U w' : World} (o : Obj) (h : Below (U.alloc o).heap.size (U.alloc o) w') : Below U.heap.size U w' := by
  have : U.heap.size ≤ (U.alloc o).heap.size := by simp
  exact ((Below.refl _ _).alloc (Nat.le_refl _) o).trans (h.mono this)
theorem sum_one (U : World) (N : Nat) (hN : N = U.heap.size) (v0 : Value) (l0 : List Nat) (h0 : IsB U v0 l0) :
    Calls Try.prog 28 #[.slice (some ⟨N, 0, none⟩) 1 1] (U.alloc (.cells #[v0] 36)) fun e w' => e = .returned (.int .u32 ((Crc.go 0 l0 : Nat) : Int)) ∧ Below U.heap.size U w' := by
  have hb : Below U.heap.size U (U.alloc (.cells #[v0] 36)) := (Below.refl _ _).alloc (Nat.le_refl _) _
  refine (sum_row N 0 1 [l0] _ (by simp [maxLen]) (by subst hN; simp) ?_).mono ?_
  · intro i hi
    rw [cell_new U _ _ N i hN]
    match i, hi with
    | 0, _ => exact ⟨v0, rfl, h0.below hb⟩
  · rintro e w' ⟨rfl, h⟩
    exact ⟨by simp, below_alloc _ h⟩
theorem sum_two (U : World) (N : Nat) (hN : N = U.heap.size) (v0 v1 : Value) (l0 l1 : List Nat) (h0 : IsB U v0 l0) (h1 : IsB U v1 l1) :
    Calls Try.prog 28 #[.slice (some ⟨N, 0, none⟩) 2 2] (U.alloc (.cells #[v0, v1] 36)) fun e w' => e = .returned (.int .u32 ((Crc.go 0 (l0 ++ l1) : Nat) : Int)) ∧ Below U.heap.size U w' := by
  have hb : Below U.heap.size U (U.alloc (.cells #[v0, v1] 36)) := (Below.refl _ _).alloc (Nat.le_refl _) _
  refine (sum_row N 0 2 [l0, l1] _ (by simp [maxLen]) (by subst hN; simp) ?_).mono ?_
  · intro i hi
    rw [cell_new U _ _ N i hN]
    match i, hi with
    | 0, _ => exact ⟨v0, rfl, h0.below hb⟩
    | 1, _ => exact ⟨v1, rfl, h1.below hb⟩
  · rintro e w' ⟨rfl, h⟩
    exact ⟨by simp, below_alloc _ h⟩
end Go.Proofs.Ytnjhbidialngmaa
