/-
  THE WALKS OF sumWith (by Bitwise, by the method value ByEight) and of Sum: the sum of all parts, one behind the other.
-/
import Derived.Test.YtlddogigbodilaaNav
namespace Go.Proofs.Ytlddogigbodilaa
open Go.RowKit

theorem IsB.drewN {w : World} {v : Value} {l : List Nat} (h : IsB w v l) (n : Nat) : IsB (w.drewN n) v l := h
theorem IsB.shape {w : World} {v : Value} {l : List Nat} (h : IsB w v l) : ∃ a c, v = .slice a l.length c := by
  obtain ⟨_, _, ⟨rfl, a, c, rfl⟩ | ⟨b, off, c, rfl, _⟩⟩ := h
  · exact ⟨a, c, rfl⟩
  · exact ⟨_, c, rfl⟩
theorem IsB.below {w w' : World} {v : Value} {l : List Nat} (h : IsB w v l) (hb : Below w.heap.size w w') : IsB w' v l := by
  obtain ⟨h1, h2, ⟨rfl, a, c, rfl⟩ | ⟨b, off, c, rfl, h3, h4, h5, h6⟩⟩ := h
  · exact ⟨h1, h2, .inl ⟨rfl, a, c, rfl⟩⟩
  · refine ⟨h1, h2, .inr ⟨b, off, c, rfl, h3, h4, Nat.lt_of_lt_of_le h5 hb.size, fun k hk => ?_⟩⟩
    rw [hb.cell h5]; exact h6 k hk
/-- The parts: a slice of slices of bytes. -/
def IsPs (w : World) (b off : Nat) (ls : List (List Nat)) : Prop := ∀ i, i < ls.length → ∃ v, w.cell? ⟨b, off + i, none⟩ = some v ∧ IsB w v (ls.getD i [])
def IsP (w : World) (v : Value) (ls : List (List Nat)) : Prop :=
  ls.length ≤ maxLen ∧ ((ls = [] ∧ ∃ a c, v = .slice a 0 c) ∨ ∃ b off c, v = .slice (some ⟨b, off, none⟩) ls.length c ∧ b < w.heap.size ∧ IsPs w b off ls)
theorem byt_flatten {w : World} {b off : Nat} {ls : List (List Nat)} (h : IsPs w b off ls) (k : Nat) : Crc.Byt (ls.take k).flatten := by
  intro x hx
  obtain ⟨l, hl, hxl⟩ := List.mem_flatten.1 hx
  obtain ⟨i, hi, he⟩ := List.getElem_of_mem (List.mem_of_mem_take hl)
  obtain ⟨v, _, hB⟩ := h i hi
  rw [List.getD_eq_getElem?_getD, List.getElem?_eq_getElem hi, he] at hB
  exact hB.1 x hxl
theorem takes_succ {ls : List (List Nat)} {k : Nat} (h : k < ls.length) : (ls.take (k + 1)).flatten = (ls.take k).flatten ++ ls.getD k [] := by
  rw [List.take_succ_eq_append_getElem h, List.getD_eq_getElem?_getD, List.getElem?_eq_getElem h, List.flatten_append]; simp
set_option maxRecDepth 100000 in
set_option maxHeartbeats 400000 in
theorem sumWith_bitwise (b off c : Nat) (ls : List (List Nat)) (w : World) (hm : ls.length ≤ maxLen) (hP : IsPs w b off ls) :
    Calls Try.prog 68 #[.func (.func 69) #[] #[], .slice (some ⟨b, off, none⟩) ls.length c] w fun e w' => e = .returned (.int .u32 ((Crc.go 0 ls.flatten : Nat) : Int)) ∧ ∃ n, w' = w.drewN n := by
  unfold maxLen at hm
  have HP : Hid (IsPs w b off ls) := hP
  clear hP
  go_enter Try.func68, Try.ntmps68
  go_wp2
  go_loopw [5, 10] (fun t i wr => (∃ n, wr = w.drewN n) ∧ ∃ k : Nat, k ≤ ls.length ∧ i = .int .i64 k ∧ t = .int .u32 ((Crc.go 0 (ls.take k).flatten : Nat) : Int)) (fun _ i _ => ls.length - (intOf i).toNat)
  case atStart => exact ⟨⟨0, rfl⟩, 0, Nat.zero_le _, rfl, by rw [List.take_zero, List.flatten_nil, Crc.go_nil (by omega)]; rfl⟩
  case round =>
    obtain ⟨⟨n, rfl⟩, k, hk, rfl, rfl⟩ := hrel
    by_cases hlt : k < ls.length
    · obtain ⟨v, hv, hB⟩ := HP.out k hlt
      have HE : Hid (Crc.go (Crc.go 0 (ls.take k).flatten) (ls.getD k []) = Crc.go 0 (ls.take (k + 1)).flatten) := by
        show Crc.go (Crc.go 0 (ls.take k).flatten) (ls.getD k []) = Crc.go 0 (ls.take (k + 1)).flatten
        rw [takes_succ hlt, Crc.go_append _ (byt_flatten HP.out k)]
      generalize ls.getD k [] = l at *
      have HC : Hid _ := bitwise_is _ v _ (w.drewN n) (Crc.go_lt 0 (ls.take k).flatten) (hB.drewN n)
      obtain ⟨a, c', e⟩ := hB.shape
      rw [e] at hv HC
      clear hB e
      go_wp2_with fail
      refine Calls.mono HC.out ?_
      rintro e w2 ⟨rfl, rfl⟩
      go_wp2
      go_roundw
      case rel => exact ⟨⟨n, by rfl⟩, k + 1, hlt, by go_num, by rw [HE.out]⟩
      case measure => simp [intOf]; omega
    · obtain rfl : k = ls.length := by omega
      go_wp2
      go_ret
      exact ⟨ret_int (by rw [List.take_length]), n, rfl⟩
set_option maxRecDepth 100000 in
set_option maxHeartbeats 400000 in
theorem sumWith_byEight (B : Nat) (b off c : Nat) (ls : List (List Nat)) (w : World) (hm : ls.length ≤ maxLen) (hP : IsPs w b off ls) (hT : Tab w B) :
    Calls Try.prog 68 #[.func (.func 71) #[.pointer (some ⟨B, 0, none⟩)] #[], .slice (some ⟨b, off, none⟩) ls.length c] w fun e w' => e = .returned (.int .u32 ((Crc.go 0 ls.flatten : Nat) : Int)) ∧ ∃ n, w' = w.drewN n := by
  unfold maxLen at hm
  have HP : Hid (IsPs w b off ls) := hP
  clear hP
  have HT : Hid (Tab w B) := hT
  clear hT
  go_enter Try.func68, Try.ntmps68
  go_wp2
  go_loopw [5, 10] (fun t i wr => (∃ n, wr = w.drewN n) ∧ ∃ k : Nat, k ≤ ls.length ∧ i = .int .i64 k ∧ t = .int .u32 ((Crc.go 0 (ls.take k).flatten : Nat) : Int)) (fun _ i _ => ls.length - (intOf i).toNat)
  case atStart => exact ⟨⟨0, rfl⟩, 0, Nat.zero_le _, rfl, by rw [List.take_zero, List.flatten_nil, Crc.go_nil (by omega)]; rfl⟩
  case round =>
    obtain ⟨⟨n, rfl⟩, k, hk, rfl, rfl⟩ := hrel
    by_cases hlt : k < ls.length
    · obtain ⟨v, hv, hB⟩ := HP.out k hlt
      have HE : Hid (Crc.go (Crc.go 0 (ls.take k).flatten) (ls.getD k []) = Crc.go 0 (ls.take (k + 1)).flatten) := by
        show Crc.go (Crc.go 0 (ls.take k).flatten) (ls.getD k []) = Crc.go 0 (ls.take (k + 1)).flatten
        rw [takes_succ hlt, Crc.go_append _ (byt_flatten HP.out k)]
      generalize ls.getD k [] = l at *
      have HC : Hid _ := byEight_is B _ v _ (w.drewN n) (Crc.go_lt 0 (ls.take k).flatten) (HT.out.drewN n) (hB.drewN n)
      obtain ⟨a, c', e⟩ := hB.shape
      rw [e] at hv HC
      clear hB e
      go_wp2_with fail
      refine Calls.mono HC.out ?_
      rintro e w2 ⟨rfl, m, rfl⟩
      go_wp2
      go_roundw
      case rel => exact ⟨⟨n + m, by rfl⟩, k + 1, hlt, by go_num, by rw [HE.out]⟩
      case measure => simp [intOf]; omega
    · obtain rfl : k = ls.length := by omega
      go_wp2
      go_ret
      exact ⟨ret_int (by rw [List.take_length]), n, rfl⟩
end Go.Proofs.Ytlddogigbodilaa
