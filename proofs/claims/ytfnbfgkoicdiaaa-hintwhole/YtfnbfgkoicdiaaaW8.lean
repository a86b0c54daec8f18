/-
  THE WALK OF Sum: of whatever parts, nil ones and none among them, it answers the sum of all, one behind the other; nothing that was there is turned.
-/
import Derived.Test.YtfnbfgkoicdiaaaW7
namespace Go.Proofs.Ytfnbfgkoicdiaaa
open Go.RowKit

theorem below_drewN {B : Nat} {a w : World} (h : Below B a w) (n : Nat) : Below B a (w.drewN n) := ⟨h.os, h.tape, h.output, h.size, h.block⟩
theorem IsPs.below {w w' : World} {b off : Nat} {ls : List (List Nat)} (h : IsPs w b off ls) (hb : b < w.heap.size) (hB : Below w.heap.size w w') : IsPs w' b off ls := by
  intro i hi
  obtain ⟨v, hv, hI⟩ := h i hi
  exact ⟨v, by rw [hB.cell hb]; exact hv, hI.below hB⟩
theorem IsP.below {w w' : World} {v : Value} {ls : List (List Nat)} (h : IsP w v ls) (hB : Below w.heap.size w w') : IsP w' v ls := by
  obtain ⟨h1, ⟨rfl, a, c, rfl⟩ | ⟨b, off, c, rfl, h3, h4⟩⟩ := h
  · exact ⟨h1, .inl ⟨rfl, a, c, rfl⟩⟩
  · exact ⟨h1, .inr ⟨b, off, c, rfl, Nat.lt_of_lt_of_le h3 hB.size, h4.below h3 hB⟩⟩
set_option maxRecDepth 100000 in
set_option maxHeartbeats 400000 in
theorem sumWith_nil (a : Option Addr) (c : Nat) (fv : Value) (w : World) :
    Calls Try.prog 41 #[fv, .slice a 0 c] w fun e w' => e = .returned (.int .u32 0) ∧ w' = w := by
  go_enter Try.func41, Try.ntmps41
  go_wp2
  go_loop [5, 10] (fun t i => i = .int .i64 0 ∧ t = .int .u32 0) (fun _ _ => 0)
  case atStart => exact ⟨rfl, rfl⟩
  case round =>
    obtain ⟨rfl, rfl⟩ := hrel
    go_wp2
    go_ret
    exact ⟨rfl, rfl⟩
set_option maxRecDepth 100000 in
set_option maxHeartbeats 400000 in
theorem sum_nil (a : Option Addr) (c : Nat) (w : World) :
    Calls Try.prog 24 #[.slice a 0 c] w fun e w' => e = .returned (.int .u32 0) ∧ w' = w := by
  go_enter Try.func24, Try.ntmps24
  go_wp2
  go_loop [3, 8] (fun t i => i = .int .i64 0 ∧ t = .int .i64 0) (fun _ _ => 0)
  case atStart => exact ⟨rfl, rfl⟩
  case round =>
    obtain ⟨rfl, rfl⟩ := hrel
    go_wp2_with (go_at_call 41; refine (sumWith_nil _ _ _ _).mono ?_; rintro e w' ⟨rfl, rfl⟩)
    go_ret
    exact ⟨rfl, rfl⟩
set_option maxRecDepth 100000 in
set_option maxHeartbeats 400000 in
theorem sum_row (b off c : Nat) (ls : List (List Nat)) (w : World) (hm0 : ls.length ≤ maxLen) (hb : b < w.heap.size) (hP : IsPs w b off ls) :
    Calls Try.prog 24 #[.slice (some ⟨b, off, none⟩) ls.length c] w fun e w' => e = .returned (.int .u32 ((Crc.go 0 ls.flatten : Nat) : Int)) ∧ Below w.heap.size w w' := by
  have hm := hm0
  unfold maxLen at hm
  have HP : Hid (IsPs w b off ls) := hP
  clear hP
  have HC1 : Hid _ := sumWith_bitwise b off c ls w hm0 HP.out
  have HC2 : Hid (∀ u : World, Below w.heap.size w u → Tab u w.heap.size → _) := fun u h1 h2 => sumWith_byEight w.heap.size b off c ls u hm0 (HP.out.below hb h1) h2
  go_enter Try.func24, Try.ntmps24
  go_wp2
  go_loop [3, 8] (fun t i => ∃ (k : Nat) (x : Int), k ≤ ls.length ∧ i = .int .i64 k ∧ t = .int .i64 x) (fun _ i => ls.length - (intOf i).toNat)
  case atStart => exact ⟨0, 0, Nat.zero_le _, rfl, rfl⟩
  case round =>
    obtain ⟨k, x, hk, rfl, rfl⟩ := hrel
    by_cases hlt : k < ls.length
    · obtain ⟨v, hv, hB⟩ := HP.out k hlt
      generalize ls.getD k [] = l at *
      obtain ⟨a, c', e⟩ := hB.shape
      rw [e] at hv
      clear hB e
      go_wp2
      go_round
      case rel => exact ⟨k + 1, _, hlt, by go_num, rfl⟩
      case measure => simp [intOf]; omega
    · obtain rfl : k = ls.length := by omega
      by_cases hx : x < 1024
      · go_wp2_with (go_at_call 41; refine Calls.mono HC1.out ?_; rintro e w' ⟨rfl, n, rfl⟩)
        go_ret
        exact ⟨rfl, below_drewN (Below.refl _ _) n⟩
      · go_wp2_with fail
        refine (new_any _).mono ?_
        rintro e w1 ⟨rfl, hT, hB⟩
        have HT : Hid (Tab w1 w.heap.size) := hT
        have HB : Hid (Below w.heap.size w w1) := hB
        clear hT hB
        go_wp2_with fail
        refine Calls.mono (HC2.out w1 HB.out HT.out) ?_
        rintro e w' ⟨rfl, n, rfl⟩
        go_wp2
        go_ret
        exact ⟨rfl, below_drewN HB.out n⟩
theorem sum_is (v : Value) (ls : List (List Nat)) (w : World) (h : IsP w v ls) :
    Calls Try.prog 24 #[v] w fun e w' => e = .returned (.int .u32 ((Crc.go 0 ls.flatten : Nat) : Int)) ∧ Below w.heap.size w w' := by
  obtain ⟨h1, ⟨rfl, a, c, rfl⟩ | ⟨b, off, c, rfl, h3, h4⟩⟩ := h
  · refine (sum_nil a c w).mono ?_
    rintro e w' ⟨rfl, rfl⟩
    exact ⟨ret_int (by rw [List.flatten_nil, Crc.go_nil (by omega)]; rfl), Below.refl _ _⟩
  · exact sum_row b off c ls w h1 h3 h4
end Go.Proofs.Ytfnbfgkoicdiaaa
