/-
  THE WALKS OF the laws' awake, pick, sort; of the document's own digits, head, tail, Make.
-/
import Derived.Test.YtglnhppgoomehabNm3
namespace Go.Proofs.Ytglnhppgoomehab
open Go.RowKit
namespace Nam
open Vt
theorem ex_seg : (⟨#[115, 101, 103, 45, 48, 48, 48, 48, 48, 48, 50, 97, 46, 108, 111, 103]⟩ : ByteArray) = str (mk 1 42) := rfl
theorem ex_bad : str (mk 3 4294967295) = (⟨#[98, 97, 100, 45, 102, 102, 102, 102, 102, 102, 102, 102, 46, 98, 105, 110]⟩ : ByteArray) := rfl
theorem mk_size {c n : Nat} : (str (mk c n)).size ≤ 17 := by
  rw [str_size (mk_byt c n), mk_len]
  have := atl_len c
  omega
set_option maxRecDepth 100000 in
set_option maxHeartbeats 400000 in
theorem awake_is (w : World) : Calls Try.prog 6 #[] w fun e w' => e = .returned (.bool true) ∧ Below w.heap.size w w' := by
  go_enter Try.func6, Try.ntmps6
  go_wp2_with fail
  refine Calls.mono (parse_is _ _ (by decide)) ?_
  rintro e w' ⟨rfl, rfl⟩
  rw [ex_seg, bl_str (mk_byt 1 42), prs_mk (.inl rfl) ⟨by omega, by omega⟩]
  go_wp2_with fail
  refine Calls.mono (make_ok 3 4294967295 (.inr (.inr rfl)) ⟨by omega, by omega⟩ _) ?_
  rintro e w2 ⟨rfl, hB⟩
  have HB := hd hB
  clear hB
  rw [ex_bad]
  go_wp2_with fail
  go_ret
  exact ⟨rfl, HB.out⟩
theorem hex_head (j n : Nat) : hex (j + 1) n = hx (n / 16 ^ j % 16) :: hex j n := rfl
theorem cut_digit (d : Nat) (h : d < 16) : (⟨#[48, 49, 50, 51, 52, 53, 54, 55, 56, 57, 97, 98, 99, 100, 101, 102]⟩ : ByteArray).extract d (d + 1) = str [hx d] := by
  have : ∀ d : Fin 16, ((⟨#[48, 49, 50, 51, 52, 53, 54, 55, 56, 57, 97, 98, 99, 100, 101, 102]⟩ : ByteArray).extract d.val (d.val + 1)) = str [hx d.val] := by decide
  exact this ⟨d, h⟩
set_option maxRecDepth 100000 in
set_option maxHeartbeats 400000 in
theorem rdigits_is (n : Nat) (hn : n < 4294967296) (w : World) :
    Calls Try.prog 74 #[.int .i64 (n : Int)] w fun e w' => e = .returned (.string (str (hex 8 n))) ∧ w' = w := by
  go_enter Try.func74, Try.ntmps74
  go_wp2_with fail
  go_loop [0, 3, 4] (fun y t i => ∃ j : Nat, j ≤ 8 ∧ i = .int .i64 (j : Int) ∧ y = .int .i64 ((n / 16 ^ j : Nat) : Int) ∧ t = .string (str (hex j n))) (fun _ _ i => 8 - (intOf i).toNat)
  case atStart => exact ⟨0, by omega, rfl, by rw [Nat.pow_zero, Nat.div_one], rfl⟩
  case round =>
    obtain ⟨j, hj, rfl, rfl, rfl⟩ := hrel
    have hz : (str (hex j n)).size ≤ 8 := by rw [str_size (hex_byt j n), hex_len]; exact hj
    by_cases hlt : j < 8
    · have hli : ((j : Nat) : Int) < 8 := by omega
      have hd16 : n / 16 ^ j % 16 < 16 := by omega
      have hqe : n / 16 ^ (j + 1) = n / 16 ^ j / 16 := by rw [Nat.pow_succ, Nat.div_div_eq_div_mul]
      have HQE := hd hqe
      have HHX := hd (hex_head j n)
      have HBY := hd (hex_byt j n)
      generalize hq : n / 16 ^ j = q at *
      have hq2 : q < 4294967296 := by have := Nat.div_le_self n (16 ^ j); omega
      have HCD := hd (cut_digit (q % 16) hd16)
      have hz1 : (str [hx (q % 16)]).size = 1 := str_size (by intro x hx; simp at hx; rw [hx]; exact hx_lt hd16)
      clear hqe hq
      generalize hex j n = l at *
      go_wp2_with fail
      rw [HCD.out]
      refine ⟨⟨j + 1, by omega, rfl, by rw [HQE.out]; rfl, ?_⟩, by simp [intOf]; omega⟩
      rw [HHX.out, str_app _ _ (by intro x hx; simp at hx; rw [hx]; exact hx_lt hd16) HBY.out]
      rfl
    · have hli : ¬ ((j : Nat) : Int) < 8 := by omega
      have e8 : j = 8 := by omega
      rw [e8] at hli ⊢
      clear hlt hj hz e8
      go_wp2_with fail
      go_ret
      exact ⟨rfl, rfl⟩
set_option maxRecDepth 100000 in
set_option maxHeartbeats 400000 in
theorem rmake_ok (c n : Nat) (hc : Cl c) (hn : Nu n) (w : World) :
    Calls Try.prog 60 #[.int .i64 (c : Int), .int .i64 (n : Int)] w fun e w' => e = .returned (.tuple #[.string (str (mk c n)), .int .i64 0]) ∧ w' = w := by
  obtain ⟨hn1, hn2⟩ := hn
  have hz1 : (str (ahd c)).size = 4 := by rw [str_size (ahd_byt c), ahd_len]
  have hz2 : (str (hex 8 n)).size = 8 := by rw [str_size (hex_byt 8 n), hex_len]
  have hz3 : (str (atl c)).size ≤ 5 := by rw [str_size (atl_byt c)]; exact atl_len c
  have HA : Hid (str (ahd c) ++ str (hex 8 n) ++ str (atl c) = str (mk c n)) := by
    show str (ahd c) ++ str (hex 8 n) ++ str (atl c) = str (mk c n)
    rw [str_app _ _ (ahd_byt c) (hex_byt 8 n), str_app _ _ (byt_app (ahd_byt c) (hex_byt 8 n)) (atl_byt c), List.append_assoc]
    rfl
  have hh : Calls Try.prog 73 #[.int .i64 (c : Int)] w fun e w' => e = .returned (.string (str (ahd c))) ∧ w' = w := by
    clear hz1 hz2 hz3 HA
    rcases hc with rfl | rfl | rfl
    all_goals
      go_enter Try.func73, Try.ntmps73
      go_wp2
      go_ret
      exact ⟨rfl, rfl⟩
  have ht : Calls Try.prog 72 #[.int .i64 (c : Int)] w fun e w' => e = .returned (.string (str (atl c))) ∧ w' = w := by
    clear hz1 hz2 hz3 HA hh
    rcases hc with rfl | rfl | rfl
    all_goals
      go_enter Try.func72, Try.ntmps72
      go_wp2
      go_ret
      exact ⟨rfl, rfl⟩
  have HH := hd hh
  have HT := hd ht
  have hn4 : ¬ (4294967295 : Int) < (n : Int) := by omega
  have hc1 : ¬ ((c : Nat) : Int) < 1 := by rcases hc with rfl | rfl | rfl <;> omega
  have hc3 : ¬ (3 : Int) < ((c : Nat) : Int) := by rcases hc with rfl | rfl | rfl <;> omega
  clear hh ht hc
  go_enter Try.func60, Try.ntmps60
  go_wp2_with (first
    | (go_at_call 73; refine Calls.mono HH.out ?_; rintro e w' ⟨rfl, rfl⟩)
    | (go_at_call 72; refine Calls.mono HT.out ?_; rintro e w' ⟨rfl, rfl⟩)
    | (go_at_call 74; refine Calls.mono (rdigits_is n hn2 _) ?_; rintro e w' ⟨rfl, rfl⟩))
  go_ret2
  exact ⟨by rw [← HA.out]; rfl, rfl⟩
set_option maxRecDepth 100000 in
set_option maxHeartbeats 400000 in
theorem rmake_no (c n : Int) (h : (c < 1 ∨ 3 < c) ∨ n < 1 ∨ 4294967295 < n) (w : World) :
    Calls Try.prog 60 #[.int .i64 c, .int .i64 n] w fun e w' => e = .returned (.tuple #[.string (str []), .int .i64 60]) ∧ w' = w := by
  by_cases h1 : c < 1
  · go_enter Try.func60, Try.ntmps60
    go_wp2_with fail
    go_ret2
    exact ⟨rfl, rfl⟩
  · by_cases h2 : 3 < c
    · go_enter Try.func60, Try.ntmps60
      go_wp2_with fail
      go_ret2
      exact ⟨rfl, rfl⟩
    · by_cases h3 : n < 1
      · go_enter Try.func60, Try.ntmps60
        go_wp2_with fail
        go_ret2
        exact ⟨rfl, rfl⟩
      · have h4 : 4294967295 < n := by omega
        go_enter Try.func60, Try.ntmps60
        go_wp2_with fail
        go_ret2
        exact ⟨rfl, rfl⟩
/-- the class that a raw number speaks of -/
def so (c : Int) : Nat := 1 + (if c < 0 then (-(c + 1)).toNat else c.toNat) % 3
theorem so_cl (c : Int) : Cl (so c) := by unfold so Cl; omega
end Nam
end Go.Proofs.Ytglnhppgoomehab
