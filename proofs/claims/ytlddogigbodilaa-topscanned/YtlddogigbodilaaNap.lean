/-
  THE WALKS OF vint.Digits and vint.Number: what 'dg' and 'nm' say.
-/
import Derived.Test.YtlddogigbodilaaNal
namespace Go.Proofs.Ytlddogigbodilaa
open Go.RowKit
namespace Vt
theorem low7' (m : Nat) : bits .andNot .u8 ((m : Int) % 256) 128 = ((m % 128 : Nat) : Int) := by
  rw [show (m : Int) % 256 = ((m % 256 : Nat) : Int) by omega, low7 _ (by omega), Nat.mod_mod_of_dvd _ (by decide)]
theorem dg_step (c j n : Nat) (h : j < c) : (List.replicate (c - j) 0 ++ dg j n).set (c - 1 - j) (n / 128 ^ j % 128) = List.replicate (c - (j + 1)) 0 ++ dg (j + 1) n := by
  obtain ⟨r, hr⟩ : ∃ r, c = r + j + 1 := ⟨c - j - 1, by omega⟩
  subst hr
  rw [show r + j + 1 - j = r + 1 by omega, show r + j + 1 - 1 - j = r by omega, show r + j + 1 - (j + 1) = r by omega]
  rw [List.replicate_succ', List.append_assoc, List.set_append_right _ _ (by simp)]
  simp [dg]
/-- Digits where the count may not be. -/
theorem digits_arg (n : Nat) (c : Int) (w : World) (h : c < 1 ∨ 9 < c) :
    Calls Try.prog 85 #[.int .u64 (n : Int), .int .i64 c] w fun e w' => e = .returned (.tuple #[.slice none 0 0, .int .i64 20]) ∧ w' = w := by
  by_cases h1 : c < 1
  · go_enter Try.func85, Try.ntmps85
    go_wp2
    go_ret2
    exact ⟨rfl, rfl⟩
  · have h2 : 9 < c := by omega
    go_enter Try.func85, Try.ntmps85
    go_wp2
    go_ret2
    exact ⟨rfl, rfl⟩
set_option maxRecDepth 100000 in
set_option maxHeartbeats 400000 in
theorem digits_many (n c : Nat) (w : World) (h1 : 1 ≤ c) (h9 : c ≤ 9) (hn : n < 18446744073709551616) (h : 128 ^ c ≤ n) :
    Calls Try.prog 85 #[.int .u64 (n : Int), .int .i64 (c : Int)] w fun e w' => e = .returned (.tuple #[.slice none 0 0, .int .i64 24]) ∧ w' = w := by
  have hbl := (bl_digits (c := c) hn).2 h
  have hb2 := bl_le hn
  go_enter Try.func85, Try.ntmps85
  go_wp2_with fail
  refine Calls.mono (len64_is n w hn) ?_
  rintro e w' ⟨rfl, rfl⟩
  generalize Lib.bitLen n = z at *
  clear h
  go_wp2
  go_ret2
  exact ⟨rfl, rfl⟩
set_option maxRecDepth 100000 in
set_option maxHeartbeats 400000 in
theorem digits_ok (n c : Nat) (w : World) (h1 : 1 ≤ c) (h9 : c ≤ 9) (hn : n < 18446744073709551616) (h : n < 128 ^ c) :
    Calls Try.prog 85 #[.int .u64 (n : Int), .int .i64 (c : Int)] w fun e w' => e = .returned (.tuple #[.slice (some ⟨w.heap.size, 0, none⟩) c c, .int .i64 0]) ∧ JB w' w.heap.size (.slice (some ⟨w.heap.size, 0, none⟩) c c) (dg c n) ∧ Below w.heap.size w w' := by
  have hbl : Lib.bitLen n ≤ 7 * c := by
    rcases Nat.lt_or_ge (7 * c) (Lib.bitLen n) with h2 | h2
    · have := (bl_digits (c := c) hn).1 h2; omega
    · exact h2
  have hb2 := bl_le hn
  obtain ⟨i0, hi, hz0, hz1, hz2⟩ := info_parts info_u8
  have HN := hd h
  clear h
  go_enter Try.func85, Try.ntmps85
  go_wp2_with fail
  refine Calls.mono (len64_is n w hn) ?_
  rintro e w' ⟨rfl, rfl⟩
  generalize Lib.bitLen n = z at *
  go_wp2_with (at_make; refine wpList_make_full _ rfl _ _ 22 rfl w'.heap.size 5 i0 (.int .u8 0) 1 Try.underlying22 hi hz0 hz1 .i64 .i64 (c : Int) (c : Int) c rfl rfl rfl rfl (by rw [hz2]; omega) (by unfold maxLen; omega) (Nat.le_refl _) ?_; intro w1 hown hgrow)
  have HB1 : Hid (Below w'.heap.size w' w1) := (Below.refl _ _).grown hgrow (Nat.le_refl _) (fun k hk => by cases hk)
  have HO1 : Hid (JB w1 w'.heap.size (.slice (some ⟨w'.heap.size, 0, none⟩) c c) (List.replicate c 0)) := by
    refine ⟨by intro x hx; have := List.eq_of_mem_replicate hx; omega, ?_⟩
    rw [made8] at hown; rw [List.length_replicate]; exact hown
  clear hown hgrow
  go_loopw [0, 7] (fun y i wr => ∃ j : Nat, j ≤ c ∧ i = .int .i64 ((c : Int) - 1 - (j : Int)) ∧ y = .int .u64 ((n / 128 ^ j : Nat) : Int) ∧ JB wr w'.heap.size (.slice (some ⟨w'.heap.size, 0, none⟩) c c) (List.replicate (c - j) 0 ++ dg j n) ∧ Below w'.heap.size w' wr) (fun _ i _ => (intOf i + 1).toNat)
  case atStart => exact ⟨0, by omega, by simp, by simp, by simpa [dg] using HO1.out, HB1.out⟩
  case round =>
    obtain ⟨j, hj, rfl, rfl, hO, hB⟩ := hrel
    have HO := hd hO
    have HB := hd hB
    clear hO hB HO1 HB1
    by_cases hlt : j < c
    · obtain ⟨p, hp⟩ : ∃ p : Nat, p = c - 1 - j := ⟨_, rfl⟩
      have hpi : (c : Int) - 1 - (j : Int) = (p : Int) := by omega
      have hpc : p < c := by omega
      have hll : c = (List.replicate (c - j) 0 ++ dg j n).length := by rw [List.length_append, List.length_replicate, dg_len]; omega
      have hcell := HO.out.buf.cell (j := p) (by omega)
      have hfro := HO.out.buf.2.2.2.2.2 p (by omega)
      have HO2 := hd (HO.out.set (j := p) (y := n / 128 ^ j % 128) hll (by omega))
      have HS := hd (dg_step c j n hlt)
      rw [← hp] at HS
      rw [HS.out] at HO2
      have hqe : n / 128 ^ (j + 1) = n / 128 ^ j / 128 := by rw [Nat.pow_succ, Nat.div_div_eq_div_mul]
      have HQE := hd hqe
      have HLL := hd hll
      generalize hq : n / 128 ^ j = q at *
      have hq2 : q < 18446744073709551616 := by have := Nat.div_le_self n (128 ^ j); omega
      rw [hpi]
      have HP := hd hp
      have HLT := hd hlt
      have HPI := hd hpi
      clear hlt hp hpi hq hj hqe hll
      go_wp2_with fail
      rw [low7' q]
      go_roundw
      case rel =>
        refine ⟨j + 1, HLT.out, ?_, by rw [HQE.out]; rfl, HO2.out, HB.out.setCell (Nat.le_refl _) _⟩
        have := HPI.out
        congr 1
        omega
      case measure => simp [intOf]
    · obtain rfl : j = c := by omega
      have hpi : (j : Int) - 1 - (j : Int) = -1 := by omega
      rw [hpi]
      rw [Nat.sub_self] at HO
      go_wp2
      go_ret2
      exact ⟨rfl, HO.out, HB.out⟩
theorem or_digit {n x : Nat} (hn : n < 72057594037927936) (hx : x < 128) : bits .or .u64 ((n : Int) * 128) (x : Int) = ((n * 128 + x : Nat) : Int) := by
  rw [show (n : Int) * 128 = ((n * 128 : Nat) : Int) by omega, u64_or_nat _ _ (by omega) (by omega)]
  congr 1
  rw [show n * 128 = 2 ^ 7 * n by omega, ← Nat.two_pow_add_eq_or_of_lt (by omega)]
set_option maxRecDepth 100000 in
theorem number_arg (v : Value) (c : Int) (w : World) (h : c < 1 ∨ 9 < c) :
    Calls Try.prog 81 #[v, .int .i64 c] w fun e w' => e = .returned (.tuple #[.int .u64 0, .int .i64 20]) ∧ w' = w := by
  by_cases h1 : c < 1
  · go_enter Try.func81, Try.ntmps81
    go_wp2
    go_ret2
    exact ⟨rfl, rfl⟩
  · have h2 : 9 < c := by omega
    go_enter Try.func81, Try.ntmps81
    go_wp2
    go_ret2
    exact ⟨rfl, rfl⟩
set_option maxRecDepth 100000 in
theorem number_short (a : Option Addr) (n cap c : Nat) (w : World) (h1 : 1 ≤ c) (h9 : c ≤ 9) (h : n < c) :
    Calls Try.prog 81 #[.slice a n cap, .int .i64 (c : Int)] w fun e w' => e = .returned (.tuple #[.int .u64 0, .int .i64 21]) ∧ w' = w := by
  go_enter Try.func81, Try.ntmps81
  go_wp2
  go_ret2
  exact ⟨rfl, rfl⟩
/-- what Number answers of as many bytes as are wanted -/
def numAns (l : List Nat) (c : Nat) : Value := .tuple (if ∀ x ∈ l.take c, x < 128 then #[.int .u64 ((nm (l.take c) : Nat) : Int), .int .i64 0] else #[.int .u64 0, .int .i64 24])
theorem numAns_ok {l : List Nat} {c : Nat} (h : ∀ x ∈ l.take c, x < 128) : numAns l c = .tuple #[.int .u64 ((nm (l.take c) : Nat) : Int), .int .i64 0] := by unfold numAns; rw [if_pos h]
theorem numAns_bad {l : List Nat} {c : Nat} (h : ¬ ∀ x ∈ l.take c, x < 128) : numAns l c = .tuple #[.int .u64 0, .int .i64 24] := by unfold numAns; rw [if_neg h]
set_option maxRecDepth 100000 in
set_option maxHeartbeats 400000 in
theorem number_row (b off cap c : Nat) (l : List Nat) (w : World) (hb : Byt l) (hr : Row w b off l) (hlc : l.length ≤ cap) (h1 : 1 ≤ c) (h9 : c ≤ 9) (h : c ≤ l.length) :
    Calls Try.prog 81 #[.slice (some ⟨b, off, none⟩) l.length cap, .int .i64 (c : Int)] w fun e w' => e = .returned (numAns l c) ∧ w' = w := by
  have HR := hd hr
  have HB := hd hb
  clear hr hb
  go_enter Try.func81, Try.ntmps81
  go_wp2_with fail
  go_loop [6, 23] (fun s i => ∃ k : Nat, k ≤ c ∧ i = .int .i64 (k : Int) ∧ s = .int .u64 ((nm (l.take k) : Nat) : Int) ∧ ∀ x ∈ l.take k, x < 128) (fun _ i => c - (intOf i).toNat)
  case atStart => exact ⟨0, by omega, rfl, rfl, by intro x hx; simp at hx⟩
  case round =>
    obtain ⟨k, hk, rfl, rfl, he⟩ := hrel
    have hnm := nm_lt he
    rw [List.length_take, show min k l.length = k by omega] at hnm
    have HE := hd he
    clear he
    by_cases hlt : k < c
    · have hc := HR.out k (by omega)
      have hx := getD_lt HB.out k
      have HT := hd (take_succ_getD (show k < l.length by omega))
      obtain ⟨x, hxe⟩ : ∃ x, x = l.getD k 0 := ⟨_, rfl⟩
      rw [← hxe] at hc hx HT
      clear hxe
      have HS := hd (nm_snoc (l.take k) x)
      rw [← HT.out] at HS
      have hb8 : nm (l.take k) < 72057594037927936 := by
        have : 128 ^ k ≤ 128 ^ 8 := Nat.pow_le_pow_right (by omega) (by omega)
        have e : (128 : Nat) ^ 8 = 72057594037927936 := by decide
        omega
      generalize nm (l.take k) = n at *
      clear hnm
      by_cases h128 : x < 128
      · have HV := hd (or_digit (n := n) (x := x) hb8 h128)
        have HE2 : Hid (∀ y ∈ l.take (k + 1), y < 128) := by
          show ∀ y ∈ l.take (k + 1), y < 128
          rw [HT.out]
          intro y hy
          rcases List.mem_append.1 hy with hy | hy
          · exact HE.out y hy
          · simp at hy; omega
        go_wp2_with fail
        go_round
        case rel => exact ⟨k + 1, by omega, by go_num, by rw [HV.out, HS.out], HE2.out⟩
        case measure => simp [intOf]; omega
      · have HNE : Hid (¬ ∀ y ∈ l.take c, y < 128) := by
          intro hall
          have hmem : x ∈ l.take c := by
            have : l.take (k + 1) <+: l.take c := List.take_prefix_take_left (by omega)
            refine this.subset ?_
            rw [HT.out]; simp
          exact h128 (hall x hmem)
        go_wp2_with fail
        go_ret2
        exact ⟨by rw [numAns_bad HNE.out]; rfl, rfl⟩
    · have hkc : k = c := by omega
      rw [hkc] at HE
      have HA := hd (numAns_ok HE.out)
      rw [← hkc] at HA
      have hle : ¬ ((k : Nat) : Int) < (c : Int) := by omega
      have HKC := hd hkc
      generalize nm (l.take k) = n at *
      clear hkc hk hnm hlt
      go_wp2_with fail
      go_ret2
      exact ⟨by rw [← HKC.out, HA.out]; rfl, rfl⟩
theorem number_is (v : Value) (c : Nat) (l : List Nat) (w : World) (hI : IsB w v l) (h1 : 1 ≤ c) (h9 : c ≤ 9) (h : c ≤ l.length) :
    Calls Try.prog 81 #[v, .int .i64 (c : Int)] w fun e w' => e = .returned (numAns l c) ∧ w' = w := by
  obtain ⟨hb, _, ⟨rfl, a, c', rfl⟩ | ⟨b, off, c', rfl, h3, h4, _, hr⟩⟩ := hI
  · simp at h; omega
  · exact number_row b off c' c l w hb hr h3 h1 h9 h
/-- what Number answers, at every count -/
def numAll (l : List Nat) (c : Int) : Value := if c < 1 ∨ 9 < c then .tuple #[.int .u64 0, .int .i64 20] else if (l.length : Int) < c then .tuple #[.int .u64 0, .int .i64 21] else numAns l c.toNat
theorem number_all (v : Value) (c : Int) (l : List Nat) (w : World) (hI : IsB w v l) :
    Calls Try.prog 81 #[v, .int .i64 c] w fun e w' => e = .returned (numAll l c) ∧ w' = w := by
  unfold numAll
  by_cases h : c < 1 ∨ 9 < c
  · rw [if_pos h]; exact number_arg v c w h
  · rw [if_neg h]
    obtain ⟨d, rfl⟩ : ∃ d : Nat, c = (d : Int) := ⟨c.toNat, by omega⟩
    by_cases h2 : (l.length : Int) < (d : Int)
    · rw [if_pos h2]
      obtain ⟨a, k, rfl⟩ := hI.shape
      exact number_short a _ k d w (by omega) (by omega) (by omega)
    · rw [if_neg h2, Int.toNat_natCast]
      exact number_is v d l w hI (by omega) (by omega) (by omega)
end Vt
end Go.Proofs.Ytlddogigbodilaa
