/-
  THE WALKS OF vint.Digits and vint.Number: what 'dg' and 'nm' say.
  THE WALKS OF frame.readLength and frame.open.
-/
import Derived.Test.YtnjhbidialngmaaXhad
import Derived.Test.YtnjhbidialngmaaXhac
import Derived.Test.YtnjhbidialngmaaXhaf
namespace Go.Proofs.Ytnjhbidialngmaa
open Go.RowKit
namespace Vt
theorem low7' (m : Nat) : bits .andNot .u8 ((m : Int) % 256) 128 = ((m % 128 : Nat) : Int) := by
  rw [show (m : Int) % 256 = ((m % 256 : Nat) : Int) by omega, low7 _ (by omega), Nat.mod_mod_of_dvd _ (by decide)]
theorem dg_step (c j n : Nat) (h : j < c) : (List.replicate (c - j) 0 ++ dg j n).set (c - 1 - j) (n / 128 ^ j % 128) = List.replicate (c - (j + 1)) 0 ++ dg (j + 1) n := by
  obtain ⟨r, hr⟩ : ∃ r, c = r + j + 1 := ⟨c - j - 1, by omega⟩
  subst hr
  rw [show r + j + 1 - j = r + 1 by omega, show r + j + 1 - 1 - j = r by omega, show r + j + 1 - (j + 1) = r by omega]
  rw [List.replicate_succ', List.append_assoc, List.set_append_right _ _ (by simp)]
  simp [dg]
set_option maxRecDepth 100000 in
set_option maxHeartbeats 400000 in
theorem digits_ok (n c : Nat) (w : World) (h1 : 1 ≤ c) (h9 : c ≤ 9) (hn : n < 18446744073709551616) (h : n < 128 ^ c) :
    Calls Try.prog 27 #[.int .u64 (n : Int), .int .i64 (c : Int)] w fun e w' => e = .returned (.tuple #[.slice (some ⟨w.heap.size, 0, none⟩) c c, .int .i64 0]) ∧ JB w' w.heap.size (.slice (some ⟨w.heap.size, 0, none⟩) c c) (dg c n) ∧ Below w.heap.size w w' := by
  have hbl : Lib.bitLen n ≤ 7 * c := by
    rcases Nat.lt_or_ge (7 * c) (Lib.bitLen n) with h2 | h2
    · have := (bl_digits (c := c) hn).1 h2; omega
    · exact h2
  have hb2 := bl_le hn
  obtain ⟨i0, hi, hz0, hz1, hz2⟩ := info_parts info_u8
  have HN := hd h
  clear h
  go_enter Try.func27, Try.ntmps27
  go_wp2_with fail
  refine Calls.mono (len64_is n w hn) ?_
  rintro e w' ⟨rfl, rfl⟩
  generalize Lib.bitLen n = z at *
  go_wp2_with (at_make; refine wpList_make_full _ rfl _ _ 36 rfl w'.heap.size 5 i0 (.int .u8 0) 1 Try.underlying36 hi hz0 hz1 .i64 .i64 (c : Int) (c : Int) c rfl rfl rfl rfl (by rw [hz2]; omega) (by unfold maxLen; omega) (Nat.le_refl _) ?_; intro w1 hown hgrow)
  have HB1 : Hid (Below w'.heap.size w' w1) := (Below.refl _ _).grown hgrow (Nat.le_refl _) (fun k hk => by cases hk)
  have HO1 : Hid (JB w1 w'.heap.size (.slice (some ⟨w'.heap.size, 0, none⟩) c c) (List.replicate c 0)) := by
    refine ⟨by intro x hx; have := List.eq_of_mem_replicate hx; omega, ?_⟩
    rw [made8] at hown; rw [List.length_replicate]; exact hown
  clear hown hgrow
  go_loopw [0, 7] (fun y i wr => ∃ j : Nat, j ≤ c ∧ i = .int .i64 ((c : Int) - 1 - (j : Int)) ∧ y = .int .u64 ((n / 128 ^ j : Nat) : Int) ∧ JB wr w'.heap.size (.slice (some ⟨w'.heap.size, 0, none⟩) c c) (List.replicate (c - j) 0 ++ dg j n) ∧ Below w'.heap.size w' wr) (fun _ i _ => (intOf i + 1).toNat)
  case atStart => exact ⟨0, by omega, by simp, by simp, by simpa [dg] using HO1.out, HB1.out⟩
  case round =>
    obtain ⟨j, hj, rfl, rfl, hO, hB⟩ := hrel
    have HO := hd hO
    have HB := hd hB
    clear hO hB HO1 HB1
    by_cases hlt : j < c
    · obtain ⟨p, hp⟩ : ∃ p : Nat, p = c - 1 - j := ⟨_, rfl⟩
      have hpi : (c : Int) - 1 - (j : Int) = (p : Int) := by omega
      have hpc : p < c := by omega
      have hll : c = (List.replicate (c - j) 0 ++ dg j n).length := by rw [List.length_append, List.length_replicate, dg_len]; omega
      have hcell := HO.out.buf.cell (j := p) (by omega)
      have hfro := HO.out.buf.2.2.2.2.2 p (by omega)
      have HO2 := hd (HO.out.set (j := p) (y := n / 128 ^ j % 128) hll (by omega))
      have HS := hd (dg_step c j n hlt)
      rw [← hp] at HS
      rw [HS.out] at HO2
      have hqe : n / 128 ^ (j + 1) = n / 128 ^ j / 128 := by rw [Nat.pow_succ, Nat.div_div_eq_div_mul]
      have HQE := hd hqe
      have HLL := hd hll
      generalize hq : n / 128 ^ j = q at *
      have hq2 : q < 18446744073709551616 := by have := Nat.div_le_self n (128 ^ j); omega
      rw [hpi]
      have HP := hd hp
      have HLT := hd hlt
      have HPI := hd hpi
      clear hlt hp hpi hq hj hqe hll
      go_wp2_with fail
      rw [low7' q]
      go_roundw
      case rel =>
        refine ⟨j + 1, HLT.out, ?_, by rw [HQE.out]; rfl, HO2.out, HB.out.setCell (Nat.le_refl _) _⟩
        have := HPI.out
        congr 1
        omega
      case measure => simp [intOf]
    · obtain rfl : j = c := by omega
      have hpi : (j : Int) - 1 - (j : Int) = -1 := by omega
      rw [hpi]
      rw [Nat.sub_self] at HO
      go_wp2
      go_ret2
      exact ⟨rfl, HO.out, HB.out⟩
theorem or_digit {n x : Nat} (hn : n < 72057594037927936) (hx : x < 128) : bits .or .u64 ((n : Int) * 128) (x : Int) = ((n * 128 + x : Nat) : Int) := by
  rw [show (n : Int) * 128 = ((n * 128 : Nat) : Int) by omega, u64_or_nat _ _ (by omega) (by omega)]
  congr 1
  rw [show n * 128 = 2 ^ 7 * n by omega, ← Nat.two_pow_add_eq_or_of_lt (by omega)]
set_option maxRecDepth 100000 in
theorem number_arg (v : Value) (c : Int) (w : World) (h : c < 1 ∨ 9 < c) :
    Calls Try.prog 48 #[v, .int .i64 c] w fun e w' => e = .returned (.tuple #[.int .u64 0, .int .i64 20]) ∧ w' = w := by
  by_cases h1 : c < 1
  · go_enter Try.func48, Try.ntmps48
    go_wp2
    go_ret2
    exact ⟨rfl, rfl⟩
  · have h2 : 9 < c := by omega
    go_enter Try.func48, Try.ntmps48
    go_wp2
    go_ret2
    exact ⟨rfl, rfl⟩
set_option maxRecDepth 100000 in
theorem number_short (a : Option Addr) (n cap c : Nat) (w : World) (h1 : 1 ≤ c) (h9 : c ≤ 9) (h : n < c) :
    Calls Try.prog 48 #[.slice a n cap, .int .i64 (c : Int)] w fun e w' => e = .returned (.tuple #[.int .u64 0, .int .i64 21]) ∧ w' = w := by
  go_enter Try.func48, Try.ntmps48
  go_wp2
  go_ret2
  exact ⟨rfl, rfl⟩
/-- what Number answers of as many bytes as are wanted -/
def numAns (l : List Nat) (c : Nat) : Value := .tuple (if ∀ x ∈ l.take c, x < 128 then #[.int .u64 ((nm (l.take c) : Nat) : Int), .int .i64 0] else #[.int .u64 0, .int .i64 24])
theorem numAns_ok {l : List Nat} {c : Nat} (h : ∀ x ∈ l.take c, x < 128) : numAns l c = .tuple #[.int .u64 ((nm (l.take c) : Nat) : Int), .int .i64 0] := by unfold numAns; rw [if_pos h]
theorem numAns_bad {l : List Nat} {c : Nat} (h : ¬ ∀ x ∈ l.take c, x < 128) : numAns l c = .tuple #[.int .u64 0, .int .i64 24] := by unfold numAns; rw [if_neg h]
set_option maxRecDepth 100000 in
set_option maxHeartbeats 400000 in
theorem number_row (b off cap c : Nat) (l : List Nat) (w : World) (hb : Byt l) (hr : Row w b off l) (hlc : l.length ≤ cap) (h1 : 1 ≤ c) (h9 : c ≤ 9) (h : c ≤ l.length) :
    Calls Try.prog 48 #[.slice (some ⟨b, off, none⟩) l.length cap, .int .i64 (c : Int)] w fun e w' => e = .returned (numAns l c) ∧ w' = w := by
  have HR := hd hr
  have HB := hd hb
  clear hr hb
  go_enter Try.func48, Try.ntmps48
  go_wp2_with fail
  go_loop [6, 23] (fun s i => ∃ k : Nat, k ≤ c ∧ i = .int .i64 (k : Int) ∧ s = .int .u64 ((nm (l.take k) : Nat) : Int) ∧ ∀ x ∈ l.take k, x < 128) (fun _ i => c - (intOf i).toNat)
  case atStart => exact ⟨0, by omega, rfl, rfl, by intro x hx; simp at hx⟩
  case round =>
    obtain ⟨k, hk, rfl, rfl, he⟩ := hrel
    have hnm := nm_lt he
    rw [List.length_take, show min k l.length = k by omega] at hnm
    have HE := hd he
    clear he
    by_cases hlt : k < c
    · have hc := HR.out k (by omega)
      have hx := getD_lt HB.out k
      have HT := hd (take_succ_getD (show k < l.length by omega))
      obtain ⟨x, hxe⟩ : ∃ x, x = l.getD k 0 := ⟨_, rfl⟩
      rw [← hxe] at hc hx HT
      clear hxe
      have HS := hd (nm_snoc (l.take k) x)
      rw [← HT.out] at HS
      have hb8 : nm (l.take k) < 72057594037927936 := by
        have : 128 ^ k ≤ 128 ^ 8 := Nat.pow_le_pow_right (by omega) (by omega)
        have e : (128 : Nat) ^ 8 = 72057594037927936 := by decide
        omega
      generalize nm (l.take k) = n at *
      clear hnm
      by_cases h128 : x < 128
      · have HV := hd (or_digit (n := n) (x := x) hb8 h128)
        have HE2 : Hid (∀ y ∈ l.take (k + 1), y < 128) := by
          show ∀ y ∈ l.take (k + 1), y < 128
          rw [HT.out]
          intro y hy
          rcases List.mem_append.1 hy with hy | hy
          · exact HE.out y hy
          · simp at hy; omega
        go_wp2_with fail
        go_round
        case rel => exact ⟨k + 1, by omega, by go_num, by rw [HV.out, HS.out], HE2.out⟩
        case measure => simp [intOf]; omega
      · have HNE : Hid (¬ ∀ y ∈ l.take c, y < 128) := by
          intro hall
          have hmem : x ∈ l.take c := by
            have : l.take (k + 1) <+: l.take c := List.take_prefix_take_left (by omega)
            refine this.subset ?_
            rw [HT.out]; simp
          exact h128 (hall x hmem)
        go_wp2_with fail
        go_ret2
        exact ⟨by rw [numAns_bad HNE.out]; rfl, rfl⟩
    · have hkc : k = c := by omega
      rw [hkc] at HE
      have HA := hd (numAns_ok HE.out)
      rw [← hkc] at HA
      have hle : ¬ ((k : Nat) : Int) < (c : Int) := by omega
      have HKC := hd hkc
      generalize nm (l.take k) = n at *
      clear hkc hk hnm hlt
      go_wp2_with fail
      go_ret2
      exact ⟨by rw [← HKC.out, HA.out]; rfl, rfl⟩
theorem number_is (v : Value) (c : Nat) (l : List Nat) (w : World) (hI : IsB w v l) (h1 : 1 ≤ c) (h9 : c ≤ 9) (h : c ≤ l.length) :
    Calls Try.prog 48 #[v, .int .i64 (c : Int)] w fun e w' => e = .returned (numAns l c) ∧ w' = w := by
  obtain ⟨hb, _, ⟨rfl, a, c', rfl⟩ | ⟨b, off, c', rfl, h3, h4, _, hr⟩⟩ := hI
  · simp at h; omega
  · exact number_row b off c' c l w hb hr h3 h1 h9 h
/-- what Number answers, at every count -/
def numAll (l : List Nat) (c : Int) : Value := if c < 1 ∨ 9 < c then .tuple #[.int .u64 0, .int .i64 20] else if (l.length : Int) < c then .tuple #[.int .u64 0, .int .i64 21] else numAns l c.toNat
theorem number_all (v : Value) (c : Int) (l : List Nat) (w : World) (hI : IsB w v l) :
    Calls Try.prog 48 #[v, .int .i64 c] w fun e w' => e = .returned (numAll l c) ∧ w' = w := by
  unfold numAll
  by_cases h : c < 1 ∨ 9 < c
  · rw [if_pos h]; exact number_arg v c w h
  · rw [if_neg h]
    obtain ⟨d, rfl⟩ : ∃ d : Nat, c = (d : Int) := ⟨c.toNat, by omega⟩
    by_cases h2 : (l.length : Int) < (d : Int)
    · rw [if_pos h2]
      obtain ⟨a, k, rfl⟩ := hI.shape
      exact number_short a _ k d w (by omega) (by omega) (by omega)
    · rw [if_neg h2, Int.toNat_natCast]
      exact number_is v d l w hI (by omega) (by omega) (by omega)
end Vt
end Go.Proofs.Ytnjhbidialngmaa
namespace Go.Proofs.Ytnjhbidialngmaa
open Go.RowKit
namespace Vt
/-- the length's digits -/
def dig (l : List Nat) : List Nat := (l.drop 1).take 3
open Classical in
/-- the length that is told, and an error -/
noncomputable def rl (l : List Nat) : Nat × Nat := if l.getD 0 0 ≠ 167 then (0, 41) else if ¬ ∀ x ∈ dig l, x < 128 then (0, 42) else if l.length < 4 ∨ l.length < nm (dig l) + 9 then (0, 43) else (nm (dig l), 0)
theorem rl_41 {l : List Nat} (h : l.getD 0 0 ≠ 167) : rl l = (0, 41) := by unfold rl; rw [if_pos h]
theorem rl_42 {l : List Nat} (h : l.getD 0 0 = 167) (h2 : ¬ ∀ x ∈ dig l, x < 128) : rl l = (0, 42) := by unfold rl; rw [if_neg (fun q => q h), if_pos h2]
theorem rl_43 {l : List Nat} (h : l.getD 0 0 = 167) (h2 : ∀ x ∈ dig l, x < 128) (h3 : l.length < 4 ∨ l.length < nm (dig l) + 9) : rl l = (0, 43) := by unfold rl; rw [if_neg (fun q => q h), if_neg (fun q => q h2), if_pos h3]
theorem rl_0 {l : List Nat} (h : l.getD 0 0 = 167) (h2 : ∀ x ∈ dig l, x < 128) (h3 : 4 ≤ l.length) (h4 : nm (dig l) + 9 ≤ l.length) : rl l = (nm (dig l), 0) := by unfold rl; rw [if_neg (fun q => q h), if_neg (fun q => q h2), if_neg (by omega)]
theorem dig_len (l : List Nat) : (dig l).length = min 3 (l.length - 1) := by unfold dig; rw [List.length_take, List.length_drop]
theorem dig_nm {l : List Nat} (h : ∀ x ∈ dig l, x < 128) : nm (dig l) < 2097152 := by
  have h1 := nm_lt h
  have h2 : (dig l).length ≤ 3 := by rw [dig_len]; omega
  have h3 : (128 : Nat) ^ (dig l).length ≤ 128 ^ 3 := Nat.pow_le_pow_right (by omega) h2
  have h4 : (128 : Nat) ^ 3 = 2097152 := by decide
  omega
set_option maxRecDepth 100000 in
set_option maxHeartbeats 1000000 in
theorem readLen_one (b off c : Nat) (l : List Nat) (w : World) (hI : IsB w (.slice (some ⟨b, off, none⟩) l.length c) l) (h1 : l.length = 1) :
    Calls Try.prog 46 #[.slice (some ⟨b, off, none⟩) l.length c] w fun e w' => e = .returned (.tuple #[.int .i64 ((rl l).1 : Int), .int .i64 ((rl l).2 : Int)]) ∧ w' = w := by
  have hx := hI.row 0 (by omega)
  rw [Nat.add_zero] at hx
  have hcap := hI.cap
  have hxb := getD_lt hI.1 0
  have H1 := hd h1
  rw [h1] at hcap ⊢
  clear h1
  by_cases c1 : l.getD 0 0 = 167
  · have hd0 : dig l = [] := List.length_eq_zero_iff.1 (by rw [dig_len, H1.out]; rfl)
    rw [rl_43 c1 (by rw [hd0]; intro x hx; simp at hx) (.inl (by rw [H1.out]; omega))]
    rw [c1] at hx
    clear hd0 hI c1 hxb
    have HN := hd (fun a d => number_all (.slice a 0 d) 3 [] w (isK_nil _ _ _ _ _))
    have HA : Hid (numAll [] 3 = .tuple #[.int .u64 0, .int .i64 21]) := by
      show numAll [] 3 = _
      unfold numAll; rw [if_neg (by omega), if_pos (by simp)]
    rw [HA.out] at HN
    by_cases hc : c = 1
    · subst hc
      go_enter Try.func46, Try.ntmps46
      go_wp2_with fail
      go_loop [20] (fun i => i = .int .i64 0) (fun _ => 0)
      case atStart => exact rfl
      case round =>
        subst hrel
        go_wp2_with fail
        refine Calls.mono (HN.out _ _) ?_
        rintro e w' ⟨rfl, rfl⟩
        go_wp2_with fail
        go_ret2
        exact ⟨rfl, rfl⟩
    · go_enter Try.func46, Try.ntmps46
      go_wp2_with fail
      go_loop [20] (fun i => i = .int .i64 0) (fun _ => 0)
      case atStart => exact rfl
      case round =>
        subst hrel
        go_wp2_with fail
        refine Calls.mono (HN.out _ _) ?_
        rintro e w' ⟨rfl, rfl⟩
        go_wp2_with fail
        go_ret2
        exact ⟨rfl, rfl⟩
  · rw [rl_41 c1]
    generalize l.getD 0 0 = x at *
    have q : ((x : Int) != 167) = true := by simp; omega
    clear hI
    go_enter Try.func46, Try.ntmps46
    go_wp2_with fail
    go_ret2
    exact ⟨rfl, rfl⟩
set_option maxRecDepth 100000 in
set_option maxHeartbeats 1000000 in
theorem readLen_more (b off c : Nat) (l : List Nat) (w : World) (hI : IsB w (.slice (some ⟨b, off, none⟩) l.length c) l) (h1 : 2 ≤ l.length) :
    Calls Try.prog 46 #[.slice (some ⟨b, off, none⟩) l.length c] w fun e w' => e = .returned (.tuple #[.int .i64 ((rl l).1 : Int), .int .i64 ((rl l).2 : Int)]) ∧ w' = w := by
  have hx := hI.row 0 (by omega)
  rw [Nat.add_zero] at hx
  have hcap := hI.cap
  have hml : l.length ≤ maxLen := hI.2.1
  have hcm : c ≤ maxLen := by
    obtain ⟨_, _, ⟨rfl, _⟩ | ⟨b', off', c', e, _, q, _⟩⟩ := hI
    · simp at h1
    · injection e with e1 e2 e3
      omega
  unfold maxLen at hml hcm
  have hxb := getD_lt hI.1 0
  by_cases c1 : l.getD 0 0 = 167
  · rw [c1] at hx hxb
    have hdl := dig_len l
    obtain ⟨m, hm⟩ : ∃ m, m = (dig l).length := ⟨_, rfl⟩
    have hm3 : m ≤ 3 := by omega
    have hm1 : m + 1 ≤ l.length := by omega
    have HD : Hid (IsB w (.slice (some ⟨b, off + 1, none⟩) m (c - 1)) (dig l)) := by
      have := (hI.drop 1 (by omega) (off + 1) (l.length - 1) (c - 1) (fun _ => rfl) rfl rfl).take m (by rw [List.length_drop]; omega)
      unfold dig
      rw [show List.take 3 (l.drop 1) = List.take m (l.drop 1) by rw [hm, hdl, List.take_eq_take_iff, List.length_drop]; omega]
      exact this
    have HN := hd (number_all _ 3 _ w HD.out)
    have hmin : min (4 : Int) (l.length : Int) = (m : Int) + 1 := by omega
    have HM := hd hm
    have HI := hd hI
    have HC1 := hd c1
    have hs3 : m < 3 ↔ l.length < 4 := by omega
    have HS3 := hd hs3
    have HDR := hd HD.out.row
    clear hI c1 hdl hs3
    generalize hdg : dig l = D at *
    have HDG := hd hdg
    clear hdg hm
    go_enter Try.func46, Try.ntmps46
    go_wp2_with fail
    go_loop [20] (fun i => ∃ k : Nat, k ≤ m ∧ i = .int .i64 (k : Int) ∧ ∀ x ∈ D.take k, x < 128) (fun i => m - (intOf i).toNat)
    case atStart => exact ⟨0, by omega, rfl, by intro x hx; simp at hx⟩
    case round =>
      obtain ⟨k, hk, rfl, he⟩ := hrel
      have HE := hd he
      clear he
      by_cases hlt : k < m
      · have hcell := HDR.out k (by rw [← HM.out]; exact hlt)
        have hyb := getD_lt HD.out.1 k
        have HT := hd (take_succ_getD (show k < D.length by rw [← HM.out]; exact hlt))
        obtain ⟨y, hy⟩ : ∃ y, y = D.getD k 0 := ⟨_, rfl⟩
        rw [← hy] at hcell hyb HT
        clear hy
        by_cases h128 : y < 128
        · have HE2 : Hid (∀ z ∈ D.take (k + 1), z < 128) := by
            show ∀ z ∈ D.take (k + 1), z < 128
            rw [HT.out]
            intro z hz
            rcases List.mem_append.1 hz with hz | hz
            · exact HE.out z hz
            · simp at hz; omega
          go_wp2_with fail
          go_round
          case rel => exact ⟨k + 1, by omega, by go_num, HE2.out⟩
          case measure => simp [intOf]; omega
        · have HR := hd (rl_42 HC1.out (by
            rw [HDG.out]
            intro hall
            refine h128 (hall y ?_)
            have : D.take (k + 1) <+: D := List.take_prefix _ _
            refine this.subset ?_
            rw [HT.out]; simp))
          go_wp2_with fail
          go_ret2
          exact ⟨by rw [HR.out]; rfl, rfl⟩
      · obtain rfl : k = m := by omega
        have HALL : Hid (∀ x ∈ D, x < 128) := by
          show ∀ x ∈ D, x < 128
          have := HE.out
          rw [HM.out, List.take_length] at this
          exact this
        clear HE
        by_cases hs : k < 3
        · have HR := hd (rl_43 HC1.out (by rw [HDG.out]; exact HALL.out) (.inl (HS3.out.1 hs)))
          have HA : Hid (numAll D 3 = .tuple #[.int .u64 0, .int .i64 21]) := by
            show numAll D 3 = _
            unfold numAll; rw [if_neg (by omega), if_pos (by rw [← HM.out]; omega)]
          rw [HA.out] at HN
          go_wp2_with fail
          refine Calls.mono HN.out ?_
          rintro e w' ⟨rfl, rfl⟩
          go_wp2_with fail
          go_ret2
          exact ⟨by rw [HR.out]; rfl, rfl⟩
        · have hnm : nm D < 2097152 := by have := dig_nm (l := l) (by rw [HDG.out]; exact HALL.out); rw [HDG.out] at this; exact this
          have HA : Hid (numAll D 3 = .tuple #[.int .u64 ((nm D : Nat) : Int), .int .i64 0]) := by
            show numAll D 3 = _
            have e3 : D.take 3 = D := List.take_of_length_le (by rw [← HM.out]; omega)
            unfold numAll; rw [if_neg (by omega), if_neg (by rw [← HM.out]; omega)]
            show numAns D 3 = _
            rw [numAns_ok (by rw [e3]; exact HALL.out), e3]
          rw [HA.out] at HN
          have h4 : 4 ≤ l.length := by have := HS3.out; omega
          by_cases hle : nm D + 9 ≤ l.length
          · have HR := hd (rl_0 HC1.out (by rw [HDG.out]; exact HALL.out) h4 (by rw [HDG.out]; exact hle))
            rw [HDG.out] at HR
            generalize nm D = N at *
            go_wp2_with fail
            refine Calls.mono HN.out ?_
            rintro e w' ⟨rfl, rfl⟩
            go_wp2_with fail
            go_ret2
            exact ⟨by rw [HR.out]; rfl, rfl⟩
          · have HR := hd (rl_43 HC1.out (by rw [HDG.out]; exact HALL.out) (.inr (by rw [HDG.out]; omega)))
            generalize nm D = N at *
            go_wp2_with fail
            refine Calls.mono HN.out ?_
            rintro e w' ⟨rfl, rfl⟩
            go_wp2_with fail
            go_ret2
            exact ⟨by rw [HR.out]; rfl, rfl⟩
  · rw [rl_41 c1]
    generalize l.getD 0 0 = x at *
    have q : ((x : Int) != 167) = true := by simp; omega
    clear hI
    go_enter Try.func46, Try.ntmps46
    go_wp2_with fail
    go_ret2
    exact ⟨rfl, rfl⟩
end Vt
end Go.Proofs.Ytnjhbidialngmaa
