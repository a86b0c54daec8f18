/-
  THE WALKS OF the document's own Digits and Number; vint.Digits at every count.
-/
import Derived.Test.YtlpefafpgjogeaaD0
namespace Go.Proofs.Ytlpefafpgjogeaa
open Go.RowKit
namespace Vt
/-- what Digits tells -/
def dgl (n : Nat) (c : Int) : List Nat := if (1 ≤ c ∧ c ≤ 9) ∧ n < 128 ^ c.toNat then dg c.toNat n else []
def dge (n : Nat) (c : Int) : Int := if 1 ≤ c ∧ c ≤ 9 then (if n < 128 ^ c.toNat then 0 else 24) else 20
theorem dgl_len (n : Nat) (c : Int) : (dgl n c).length ≤ 9 := by
  unfold dgl
  split
  · rw [dg_len]; omega
  · simp
theorem jb_nil (w : World) (base : Nat) : JB w base (.slice none 0 0) [] := ⟨byt_nil, own_nil w base⟩
theorem digits_gen (n : Nat) (c : Int) (w : World) (hn : n < 18446744073709551616) :
    Calls Try.prog 12 #[.int .u64 (n : Int), .int .i64 c] w fun e w' => (∃ a k, e = .returned (.tuple #[.slice a (dgl n c).length k, .int .i64 (dge n c)]) ∧ JB w' w.heap.size (.slice a (dgl n c).length k) (dgl n c)) ∧ Below w.heap.size w w' := by
  by_cases hc : 1 ≤ c ∧ c ≤ 9
  · obtain ⟨d, rfl⟩ : ∃ d : Nat, c = (d : Int) := ⟨c.toNat, by omega⟩
    by_cases h : n < 128 ^ d
    · refine Calls.mono (digits_ok n d w (by omega) (by omega) hn h) ?_
      rintro e w' ⟨rfl, hJ, hB⟩
      have e1 : dgl n (d : Int) = dg d n := by unfold dgl; rw [if_pos ⟨hc, by rw [Int.toNat_natCast]; exact h⟩, Int.toNat_natCast]
      have e2 : dge n (d : Int) = 0 := by unfold dge; rw [if_pos hc, if_pos (by rw [Int.toNat_natCast]; exact h)]
      rw [e1, e2, dg_len]
      exact ⟨⟨_, _, rfl, hJ⟩, hB⟩
    · refine Calls.mono (digits_many n d w (by omega) (by omega) hn (by omega)) ?_
      rintro e w' ⟨rfl, rfl⟩
      have e1 : dgl n (d : Int) = [] := by unfold dgl; rw [if_neg (fun q => h (by rw [Int.toNat_natCast] at q; exact q.2))]
      have e2 : dge n (d : Int) = 24 := by unfold dge; rw [if_pos hc, if_neg (by rw [Int.toNat_natCast]; exact h)]
      rw [e1, e2]
      exact ⟨⟨_, _, rfl, jb_nil _ _⟩, Below.refl _ _⟩
  · refine Calls.mono (digits_arg n c w (by omega)) ?_
    rintro e w' ⟨rfl, rfl⟩
    have e1 : dgl n c = [] := by unfold dgl; rw [if_neg (fun q => hc q.1)]
    have e2 : dge n c = 20 := by unfold dge; rw [if_neg hc]
    rw [e1, e2]
    exact ⟨⟨_, _, rfl, jb_nil _ _⟩, Below.refl _ _⟩
set_option maxRecDepth 100000 in
set_option maxHeartbeats 400000 in
theorem rdigits_in (n c : Nat) (w : World) (h1 : 1 ≤ c) (h9 : c ≤ 9) (hn : n < 18446744073709551616) :
    Calls Try.prog 13 #[.int .u64 (n : Int), .int .i64 (c : Int)] w fun e w' => (∃ a k, e = .returned (.tuple #[.slice a (dgl n c).length k, .int .i64 (dge n c)]) ∧ JB w' w.heap.size (.slice a (dgl n c).length k) (dgl n c)) ∧ Below w.heap.size w w' := by
  obtain ⟨i0, hi, hz0, hz1, hz2⟩ := info_parts info_u8
  go_enter Try.func13, Try.ntmps13
  go_wp2_with (at_make; refine wpList_make_full _ rfl _ _ 22 rfl w.heap.size 5 i0 (.int .u8 0) 1 Try.underlying22 hi hz0 hz1 .i64 .i64 (c : Int) (c : Int) c rfl rfl rfl rfl (by rw [hz2]; omega) (by unfold maxLen; omega) (Nat.le_refl _) ?_; intro w1 hown hgrow)
  have HB1 : Hid (Below w.heap.size w w1) := (Below.refl _ _).grown hgrow (Nat.le_refl _) (fun k hk => by cases hk)
  have HO1 : Hid (JB w1 w.heap.size (.slice (some ⟨w.heap.size, 0, none⟩) c c) (List.replicate c 0)) := by
    refine ⟨by intro x hx; have := List.eq_of_mem_replicate hx; omega, ?_⟩
    rw [made8] at hown; rw [List.length_replicate]; exact hown
  clear hown hgrow hi hz0 hz1 hz2
  go_loopw [0, 7] (fun y i wr => ∃ j : Nat, j ≤ c ∧ i = .int .i64 ((c : Int) - 1 - (j : Int)) ∧ y = .int .u64 ((n / 128 ^ j : Nat) : Int) ∧ JB wr w.heap.size (.slice (some ⟨w.heap.size, 0, none⟩) c c) (List.replicate (c - j) 0 ++ dg j n) ∧ Below w.heap.size w wr) (fun _ i _ => (intOf i + 1).toNat)
  case atStart => exact ⟨0, by omega, by simp, by simp, by simpa [dg] using HO1.out, HB1.out⟩
  case round =>
    obtain ⟨j, hj, rfl, rfl, hO, hB⟩ := hrel
    have HO := hd hO
    have HB := hd hB
    clear hO hB HO1 HB1
    by_cases hlt : j < c
    · obtain ⟨p, hp⟩ : ∃ p : Nat, p = c - 1 - j := ⟨_, rfl⟩
      have hpi : (c : Int) - 1 - (j : Int) = (p : Int) := by omega
      have hpc : p < c := by omega
      have hll : c = (List.replicate (c - j) 0 ++ dg j n).length := by rw [List.length_append, List.length_replicate, dg_len]; omega
      have hcell := HO.out.buf.cell (j := p) (by omega)
      have hfro := HO.out.buf.2.2.2.2.2 p (by omega)
      have HO2 := hd (HO.out.set (j := p) (y := n / 128 ^ j % 128) hll (by omega))
      have HS := hd (dg_step c j n hlt)
      rw [← hp] at HS
      rw [HS.out] at HO2
      have hqe : n / 128 ^ (j + 1) = n / 128 ^ j / 128 := by rw [Nat.pow_succ, Nat.div_div_eq_div_mul]
      have HQE := hd hqe
      generalize hq : n / 128 ^ j = q at *
      have hq2 : q < 18446744073709551616 := by have := Nat.div_le_self n (128 ^ j); omega
      rw [hpi]
      have HLT := hd hlt
      have HPI := hd hpi
      clear hlt hp hpi hq hj hqe hll
      go_wp2_with fail
      refine ⟨⟨j + 1, HLT.out, ?_, by rw [HQE.out]; rfl, HO2.out, HB.out.setCell (Nat.le_refl _) _⟩, by simp [intOf]⟩
      have := HPI.out
      congr 1
      omega
    · have hjc : j = c := by omega
      subst hjc
      have hpi : (j : Int) - 1 - (j : Int) = -1 := by omega
      rw [hpi]
      rw [Nat.sub_self] at HO
      have hcc : (1 ≤ (j : Int) ∧ (j : Int) ≤ 9) := by omega
      by_cases h : n < 128 ^ j
      · have hz : n / 128 ^ j = 0 := Nat.div_eq_of_lt h
        have HE1 : Hid (dgl n (j : Int) = dg j n) := by
          show dgl n (j : Int) = dg j n
          unfold dgl; rw [if_pos ⟨hcc, by rw [Int.toNat_natCast]; exact h⟩, Int.toNat_natCast]
        have HE2 : Hid (dge n (j : Int) = 0) := by
          show dge n (j : Int) = 0
          unfold dge; rw [if_pos hcc, if_pos (by rw [Int.toNat_natCast]; exact h)]
        rw [hz]
        clear hz h hpi hj hlt hcc
        go_wp2_with fail
        go_ret2
        rw [HE1.out, HE2.out, dg_len]
        exact ⟨⟨_, _, rfl, HO.out⟩, HB.out⟩
      · have hz : 0 < n / 128 ^ j := Nat.div_pos (by omega) (Nat.pow_pos (by omega))
        have hz2 : n / 128 ^ j < 18446744073709551616 := by have := Nat.div_le_self n (128 ^ j); omega
        have HE1 : Hid (dgl n (j : Int) = []) := by
          show dgl n (j : Int) = []
          unfold dgl; rw [if_neg (fun q => h (by rw [Int.toNat_natCast] at q; exact q.2))]
        have HE2 : Hid (dge n (j : Int) = 24) := by
          show dge n (j : Int) = 24
          unfold dge; rw [if_pos hcc, if_neg (by rw [Int.toNat_natCast]; exact h)]
        clear h hpi hj hlt hcc
        generalize n / 128 ^ j = q at *
        go_wp2_with fail
        go_ret2
        rw [HE1.out, HE2.out]
        exact ⟨⟨_, _, rfl, jb_nil _ _⟩, HB.out⟩
theorem rdigits_gen (n : Nat) (c : Int) (w : World) (hn : n < 18446744073709551616) :
    Calls Try.prog 13 #[.int .u64 (n : Int), .int .i64 c] w fun e w' => (∃ a k, e = .returned (.tuple #[.slice a (dgl n c).length k, .int .i64 (dge n c)]) ∧ JB w' w.heap.size (.slice a (dgl n c).length k) (dgl n c)) ∧ Below w.heap.size w w' := by
  by_cases hc : 1 ≤ c ∧ c ≤ 9
  · obtain ⟨d, rfl⟩ : ∃ d : Nat, c = (d : Int) := ⟨c.toNat, by omega⟩
    exact rdigits_in n d w (by omega) (by omega) hn
  · have e1 : dgl n c = [] := by unfold dgl; rw [if_neg (fun q => hc q.1)]
    have e2 : dge n c = 20 := by unfold dge; rw [if_neg hc]
    rw [e1, e2]
    by_cases h1 : c < 1
    · go_enter Try.func13, Try.ntmps13
      go_wp2
      go_ret2
      exact ⟨⟨_, _, rfl, jb_nil _ _⟩, Below.refl _ _⟩
    · have h2 : 9 < c := by omega
      go_enter Try.func13, Try.ntmps13
      go_wp2
      go_ret2
      exact ⟨⟨_, _, rfl, jb_nil _ _⟩, Below.refl _ _⟩
set_option maxRecDepth 100000 in
set_option maxHeartbeats 400000 in
theorem rnumber_row (b off cap c : Nat) (l : List Nat) (w : World) (hb : Byt l) (hr : Row w b off l) (h1 : 1 ≤ c) (h9 : c ≤ 9) (h : c ≤ l.length) :
    Calls Try.prog 17 #[.slice (some ⟨b, off, none⟩) l.length cap, .int .i64 (c : Int)] w fun e w' => e = .returned (numAns l c) ∧ w' = w := by
  have HR := hd hr
  have HB := hd hb
  clear hr hb
  go_enter Try.func17, Try.ntmps17
  go_wp2_with fail
  go_loop [6, 7] (fun s i => ∃ k : Nat, k ≤ c ∧ i = .int .i64 (k : Int) ∧ s = .int .u64 ((nm (l.take k) : Nat) : Int) ∧ ∀ x ∈ l.take k, x < 128) (fun _ i => c - (intOf i).toNat)
  case atStart => exact ⟨0, by omega, rfl, rfl, by intro x hx; simp at hx⟩
  case round =>
    obtain ⟨k, hk, rfl, rfl, he⟩ := hrel
    have hnm := nm_lt he
    rw [List.length_take, show min k l.length = k by omega] at hnm
    have HE := hd he
    clear he
    by_cases hlt : k < c
    · have hc := HR.out k (by omega)
      have hx := getD_lt HB.out k
      have HT := hd (take_succ_getD (show k < l.length by omega))
      obtain ⟨x, hxe⟩ : ∃ x, x = l.getD k 0 := ⟨_, rfl⟩
      rw [← hxe] at hc hx HT
      clear hxe
      have HS := hd (nm_snoc (l.take k) x)
      rw [← HT.out] at HS
      have hb8 : nm (l.take k) < 72057594037927936 := by
        have : 128 ^ k ≤ 128 ^ 8 := Nat.pow_le_pow_right (by omega) (by omega)
        have e : (128 : Nat) ^ 8 = 72057594037927936 := by decide
        omega
      generalize nm (l.take k) = n at *
      clear hnm
      by_cases h128 : x < 128
      · have HE2 : Hid (∀ y ∈ l.take (k + 1), y < 128) := by
          show ∀ y ∈ l.take (k + 1), y < 128
          rw [HT.out]
          intro y hy
          rcases List.mem_append.1 hy with hy | hy
          · exact HE.out y hy
          · simp at hy; omega
        go_wp2_with fail
        go_round
        case rel => exact ⟨k + 1, by omega, by go_num, by rw [HS.out, Int.natCast_add, Int.natCast_mul]; rfl, HE2.out⟩
        case measure => simp [intOf]; omega
      · have HNE : Hid (¬ ∀ y ∈ l.take c, y < 128) := by
          intro hall
          have hmem : x ∈ l.take c := by
            have : l.take (k + 1) <+: l.take c := List.take_prefix_take_left (by omega)
            refine this.subset ?_
            rw [HT.out]; simp
          exact h128 (hall x hmem)
        go_wp2_with fail
        go_ret2
        exact ⟨by rw [numAns_bad HNE.out]; rfl, rfl⟩
    · have hkc : k = c := by omega
      rw [hkc] at HE
      have HA := hd (numAns_ok HE.out)
      rw [← hkc] at HA
      have hle : ¬ ((k : Nat) : Int) < (c : Int) := by omega
      have HKC := hd hkc
      generalize nm (l.take k) = n at *
      clear hkc hk hnm hlt
      go_wp2_with fail
      go_ret2
      exact ⟨by rw [← HKC.out, HA.out]; rfl, rfl⟩
theorem rnumber_all (v : Value) (c : Int) (l : List Nat) (w : World) (hI : IsB w v l) :
    Calls Try.prog 17 #[v, .int .i64 c] w fun e w' => e = .returned (numAll l c) ∧ w' = w := by
  unfold numAll
  by_cases h : c < 1 ∨ 9 < c
  · rw [if_pos h]
    by_cases h1 : c < 1
    · go_enter Try.func17, Try.ntmps17
      go_wp2
      go_ret2
      exact ⟨rfl, rfl⟩
    · have h2 : 9 < c := by omega
      go_enter Try.func17, Try.ntmps17
      go_wp2
      go_ret2
      exact ⟨rfl, rfl⟩
  · rw [if_neg h]
    obtain ⟨d, rfl⟩ : ∃ d : Nat, c = (d : Int) := ⟨c.toNat, by omega⟩
    by_cases h2 : (l.length : Int) < (d : Int)
    · rw [if_pos h2]
      obtain ⟨a, k, rfl⟩ := hI.shape
      have hd1 : ¬ (d : Int) < 1 := by omega
      have hd9 : ¬ (9 : Int) < (d : Int) := by omega
      go_enter Try.func17, Try.ntmps17
      go_wp2
      go_ret2
      exact ⟨rfl, rfl⟩
    · rw [if_neg h2, Int.toNat_natCast]
      obtain ⟨hb, _, ⟨rfl, a, c', rfl⟩ | ⟨b, off, c', rfl, h3, h4, _, hr⟩⟩ := hI
      · simp at h2; omega
      · exact rnumber_row b off c' d l w hb hr (by omega) (by omega) (by omega)
end Vt
end Go.Proofs.Ytlpefafpgjogeaa
