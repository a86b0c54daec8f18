/-
  THE WALKS OF THE DOCUMENT'S OWN ANSWER (package salvorref1): bit, GoOn come to the same plain function of a sum and bytes.
  THE REFERENCE OF LAYER 4: Decode.
-/
import Derived.Test.YtcldcompflgbpaaMbg
import Derived.Test.YtcldcompflgbpaaMac
import Derived.Test.YtcldcompflgbpaaMbf
import Derived.Test.YtcldcompflgbpaaMas
namespace Go.Proofs.Ytcldcompflgbpaa
open Go.RowKit
set_option maxRecDepth 100000 in
set_option maxHeartbeats 400000 in
theorem bit_out (a : Option Addr) (n c i : Nat) (w : World) (hn : n ≤ 140737488351232) (hi : i ≤ 2000000000000000) (h : n ≤ i / 8) :
    Calls Try.prog 89 #[.slice a n c, .int .i64 (i : Int)] w fun e w' => e = .returned (.int .u32 0) ∧ w' = w := by
  have h1 : (n : Int) ≤ (i : Int) / 8 := by omega
  go_enter Try.func89, Try.ntmps89
  go_wp2
  go_ret
  exact ⟨rfl, rfl⟩
set_option maxRecDepth 100000 in
set_option maxHeartbeats 400000 in
theorem bit_in (b off n c i x : Nat) (w : World) (hn : n ≤ 140737488351232) (hi : i ≤ 2000000000000000) (h : i / 8 < n) (hc : w.cell? ⟨b, off + i / 8, none⟩ = some (.int .u8 (x : Int))) (_hx : x < 256) :
    Calls Try.prog 89 #[.slice (some ⟨b, off, none⟩) n c, .int .i64 (i : Int)] w fun e w' => e = .returned (.int .u32 ((x / 2 ^ (i % 8) % 2 : Nat) : Int)) ∧ w' = w := by
  have h1 : ¬ (n : Int) ≤ (i : Int) / 8 := by omega
  go_enter Try.func89, Try.ntmps89
  go_wp2
  go_ret
  exact ⟨rfl, rfl⟩
theorem bit_is (v : Value) (l : List Nat) (i : Nat) (w : World) (h : IsB w v l) (hn : l.length ≤ 140737488351232) (hi : i ≤ 2000000000000000) :
    Calls Try.prog 89 #[v, .int .i64 (i : Int)] w fun e w' => e = .returned (.int .u32 ((Crc.db l i : Nat) : Int)) ∧ w' = w := by
  by_cases hlt : i / 8 < l.length
  · obtain ⟨hb, hm, ⟨rfl, a, c, rfl⟩ | ⟨b, off, c, rfl, _, _, _, hr⟩⟩ := h
    · simp at hlt
    · exact bit_in b off l.length c i _ w hn hi hlt (hr _ hlt) (getD_lt hb _)
  · obtain ⟨a, c, rfl⟩ := h.shape
    have e : Crc.db l i = 0 := by
      unfold Crc.db
      rw [List.getD_eq_getElem?_getD, List.getElem?_eq_none (by omega)]; simp
    rw [e]
    exact bit_out a l.length c i w hn hi (by omega)
theorem tmod2 (x k : Nat) : (((x : Nat) : Int) / 2 ^ k).tmod 2 = ((x / 2 ^ k % 2 : Nat) : Int) := by
  have e : ((x : Nat) : Int) / 2 ^ k = ((x / 2 ^ k : Nat) : Int) := by simp
  rw [e, Int.tmod_eq_emod_of_nonneg (Int.natCast_nonneg _)]; rfl
set_option maxRecDepth 100000 in
set_option maxHeartbeats 400000 in
theorem goOn_is (s : Nat) (v : Value) (l : List Nat) (w : World) (hs : s < 4294967296) (h : IsB w v l) (hn : l.length ≤ 140737488351232) :
    Calls Try.prog 72 #[.int .u32 (s : Int), v] w fun e w' => e = .returned (.int .u32 ((Crc.go s l : Nat) : Int)) ∧ w' = w := by
  have HI := Vt.hd h
  obtain ⟨a, c, rfl⟩ := h.shape
  clear h
  have eN := bnot hs
  have lN := Crc.nt_lt s
  have HS : Hid (∀ k, (Crc.nt s ^^^ Crc.num l) / 2 ^ k % 2 = Crc.inb (Crc.nt s) l k) := fun k => Crc.inb_eq lN HI.out.1 k
  have HF : Hid (∀ r, Crc.tu r ^^^ (Crc.nt s ^^^ Crc.num l) / 2 ^ (8 * l.length + 32) * 4294967296 = Crc.mvN (8 * l.length + 32) ((Crc.nt s ^^^ Crc.num l) * 4294967296) → Crc.nt (Crc.tu r) = Crc.go s l) := fun r hr => Crc.rest_end hs HI.out.1 hr
  go_enter Try.func72, Try.ntmps72
  go_wp2
  go_loop [6, 7] (fun t i => ∃ k r : Nat, k ≤ 8 * l.length + 32 ∧ r < 4294967296 ∧ Crc.tu r ^^^ (Crc.nt s ^^^ Crc.num l) / 2 ^ k * 4294967296 = Crc.mvN k ((Crc.nt s ^^^ Crc.num l) * 4294967296) ∧ i = .int .i64 k ∧ t = .int .u32 (r : Int)) (fun _ i => 8 * l.length + 32 - (intOf i).toNat)
  case atStart => exact ⟨0, 0, by omega, by omega, by rw [show Crc.tu 0 = 0 by decide, Nat.zero_xor, Nat.pow_zero, Nat.div_one]; rfl, rfl, rfl⟩
  case round =>
    obtain ⟨k, r, hk, hr, hR, rfl, rfl⟩ := hrel
    have HR := Vt.hd hR
    clear hR
    have HB := Vt.hd (bit_is _ l k w HI.out hn (by omega))
    by_cases hlt : k < 8 * l.length + 32
    · have lb := Crc.inb_lt (Crc.nt s) l k
      have HN := Vt.hd (Crc.rest_succ hr HR.out)
      rw [HS.out k] at HN
      have HC := Vt.hd (step_any r _ w hr lb)
      by_cases h32 : k < 32
      · have hbx : bits .xor .u32 ((Crc.db l k : Nat) : Int) ((((Crc.nt s : Nat) : Int) / 2 ^ k).tmod 2) = ((Crc.inb (Crc.nt s) l k : Nat) : Int) := by
          unfold Crc.inb
          rw [if_pos h32, ← bxor (by unfold Crc.db; omega) (by omega), tmod2]
        generalize Crc.inb (Crc.nt s) l k = ib at *
        generalize Crc.db l k = dk at *
        generalize Crc.nt s = st at *
        go_wp2_with (first | (go_at_call 89; refine Calls.mono HB.out ?_; rintro e w' ⟨rfl, rfl⟩) | (go_at_call 90; refine Calls.mono HC.out ?_; rintro e w' ⟨rfl, rfl⟩))
        go_round
        case rel => exact ⟨k + 1, _, by omega, Crc.rs_lt _ _, HN.out, by go_num, rfl⟩
        case measure => simp [intOf]; omega
      · have hbx : Crc.db l k = Crc.inb (Crc.nt s) l k := by unfold Crc.inb; rw [if_neg h32]
        rw [hbx] at HB
        clear hbx
        generalize Crc.inb (Crc.nt s) l k = ib at *
        generalize Crc.nt s = st at *
        go_wp2_with (first | (go_at_call 89; refine Calls.mono HB.out ?_; rintro e w' ⟨rfl, rfl⟩) | (go_at_call 90; refine Calls.mono HC.out ?_; rintro e w' ⟨rfl, rfl⟩))
        go_round
        case rel => exact ⟨k + 1, _, by omega, Crc.rs_lt _ _, HN.out, by go_num, rfl⟩
        case measure => simp [intOf]; omega
    · obtain rfl : k = 8 * l.length + 32 := by omega
      have HE := Vt.hd (HF.out r HR.out)
      have HT := Vt.hd (turned_any r w hr)
      have eT := bnot (Crc.tu_lt r)
      clear HR HB
      go_wp2_with (go_at_call 91; refine Calls.mono HT.out ?_; rintro e w' ⟨rfl, rfl⟩)
      go_ret
      exact ⟨ret_int (congrArg _ HE.out), rfl⟩
end Go.Proofs.Ytcldcompflgbpaa
namespace Go.Proofs.Ytcldcompflgbpaa
open Go.RowKit
namespace Vt
attribute [local go_sem] Oper.semAt_some
set_option maxRecDepth 100000 in
theorem r1_sum (v : Value) (l : List Nat) (w : World) (h : Go.Proofs.Ytcldcompflgbpaa.IsB w v l) (hn : l.length ≤ 140737488351232) : Calls Try.prog 52 #[v] w fun e w' => e = .returned (.int .u32 ((Crc.go 0 l : Nat) : Int)) ∧ w' = w := by
  have HG := hd (goOn_is 0 v l w (by decide) h hn)
  clear h
  go_enter Try.func52, Try.ntmps52
  go_wp2_with fail
  refine Calls.mono HG.out ?_
  rintro e w1 ⟨rfl, rfl⟩
  go_wp2_with fail
  go_ret
  exact ⟨rfl, rfl⟩
set_option maxRecDepth 100000 in
set_option maxHeartbeats 1000000 in
theorem r4dec_arg (v : Value) (l : List Nat) (z : Int) (w : World) (hI : IsB w v l) (h : z < 0 ∨ (l.length : Int) ≤ z) :
    Calls Try.prog 42 #[v, .int .i64 z] w fun e w' => e = .returned (dval (zf, 0, 40)) ∧ Below w.heap.size w w' := by
  obtain ⟨a, c, rfl⟩ := hI.shape
  clear hI
  by_cases h0 : z < 0
  · go_enter Try.func42, Try.ntmps42
    go_wp2_with fail
    refine bodyPost_ret (results_cell3 rfl _ _ w.heap.size 56 #[.int .i64 0, .int .u64 0, .int .i64 0, .string ⟨#[]⟩, .string ⟨#[]⟩, .int .u64 0, .int .i64 0, .int .i64 0, .int .i64 0, .string ⟨#[]⟩, .int .i64 0, .int .i64 0, .int .i64 0, .int .u32 0] (0, 0) _ rfl (Blk.new w 56 [.int .i64 0, .int .u64 0, .int .i64 0, .string ⟨#[]⟩, .string ⟨#[]⟩, .int .u64 0, .int .i64 0, .int .i64 0, .int .i64 0, .string ⟨#[]⟩, .int .i64 0, .int .i64 0, .int .i64 0, .int .u32 0]) Try.underlying56 rfl (by kernel_rfl)) rfl ?_
    exact ⟨rfl, (Below.refl _ w).alloc (Nat.le_refl _) _⟩
  · have h1 : z ≥ (l.length : Int) := by omega
    go_enter Try.func42, Try.ntmps42
    go_wp2_with fail
    refine bodyPost_ret (results_cell3 rfl _ _ w.heap.size 56 #[.int .i64 0, .int .u64 0, .int .i64 0, .string ⟨#[]⟩, .string ⟨#[]⟩, .int .u64 0, .int .i64 0, .int .i64 0, .int .i64 0, .string ⟨#[]⟩, .int .i64 0, .int .i64 0, .int .i64 0, .int .u32 0] (0, 0) _ rfl (Blk.new w 56 [.int .i64 0, .int .u64 0, .int .i64 0, .string ⟨#[]⟩, .string ⟨#[]⟩, .int .u64 0, .int .i64 0, .int .i64 0, .int .i64 0, .string ⟨#[]⟩, .int .i64 0, .int .i64 0, .int .i64 0, .int .u32 0]) Try.underlying56 rfl (by kernel_rfl)) rfl ?_
    exact ⟨rfl, (Below.refl _ w).alloc (Nat.le_refl _) _⟩
set_option maxRecDepth 100000 in
set_option maxHeartbeats 1000000 in
theorem r4dec_lead (b off c a : Nat) (l : List Nat) (w : World) (hI : IsB w (.slice (some ⟨b, off, none⟩) l.length c) l) (ha : a < l.length) (h : l.getD a 0 ≠ 167) :
    Calls Try.prog 42 #[.slice (some ⟨b, off, none⟩) l.length c, .int .i64 (a : Int)] w fun e w' => e = .returned (dval (zf, 0, 41)) ∧ Below w.heap.size w w' := by
  have r0 := hI.row a ha
  have hb : (((l.getD a 0 : Nat) : Int) != 167) = true := by rw [bne_iff_ne]; omega
  have hbw : b < w.heap.size := lt_of_cell r0
  have n1 : ¬ b = w.heap.size := by omega
  have n2 : ¬ w.heap.size = b := by omega
  have h1 : ¬ (a : Int) ≥ (l.length : Int) := by omega
  generalize l.getD a 0 = x at *
  clear hI h
  go_enter Try.func42, Try.ntmps42
  go_wp2_with fail
  refine bodyPost_ret (results_cell3 rfl _ _ w.heap.size 56 #[.int .i64 0, .int .u64 0, .int .i64 0, .string ⟨#[]⟩, .string ⟨#[]⟩, .int .u64 0, .int .i64 0, .int .i64 0, .int .i64 0, .string ⟨#[]⟩, .int .i64 0, .int .i64 0, .int .i64 0, .int .u32 0] (0, 0) _ rfl (Blk.new w 56 [.int .i64 0, .int .u64 0, .int .i64 0, .string ⟨#[]⟩, .string ⟨#[]⟩, .int .u64 0, .int .i64 0, .int .i64 0, .int .i64 0, .string ⟨#[]⟩, .int .i64 0, .int .i64 0, .int .i64 0, .int .u32 0]) Try.underlying56 rfl (by kernel_rfl)) rfl ?_
  exact ⟨rfl, (Below.refl _ w).alloc (Nat.le_refl _) _⟩
set_option maxRecDepth 100000 in
set_option maxHeartbeats 1000000 in
theorem r4dec_len (b off c a : Nat) (l : List Nat) (w : World) (hI : IsB w (.slice (some ⟨b, off, none⟩) l.length c) l) (ha : a < l.length) (hm : l.length ≤ 9223372036854775000) (h7 : l.getD a 0 = 167) (e : Nat) (he : lnR (l.drop a) = (0, e)) (he0 : e ≠ 0) :
    Calls Try.prog 42 #[.slice (some ⟨b, off, none⟩) l.length c, .int .i64 (a : Int)] w fun e' w' => e' = .returned (dval (zf, 0, e)) ∧ Below w.heap.size w w' := by
  have r0 := hI.row a ha
  rw [h7] at r0
  have hbw : b < w.heap.size := lt_of_cell r0
  have n1 : ¬ b = w.heap.size := by omega
  have n2 : ¬ w.heap.size = b := by omega
  have h1 : ¬ (a : Int) ≥ (l.length : Int) := by omega
  have HLE := hd (fun o => r4_length b off c a l (w.alloc o) (hI.below ((Below.refl _ w).alloc (Nat.le_refl _) o)) ha hm)
  rw [he] at HLE
  have hb : ((e : Int) != 0) = true := by rw [bne_iff_ne]; omega
  clear hI he h7
  go_enter Try.func42, Try.ntmps42
  go_wp2_with fail
  refine Calls.mono (HLE.out _) ?_
  rintro e' w1 ⟨rfl, rfl⟩
  go_wp2_with fail
  refine bodyPost_ret (results_cell3 rfl _ _ w.heap.size 56 #[.int .i64 0, .int .u64 0, .int .i64 0, .string ⟨#[]⟩, .string ⟨#[]⟩, .int .u64 0, .int .i64 0, .int .i64 0, .int .i64 0, .string ⟨#[]⟩, .int .i64 0, .int .i64 0, .int .i64 0, .int .u32 0] (0, 0) _ rfl (Blk.new w 56 [.int .i64 0, .int .u64 0, .int .i64 0, .string ⟨#[]⟩, .string ⟨#[]⟩, .int .u64 0, .int .i64 0, .int .i64 0, .int .i64 0, .string ⟨#[]⟩, .int .i64 0, .int .i64 0, .int .i64 0, .int .u32 0]) Try.underlying56 rfl (by kernel_rfl)) rfl ?_
  exact ⟨rfl, (Below.refl _ w).alloc (Nat.le_refl _) _⟩
set_option maxRecDepth 100000 in
set_option maxHeartbeats 1000000 in
theorem r4dec_short (b off c a : Nat) (l : List Nat) (w : World) (hI : IsB w (.slice (some ⟨b, off, none⟩) l.length c) l) (ha : a < l.length) (hm : l.length ≤ 9223372036854775000) (h7 : l.getD a 0 = 167) (n : Nat) (hn : lnR (l.drop a) = (n, 0)) (hn2 : n < 2097152) (hs : l.length < a + n + 9) :
    Calls Try.prog 42 #[.slice (some ⟨b, off, none⟩) l.length c, .int .i64 (a : Int)] w fun e' w' => e' = .returned (dval (zf, 0, 43)) ∧ Below w.heap.size w w' := by
  have r0 := hI.row a ha
  rw [h7] at r0
  have hbw : b < w.heap.size := lt_of_cell r0
  have n1 : ¬ b = w.heap.size := by omega
  have n2 : ¬ w.heap.size = b := by omega
  have h1 : ¬ (a : Int) ≥ (l.length : Int) := by omega
  have HLE := hd (fun o => r4_length b off c a l (w.alloc o) (hI.below ((Below.refl _ w).alloc (Nat.le_refl _) o)) ha hm)
  rw [hn] at HLE
  have hb : (l.length : Int) - ((a : Int) + 4) < (n : Int) + 5 := by omega
  clear hI hn h7
  go_enter Try.func42, Try.ntmps42
  go_wp2_with fail
  refine Calls.mono (HLE.out _) ?_
  rintro e' w1 ⟨rfl, rfl⟩
  go_wp2_with fail
  refine bodyPost_ret (results_cell3 rfl _ _ w.heap.size 56 #[.int .i64 0, .int .u64 0, .int .i64 0, .string ⟨#[]⟩, .string ⟨#[]⟩, .int .u64 0, .int .i64 0, .int .i64 0, .int .i64 0, .string ⟨#[]⟩, .int .i64 0, .int .i64 0, .int .i64 0, .int .u32 0] (0, 0) _ rfl (Blk.new w 56 [.int .i64 0, .int .u64 0, .int .i64 0, .string ⟨#[]⟩, .string ⟨#[]⟩, .int .u64 0, .int .i64 0, .int .i64 0, .int .i64 0, .string ⟨#[]⟩, .int .i64 0, .int .i64 0, .int .i64 0, .int .u32 0]) Try.underlying56 rfl (by kernel_rfl)) rfl ?_
  exact ⟨rfl, (Below.refl _ w).alloc (Nat.le_refl _) _⟩
end Vt
end Go.Proofs.Ytcldcompflgbpaa
