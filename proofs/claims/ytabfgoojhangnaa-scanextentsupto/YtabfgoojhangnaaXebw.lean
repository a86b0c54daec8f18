/-
  THE REFERENCE OF LAYER 4: Decode.
-/
import Derived.Test.YtabfgoojhangnaaXebu
import Derived.Test.YtabfgoojhangnaaXebv
import Derived.Test.YtabfgoojhangnaaXeav
namespace Go.Proofs.Ytabfgoojhangnaa
open Go.RowKit
namespace Vt
attribute [local go_sem] Oper.semAt_some
set_option maxRecDepth 100000 in
theorem r1_sum (v : Value) (l : List Nat) (w : World) (h : Go.Proofs.Ytabfgoojhangnaa.IsB w v l) (hn : l.length ≤ 140737488351232) : Calls Try.prog 35 #[v] w fun e w' => e = .returned (.int .u32 ((Crc.go 0 l : Nat) : Int)) ∧ w' = w := by
  have HG := hd (goOn_is 0 v l w (by decide) h hn)
  clear h
  go_enter Try.func35, Try.ntmps35
  go_wp2_with fail
  refine Calls.mono HG.out ?_
  rintro e w1 ⟨rfl, rfl⟩
  go_wp2_with fail
  go_ret
  exact ⟨rfl, rfl⟩
set_option maxRecDepth 100000 in
set_option maxHeartbeats 1000000 in
theorem r4dec_arg (v : Value) (l : List Nat) (z : Int) (w : World) (hI : IsB w v l) (h : z < 0 ∨ (l.length : Int) ≤ z) :
    Calls Try.prog 27 #[v, .int .i64 z] w fun e w' => e = .returned (dval (zf, 0, 40)) ∧ Below w.heap.size w w' := by
  obtain ⟨a, c, rfl⟩ := hI.shape
  clear hI
  by_cases h0 : z < 0
  · go_enter Try.func27, Try.ntmps27
    go_wp2_with fail
    refine bodyPost_ret (results_cell3 rfl _ _ w.heap.size 54 #[.int .i64 0, .int .u64 0, .int .i64 0, .string ⟨#[]⟩, .string ⟨#[]⟩, .int .u64 0, .int .i64 0, .int .i64 0, .int .i64 0, .string ⟨#[]⟩, .int .i64 0, .int .i64 0, .int .i64 0, .int .u32 0] (0, 0) _ rfl (Blk.new w 54 [.int .i64 0, .int .u64 0, .int .i64 0, .string ⟨#[]⟩, .string ⟨#[]⟩, .int .u64 0, .int .i64 0, .int .i64 0, .int .i64 0, .string ⟨#[]⟩, .int .i64 0, .int .i64 0, .int .i64 0, .int .u32 0]) Try.underlying54 rfl (by kernel_rfl)) rfl ?_
    exact ⟨rfl, (Below.refl _ w).alloc (Nat.le_refl _) _⟩
  · have h1 : z ≥ (l.length : Int) := by omega
    go_enter Try.func27, Try.ntmps27
    go_wp2_with fail
    refine bodyPost_ret (results_cell3 rfl _ _ w.heap.size 54 #[.int .i64 0, .int .u64 0, .int .i64 0, .string ⟨#[]⟩, .string ⟨#[]⟩, .int .u64 0, .int .i64 0, .int .i64 0, .int .i64 0, .string ⟨#[]⟩, .int .i64 0, .int .i64 0, .int .i64 0, .int .u32 0] (0, 0) _ rfl (Blk.new w 54 [.int .i64 0, .int .u64 0, .int .i64 0, .string ⟨#[]⟩, .string ⟨#[]⟩, .int .u64 0, .int .i64 0, .int .i64 0, .int .i64 0, .string ⟨#[]⟩, .int .i64 0, .int .i64 0, .int .i64 0, .int .u32 0]) Try.underlying54 rfl (by kernel_rfl)) rfl ?_
    exact ⟨rfl, (Below.refl _ w).alloc (Nat.le_refl _) _⟩
set_option maxRecDepth 100000 in
set_option maxHeartbeats 1000000 in
theorem r4dec_lead (b off c a : Nat) (l : List Nat) (w : World) (hI : IsB w (.slice (some ⟨b, off, none⟩) l.length c) l) (ha : a < l.length) (h : l.getD a 0 ≠ 167) :
    Calls Try.prog 27 #[.slice (some ⟨b, off, none⟩) l.length c, .int .i64 (a : Int)] w fun e w' => e = .returned (dval (zf, 0, 41)) ∧ Below w.heap.size w w' := by
  have r0 := hI.row a ha
  have hb : (((l.getD a 0 : Nat) : Int) != 167) = true := by rw [bne_iff_ne]; omega
  have hbw : b < w.heap.size := lt_of_cell r0
  have n1 : ¬ b = w.heap.size := by omega
  have n2 : ¬ w.heap.size = b := by omega
  have h1 : ¬ (a : Int) ≥ (l.length : Int) := by omega
  generalize l.getD a 0 = x at *
  clear hI h
  go_enter Try.func27, Try.ntmps27
  go_wp2_with fail
  refine bodyPost_ret (results_cell3 rfl _ _ w.heap.size 54 #[.int .i64 0, .int .u64 0, .int .i64 0, .string ⟨#[]⟩, .string ⟨#[]⟩, .int .u64 0, .int .i64 0, .int .i64 0, .int .i64 0, .string ⟨#[]⟩, .int .i64 0, .int .i64 0, .int .i64 0, .int .u32 0] (0, 0) _ rfl (Blk.new w 54 [.int .i64 0, .int .u64 0, .int .i64 0, .string ⟨#[]⟩, .string ⟨#[]⟩, .int .u64 0, .int .i64 0, .int .i64 0, .int .i64 0, .string ⟨#[]⟩, .int .i64 0, .int .i64 0, .int .i64 0, .int .u32 0]) Try.underlying54 rfl (by kernel_rfl)) rfl ?_
  exact ⟨rfl, (Below.refl _ w).alloc (Nat.le_refl _) _⟩
set_option maxRecDepth 100000 in
set_option maxHeartbeats 1000000 in
theorem r4dec_len (b off c a : Nat) (l : List Nat) (w : World) (hI : IsB w (.slice (some ⟨b, off, none⟩) l.length c) l) (ha : a < l.length) (hm : l.length ≤ 9223372036854775000) (h7 : l.getD a 0 = 167) (e : Nat) (he : lnR (l.drop a) = (0, e)) (he0 : e ≠ 0) :
    Calls Try.prog 27 #[.slice (some ⟨b, off, none⟩) l.length c, .int .i64 (a : Int)] w fun e' w' => e' = .returned (dval (zf, 0, e)) ∧ Below w.heap.size w w' := by
  have r0 := hI.row a ha
  rw [h7] at r0
  have hbw : b < w.heap.size := lt_of_cell r0
  have n1 : ¬ b = w.heap.size := by omega
  have n2 : ¬ w.heap.size = b := by omega
  have h1 : ¬ (a : Int) ≥ (l.length : Int) := by omega
  have HLE := hd (fun o => r4_length b off c a l (w.alloc o) (hI.below ((Below.refl _ w).alloc (Nat.le_refl _) o)) ha hm)
  rw [he] at HLE
  have hb : ((e : Int) != 0) = true := by rw [bne_iff_ne]; omega
  clear hI he h7
  go_enter Try.func27, Try.ntmps27
  go_wp2_with fail
  refine Calls.mono (HLE.out _) ?_
  rintro e' w1 ⟨rfl, rfl⟩
  go_wp2_with fail
  refine bodyPost_ret (results_cell3 rfl _ _ w.heap.size 54 #[.int .i64 0, .int .u64 0, .int .i64 0, .string ⟨#[]⟩, .string ⟨#[]⟩, .int .u64 0, .int .i64 0, .int .i64 0, .int .i64 0, .string ⟨#[]⟩, .int .i64 0, .int .i64 0, .int .i64 0, .int .u32 0] (0, 0) _ rfl (Blk.new w 54 [.int .i64 0, .int .u64 0, .int .i64 0, .string ⟨#[]⟩, .string ⟨#[]⟩, .int .u64 0, .int .i64 0, .int .i64 0, .int .i64 0, .string ⟨#[]⟩, .int .i64 0, .int .i64 0, .int .i64 0, .int .u32 0]) Try.underlying54 rfl (by kernel_rfl)) rfl ?_
  exact ⟨rfl, (Below.refl _ w).alloc (Nat.le_refl _) _⟩
set_option maxRecDepth 100000 in
set_option maxHeartbeats 1000000 in
theorem r4dec_short (b off c a : Nat) (l : List Nat) (w : World) (hI : IsB w (.slice (some ⟨b, off, none⟩) l.length c) l) (ha : a < l.length) (hm : l.length ≤ 9223372036854775000) (h7 : l.getD a 0 = 167) (n : Nat) (hn : lnR (l.drop a) = (n, 0)) (hn2 : n < 2097152) (hs : l.length < a + n + 9) :
    Calls Try.prog 27 #[.slice (some ⟨b, off, none⟩) l.length c, .int .i64 (a : Int)] w fun e' w' => e' = .returned (dval (zf, 0, 43)) ∧ Below w.heap.size w w' := by
  have r0 := hI.row a ha
  rw [h7] at r0
  have hbw : b < w.heap.size := lt_of_cell r0
  have n1 : ¬ b = w.heap.size := by omega
  have n2 : ¬ w.heap.size = b := by omega
  have h1 : ¬ (a : Int) ≥ (l.length : Int) := by omega
  have HLE := hd (fun o => r4_length b off c a l (w.alloc o) (hI.below ((Below.refl _ w).alloc (Nat.le_refl _) o)) ha hm)
  rw [hn] at HLE
  have hb : (l.length : Int) - ((a : Int) + 4) < (n : Int) + 5 := by omega
  clear hI hn h7
  go_enter Try.func27, Try.ntmps27
  go_wp2_with fail
  refine Calls.mono (HLE.out _) ?_
  rintro e' w1 ⟨rfl, rfl⟩
  go_wp2_with fail
  refine bodyPost_ret (results_cell3 rfl _ _ w.heap.size 54 #[.int .i64 0, .int .u64 0, .int .i64 0, .string ⟨#[]⟩, .string ⟨#[]⟩, .int .u64 0, .int .i64 0, .int .i64 0, .int .i64 0, .string ⟨#[]⟩, .int .i64 0, .int .i64 0, .int .i64 0, .int .u32 0] (0, 0) _ rfl (Blk.new w 54 [.int .i64 0, .int .u64 0, .int .i64 0, .string ⟨#[]⟩, .string ⟨#[]⟩, .int .u64 0, .int .i64 0, .int .i64 0, .int .i64 0, .string ⟨#[]⟩, .int .i64 0, .int .i64 0, .int .i64 0, .int .u32 0]) Try.underlying54 rfl (by kernel_rfl)) rfl ?_
  exact ⟨rfl, (Below.refl _ w).alloc (Nat.le_refl _) _⟩
end Vt
end Go.Proofs.Ytabfgoojhangnaa
