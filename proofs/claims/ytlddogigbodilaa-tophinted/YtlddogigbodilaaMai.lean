/-
  THE READER OF A BODY (frame.reader): pointer, ending: what 'rPtr', 'rEdg' say.
  THE READER OF A BODY (frame.reader): frame: what 'prs' says.
  THE WALKS OF vint.Digits and vint.Number: what 'dg' and 'nm' say.
-/
import Derived.Test.YtlddogigbodilaaMah
import Derived.Laws.Rows
import Derived.Test.YtlddogigbodilaaMaf
namespace Go.Proofs.Ytlddogigbodilaa
open Go.RowKit
namespace Vt
theorem rNum_le (m : Nat) (s : RS) : (rNum m s).1 ≤ m := by
  unfold rNum; split
  · rename_i h; exact h.2
  · exact Nat.zero_le _
theorem setL_keepO {B O : Nat} (ds : List Value) : ∀ (w w0 : World) (j : Nat), w0.heap.size ≤ O → KeepO B w0 w → KeepO B w0 (setL w O j ds) := by
  induction ds with
  | nil => intro w w0 j _ h; exact h
  | cons d r ih =>
    intro w w0 j hO h
    refine ih _ w0 (j + 1) hO ⟨h.os, h.tape, h.output, ?_, fun k hk hne => ?_⟩
    · show _ ≤ (w.heap.modify O _).size
      rw [Array.size_modify]; exact h.size
    · show (w.heap.modify O _)[k]? = _
      rw [Array.getElem?_modify, if_neg (by omega)]; exact h.block k hk hne
theorem KeepO.setO {B : Nat} {w0 w : World} (h : KeepO B w0 w) {p : Addr} (hp : w0.heap.size ≤ p.block) (v : Value) : KeepO B w0 (w.setCell p v) := by
  refine ⟨h.os, h.tape, h.output, ?_, fun k hk hne => ?_⟩
  · show _ ≤ (w.heap.modify p.block _).size
    rw [Array.size_modify]; exact h.size
  · show (w.heap.modify p.block _)[k]? = _
    rw [Array.getElem?_modify, if_neg (by omega)]; exact h.block k hk hne
theorem setL_rds {B O : Nat} {s : RS} (hO : B < O) (ds : List Value) : ∀ (w : World) (j : Nat), RDs w B s → RDs (setL w O j ds) B s := by
  induction ds with
  | nil => intro w j h; exact h
  | cons d r ih => intro w j h; exact ih _ _ (h.setO (p := ⟨O, j, none⟩) hO d)
theorem keepO_back {B : Nat} {w W : World} {o : Obj} (h : KeepO B (w.alloc o) W) : KeepO B w W := (KeepO.alloc B w o).trans h
set_option maxRecDepth 100000 in
set_option maxHeartbeats 1000000 in
theorem ptr_is (B : Nat) (s : RS) (w : World) (hR : RDs w B s) :
    Calls Try.prog 117 #[.pointer (some ⟨B, 0, none⟩)] w fun e w' => e = .returned (.agg #[.int .u64 ((rPtr s).1.lsn : Int), .int .i64 (rPtr s).1.kind, .int .i64 (rPtr s).1.at_, .int .i64 (rPtr s).1.len, .string (rPtr s).1.key]) ∧ RDs w' B (rPtr s).2 ∧ KeepO B w w' := by
  obtain ⟨a, s1, e0⟩ : ∃ a s1, rNum 18446744073709551615 s = (a, s1) := ⟨_, _, rfl⟩
  have b0 : a ≤ 18446744073709551615 := by have := rNum_le 18446744073709551615 s; rw [e0] at this; exact this
  obtain ⟨k, s2, e1⟩ : ∃ k s2, rKind s1 = (k, s2) := ⟨_, _, rfl⟩
  obtain ⟨b, s3, e2⟩ : ∃ b s3, rNum 4194304 s2 = (b, s3) := ⟨_, _, rfl⟩
  have b2 : b ≤ 4194304 := by have := rNum_le 4194304 s2; rw [e2] at this; exact this
  obtain ⟨c, s4, e3⟩ : ∃ c s4, rNum 4194304 s3 = (c, s4) := ⟨_, _, rfl⟩
  have b3 : c ≤ 4194304 := by have := rNum_le 4194304 s3; rw [e3] at this; exact this
  obtain ⟨t, s5, e4⟩ : ∃ t s5, rRest s4 = (t, s5) := ⟨_, _, rfl⟩
  have HE : Hid (rPtr s = (⟨a, (k : Int), (b : Int), (c : Int), t⟩, s5)) := by
    show rPtr s = _
    unfold rPtr
    simp only [e0, e1, e2, e3, e4]
  rw [HE.out]
  simp only
  have E0 := hd e0
  have E1 := hd e1
  have E2 := hd e2
  have E3 := hd e3
  have E4 := hd e4
  clear e0 e1 e2 e3 e4 HE
  have hlt := hR.lt
  have HR0 := hd ((hR.alloc (.cells #[.int .u64 0, .int .i64 0, .int .i64 0, .int .i64 0, .string ⟨#[]⟩] 34)).alloc (.cells #[.int .u64 0, .int .i64 0, .int .i64 0, .int .i64 0, .string ⟨#[]⟩] 34))
  clear hR
  have HA0 : Hid (Blk ((w.alloc (.cells #[.int .u64 0, .int .i64 0, .int .i64 0, .int .i64 0, .string ⟨#[]⟩] 34)).alloc (.cells #[.int .u64 0, .int .i64 0, .int .i64 0, .int .i64 0, .string ⟨#[]⟩] 34)) w.heap.size 34 [.int .u64 0, .int .i64 0, .int .i64 0, .int .i64 0, .string ⟨#[]⟩]) := (Blk.new w _ _).alloc _
  have HP0 : Hid (Blk ((w.alloc (.cells #[.int .u64 0, .int .i64 0, .int .i64 0, .int .i64 0, .string ⟨#[]⟩] 34)).alloc (.cells #[.int .u64 0, .int .i64 0, .int .i64 0, .int .i64 0, .string ⟨#[]⟩] 34)) (w.heap.size + 1) 34 [.int .u64 0, .int .i64 0, .int .i64 0, .int .i64 0, .string ⟨#[]⟩]) := by
    have := Blk.new (w.alloc (.cells #[.int .u64 0, .int .i64 0, .int .i64 0, .int .i64 0, .string ⟨#[]⟩] 34)) 34 [.int .u64 0, .int .i64 0, .int .i64 0, .int .i64 0, .string ⟨#[]⟩]
    rw [World.size_alloc] at this
    exact this
  have HK0 : Hid (KeepO B w ((w.alloc (.cells #[.int .u64 0, .int .i64 0, .int .i64 0, .int .i64 0, .string ⟨#[]⟩] 34)).alloc (.cells #[.int .u64 0, .int .i64 0, .int .i64 0, .int .i64 0, .string ⟨#[]⟩] 34))) := (KeepO.alloc _ _ _).trans (KeepO.alloc _ _ _)
  go_enter Try.func117, Try.ntmps117
  go_wp2_with fail
  refine Calls.mono (number_is' B 18446744073709551615 s _ HR0.out) ?_
  rw [E0.out]
  simp only
  rintro e w1 ⟨rfl, hr, hk⟩
  have HRb1 := hd hr
  have HAb1 := hd (HA0.out.keepO (by omega) hk)
  have HPb1 := hd (HP0.out.keepO (by omega) hk)
  have HKb1 := hd (HK0.out.trans hk)
  clear hr hk HR0 HA0 HP0 HK0
  have hc0 := HPb1.out.cell 0 _ rfl
  have hf0 := HPb1.out.frozen 0
  have HR1 := hd (HRb1.out.setO (p := ⟨w.heap.size + 1, 0, none⟩) (show B < w.heap.size + 1 by omega) (.int .u64 ((a : Nat) : Int)))
  have HA1 := hd (HAb1.out.other (p := ⟨w.heap.size + 1, 0, none⟩) (show w.heap.size + 1 ≠ w.heap.size by omega) (.int .u64 ((a : Nat) : Int)))
  have HP1 := hd (HPb1.out.set (j := 0) (.int .u64 ((a : Nat) : Int)))
  have HK1 := hd (HKb1.out.setO (p := ⟨w.heap.size + 1, 0, none⟩) (show w.heap.size ≤ w.heap.size + 1 by omega) (.int .u64 ((a : Nat) : Int)))
  clear HRb1 HAb1 HPb1 HKb1
  go_wp2_with fail
  refine Calls.mono (kind_is' B s1 _ HR1.out) ?_
  rw [E1.out]
  simp only
  rintro e w2 ⟨rfl, hr, hk⟩
  have HRb2 := hd hr
  have HAb2 := hd (HA1.out.keepO (by omega) hk)
  have HPb2 := hd (HP1.out.keepO (by omega) hk)
  have HKb2 := hd (HK1.out.trans hk)
  clear hr hk HR1 HA1 HP1 HK1
  have hc1 := HPb2.out.cell 1 _ rfl
  have hf1 := HPb2.out.frozen 1
  have HR2 := hd (HRb2.out.setO (p := ⟨w.heap.size + 1, 1, none⟩) (show B < w.heap.size + 1 by omega) (.int .i64 ((k : Nat) : Int)))
  have HA2 := hd (HAb2.out.other (p := ⟨w.heap.size + 1, 1, none⟩) (show w.heap.size + 1 ≠ w.heap.size by omega) (.int .i64 ((k : Nat) : Int)))
  have HP2 := hd (HPb2.out.set (j := 1) (.int .i64 ((k : Nat) : Int)))
  have HK2 := hd (HKb2.out.setO (p := ⟨w.heap.size + 1, 1, none⟩) (show w.heap.size ≤ w.heap.size + 1 by omega) (.int .i64 ((k : Nat) : Int)))
  clear HRb2 HAb2 HPb2 HKb2
  go_wp2_with fail
  refine Calls.mono (number_is' B 4194304 s2 _ HR2.out) ?_
  rw [E2.out]
  simp only
  rintro e w3 ⟨rfl, hr, hk⟩
  have HRb3 := hd hr
  have HAb3 := hd (HA2.out.keepO (by omega) hk)
  have HPb3 := hd (HP2.out.keepO (by omega) hk)
  have HKb3 := hd (HK2.out.trans hk)
  clear hr hk HR2 HA2 HP2 HK2
  have hc2 := HPb3.out.cell 2 _ rfl
  have hf2 := HPb3.out.frozen 2
  have HR3 := hd (HRb3.out.setO (p := ⟨w.heap.size + 1, 2, none⟩) (show B < w.heap.size + 1 by omega) (.int .i64 ((b : Nat) : Int)))
  have HA3 := hd (HAb3.out.other (p := ⟨w.heap.size + 1, 2, none⟩) (show w.heap.size + 1 ≠ w.heap.size by omega) (.int .i64 ((b : Nat) : Int)))
  have HP3 := hd (HPb3.out.set (j := 2) (.int .i64 ((b : Nat) : Int)))
  have HK3 := hd (HKb3.out.setO (p := ⟨w.heap.size + 1, 2, none⟩) (show w.heap.size ≤ w.heap.size + 1 by omega) (.int .i64 ((b : Nat) : Int)))
  clear HRb3 HAb3 HPb3 HKb3
  go_wp2_with fail
  refine Calls.mono (number_is' B 4194304 s3 _ HR3.out) ?_
  rw [E3.out]
  simp only
  rintro e w4 ⟨rfl, hr, hk⟩
  have HRb4 := hd hr
  have HAb4 := hd (HA3.out.keepO (by omega) hk)
  have HPb4 := hd (HP3.out.keepO (by omega) hk)
  have HKb4 := hd (HK3.out.trans hk)
  clear hr hk HR3 HA3 HP3 HK3
  have hc3 := HPb4.out.cell 3 _ rfl
  have hf3 := HPb4.out.frozen 3
  have HR4 := hd (HRb4.out.setO (p := ⟨w.heap.size + 1, 3, none⟩) (show B < w.heap.size + 1 by omega) (.int .i64 ((c : Nat) : Int)))
  have HA4 := hd (HAb4.out.other (p := ⟨w.heap.size + 1, 3, none⟩) (show w.heap.size + 1 ≠ w.heap.size by omega) (.int .i64 ((c : Nat) : Int)))
  have HP4 := hd (HPb4.out.set (j := 3) (.int .i64 ((c : Nat) : Int)))
  have HK4 := hd (HKb4.out.setO (p := ⟨w.heap.size + 1, 3, none⟩) (show w.heap.size ≤ w.heap.size + 1 by omega) (.int .i64 ((c : Nat) : Int)))
  clear HRb4 HAb4 HPb4 HKb4
  go_wp2_with fail
  refine Calls.mono (rest_is' B s4 _ HR4.out) ?_
  rw [E4.out]
  simp only
  rintro e w5 ⟨rfl, hr, hk⟩
  have HRb5 := hd hr
  have HAb5 := hd (HA4.out.keepO (by omega) hk)
  have HPb5 := hd (HP4.out.keepO (by omega) hk)
  have HKb5 := hd (HK4.out.trans hk)
  clear hr hk HR4 HA4 HP4 HK4
  have hc4 := HPb5.out.cell 4 _ rfl
  have hf4 := HPb5.out.frozen 4
  have g0 := HPb5.out.cell 0 _ rfl
  have a0 := HAb5.out.cell 0 _ rfl
  have z0 := HAb5.out.frozen 0
  have g1 := HPb5.out.cell 1 _ rfl
  have a1 := HAb5.out.cell 1 _ rfl
  have z1 := HAb5.out.frozen 1
  have g2 := HPb5.out.cell 2 _ rfl
  have a2 := HAb5.out.cell 2 _ rfl
  have z2 := HAb5.out.frozen 2
  have g3 := HPb5.out.cell 3 _ rfl
  have a3 := HAb5.out.cell 3 _ rfl
  have z3 := HAb5.out.frozen 3
  have a4 := HAb5.out.cell 4 _ rfl
  have z4 := HAb5.out.frozen 4
  go_wp2_with fail
  have HF : Hid (Blk (setL (w5.setCell ⟨w.heap.size + 1, 4, none⟩ (.string t)) w.heap.size 0 [.int .u64 ((a : Nat) : Int), .int .i64 ((k : Nat) : Int), .int .i64 ((b : Nat) : Int), .int .i64 ((c : Nat) : Int), .string t]) w.heap.size 34 [.int .u64 ((a : Nat) : Int), .int .i64 ((k : Nat) : Int), .int .i64 ((b : Nat) : Int), .int .i64 ((c : Nat) : Int), .string t]) := setL_blk [.int .u64 ((a : Nat) : Int), .int .i64 ((k : Nat) : Int), .int .i64 ((b : Nat) : Int), .int .i64 ((c : Nat) : Int), .string t] _ 0 [] [.int .u64 0, .int .i64 0, .int .i64 0, .int .i64 0, .string ⟨#[]⟩] rfl rfl (HAb5.out.other (p := ⟨w.heap.size + 1, 4, none⟩) (show w.heap.size + 1 ≠ w.heap.size by omega) _)
  refine bodyPost_ret (results_cell_row rfl _ _ w.heap.size 34 #[.int .u64 ((a : Nat) : Int), .int .i64 ((k : Nat) : Int), .int .i64 ((b : Nat) : Int), .int .i64 ((c : Nat) : Int), .string t] (0, 0) _ rfl HF.out Try.underlying34 rfl (by kernel_rfl)) rfl ?_
  refine ⟨rfl, ?_, ?_⟩
  · exact setL_rds (O := w.heap.size) hlt [.int .u64 ((a : Nat) : Int), .int .i64 ((k : Nat) : Int), .int .i64 ((b : Nat) : Int), .int .i64 ((c : Nat) : Int), .string t] _ 0 (HRb5.out.setO (p := ⟨w.heap.size + 1, 4, none⟩) (show B < w.heap.size + 1 by omega) _)
  · exact setL_keepO (O := w.heap.size) [.int .u64 ((a : Nat) : Int), .int .i64 ((k : Nat) : Int), .int .i64 ((b : Nat) : Int), .int .i64 ((c : Nat) : Int), .string t] _ w 0 (Nat.le_refl _) (HKb5.out.setO (p := ⟨w.heap.size + 1, 4, none⟩) (show w.heap.size ≤ w.heap.size + 1 by omega) _)
set_option maxRecDepth 100000 in
set_option maxHeartbeats 1000000 in
theorem edg_is (B : Nat) (s : RS) (w : World) (hR : RDs w B s) :
    Calls Try.prog 118 #[.pointer (some ⟨B, 0, none⟩)] w fun e w' => e = .returned (.agg #[.int .i64 (rEdg s).1.count, .int .i64 (rEdg s).1.bytes, .int .i64 (rEdg s).1.frames, .int .u32 ((rEdg s).1.sum : Int)]) ∧ RDs w' B (rEdg s).2 ∧ KeepO B w w' := by
  obtain ⟨a, s1, e0⟩ : ∃ a s1, rNum 4194304 s = (a, s1) := ⟨_, _, rfl⟩
  have b0 : a ≤ 4194304 := by have := rNum_le 4194304 s; rw [e0] at this; exact this
  obtain ⟨b, s2, e1⟩ : ∃ b s2, rNum 4194304 s1 = (b, s2) := ⟨_, _, rfl⟩
  have b1 : b ≤ 4194304 := by have := rNum_le 4194304 s1; rw [e1] at this; exact this
  obtain ⟨c, s3, e2⟩ : ∃ c s3, rNum 4194304 s2 = (c, s3) := ⟨_, _, rfl⟩
  have b2 : c ≤ 4194304 := by have := rNum_le 4194304 s2; rw [e2] at this; exact this
  obtain ⟨d, s4, e3⟩ : ∃ d s4, rNum 4294967295 s3 = (d, s4) := ⟨_, _, rfl⟩
  have b3 : d ≤ 4294967295 := by have := rNum_le 4294967295 s3; rw [e3] at this; exact this
  have HE : Hid (rEdg s = (⟨(a : Int), (b : Int), (c : Int), d⟩, s4)) := by
    show rEdg s = _
    unfold rEdg
    simp only [e0, e1, e2, e3]
  rw [HE.out]
  simp only
  have E0 := hd e0
  have E1 := hd e1
  have E2 := hd e2
  have E3 := hd e3
  clear e0 e1 e2 e3 HE
  have hlt := hR.lt
  have HR0 := hd ((hR.alloc (.cells #[.int .i64 0, .int .i64 0, .int .i64 0, .int .u32 0] 39)).alloc (.cells #[.int .i64 0, .int .i64 0, .int .i64 0, .int .u32 0] 39))
  clear hR
  have HA0 : Hid (Blk ((w.alloc (.cells #[.int .i64 0, .int .i64 0, .int .i64 0, .int .u32 0] 39)).alloc (.cells #[.int .i64 0, .int .i64 0, .int .i64 0, .int .u32 0] 39)) w.heap.size 39 [.int .i64 0, .int .i64 0, .int .i64 0, .int .u32 0]) := (Blk.new w _ _).alloc _
  have HP0 : Hid (Blk ((w.alloc (.cells #[.int .i64 0, .int .i64 0, .int .i64 0, .int .u32 0] 39)).alloc (.cells #[.int .i64 0, .int .i64 0, .int .i64 0, .int .u32 0] 39)) (w.heap.size + 1) 39 [.int .i64 0, .int .i64 0, .int .i64 0, .int .u32 0]) := by
    have := Blk.new (w.alloc (.cells #[.int .i64 0, .int .i64 0, .int .i64 0, .int .u32 0] 39)) 39 [.int .i64 0, .int .i64 0, .int .i64 0, .int .u32 0]
    rw [World.size_alloc] at this
    exact this
  have HK0 : Hid (KeepO B w ((w.alloc (.cells #[.int .i64 0, .int .i64 0, .int .i64 0, .int .u32 0] 39)).alloc (.cells #[.int .i64 0, .int .i64 0, .int .i64 0, .int .u32 0] 39))) := (KeepO.alloc _ _ _).trans (KeepO.alloc _ _ _)
  go_enter Try.func118, Try.ntmps118
  go_wp2_with fail
  refine Calls.mono (number_is' B 4194304 s _ HR0.out) ?_
  rw [E0.out]
  simp only
  rintro e w1 ⟨rfl, hr, hk⟩
  have HRb1 := hd hr
  have HAb1 := hd (HA0.out.keepO (by omega) hk)
  have HPb1 := hd (HP0.out.keepO (by omega) hk)
  have HKb1 := hd (HK0.out.trans hk)
  clear hr hk HR0 HA0 HP0 HK0
  have hc0 := HPb1.out.cell 0 _ rfl
  have hf0 := HPb1.out.frozen 0
  have HR1 := hd (HRb1.out.setO (p := ⟨w.heap.size + 1, 0, none⟩) (show B < w.heap.size + 1 by omega) (.int .i64 ((a : Nat) : Int)))
  have HA1 := hd (HAb1.out.other (p := ⟨w.heap.size + 1, 0, none⟩) (show w.heap.size + 1 ≠ w.heap.size by omega) (.int .i64 ((a : Nat) : Int)))
  have HP1 := hd (HPb1.out.set (j := 0) (.int .i64 ((a : Nat) : Int)))
  have HK1 := hd (HKb1.out.setO (p := ⟨w.heap.size + 1, 0, none⟩) (show w.heap.size ≤ w.heap.size + 1 by omega) (.int .i64 ((a : Nat) : Int)))
  clear HRb1 HAb1 HPb1 HKb1
  go_wp2_with fail
  refine Calls.mono (number_is' B 4194304 s1 _ HR1.out) ?_
  rw [E1.out]
  simp only
  rintro e w2 ⟨rfl, hr, hk⟩
  have HRb2 := hd hr
  have HAb2 := hd (HA1.out.keepO (by omega) hk)
  have HPb2 := hd (HP1.out.keepO (by omega) hk)
  have HKb2 := hd (HK1.out.trans hk)
  clear hr hk HR1 HA1 HP1 HK1
  have hc1 := HPb2.out.cell 1 _ rfl
  have hf1 := HPb2.out.frozen 1
  have HR2 := hd (HRb2.out.setO (p := ⟨w.heap.size + 1, 1, none⟩) (show B < w.heap.size + 1 by omega) (.int .i64 ((b : Nat) : Int)))
  have HA2 := hd (HAb2.out.other (p := ⟨w.heap.size + 1, 1, none⟩) (show w.heap.size + 1 ≠ w.heap.size by omega) (.int .i64 ((b : Nat) : Int)))
  have HP2 := hd (HPb2.out.set (j := 1) (.int .i64 ((b : Nat) : Int)))
  have HK2 := hd (HKb2.out.setO (p := ⟨w.heap.size + 1, 1, none⟩) (show w.heap.size ≤ w.heap.size + 1 by omega) (.int .i64 ((b : Nat) : Int)))
  clear HRb2 HAb2 HPb2 HKb2
  go_wp2_with fail
  refine Calls.mono (number_is' B 4194304 s2 _ HR2.out) ?_
  rw [E2.out]
  simp only
  rintro e w3 ⟨rfl, hr, hk⟩
  have HRb3 := hd hr
  have HAb3 := hd (HA2.out.keepO (by omega) hk)
  have HPb3 := hd (HP2.out.keepO (by omega) hk)
  have HKb3 := hd (HK2.out.trans hk)
  clear hr hk HR2 HA2 HP2 HK2
  have hc2 := HPb3.out.cell 2 _ rfl
  have hf2 := HPb3.out.frozen 2
  have HR3 := hd (HRb3.out.setO (p := ⟨w.heap.size + 1, 2, none⟩) (show B < w.heap.size + 1 by omega) (.int .i64 ((c : Nat) : Int)))
  have HA3 := hd (HAb3.out.other (p := ⟨w.heap.size + 1, 2, none⟩) (show w.heap.size + 1 ≠ w.heap.size by omega) (.int .i64 ((c : Nat) : Int)))
  have HP3 := hd (HPb3.out.set (j := 2) (.int .i64 ((c : Nat) : Int)))
  have HK3 := hd (HKb3.out.setO (p := ⟨w.heap.size + 1, 2, none⟩) (show w.heap.size ≤ w.heap.size + 1 by omega) (.int .i64 ((c : Nat) : Int)))
  clear HRb3 HAb3 HPb3 HKb3
  go_wp2_with fail
  refine Calls.mono (number_is' B 4294967295 s3 _ HR3.out) ?_
  rw [E3.out]
  simp only
  rintro e w4 ⟨rfl, hr, hk⟩
  have HRb4 := hd hr
  have HAb4 := hd (HA3.out.keepO (by omega) hk)
  have HPb4 := hd (HP3.out.keepO (by omega) hk)
  have HKb4 := hd (HK3.out.trans hk)
  clear hr hk HR3 HA3 HP3 HK3
  have hc3 := HPb4.out.cell 3 _ rfl
  have hf3 := HPb4.out.frozen 3
  have g0 := HPb4.out.cell 0 _ rfl
  have a0 := HAb4.out.cell 0 _ rfl
  have z0 := HAb4.out.frozen 0
  have g1 := HPb4.out.cell 1 _ rfl
  have a1 := HAb4.out.cell 1 _ rfl
  have z1 := HAb4.out.frozen 1
  have g2 := HPb4.out.cell 2 _ rfl
  have a2 := HAb4.out.cell 2 _ rfl
  have z2 := HAb4.out.frozen 2
  have a3 := HAb4.out.cell 3 _ rfl
  have z3 := HAb4.out.frozen 3
  go_wp2_with fail
  have HF : Hid (Blk (setL (w4.setCell ⟨w.heap.size + 1, 3, none⟩ (.int .u32 ((d : Nat) : Int))) w.heap.size 0 [.int .i64 ((a : Nat) : Int), .int .i64 ((b : Nat) : Int), .int .i64 ((c : Nat) : Int), .int .u32 ((d : Nat) : Int)]) w.heap.size 39 [.int .i64 ((a : Nat) : Int), .int .i64 ((b : Nat) : Int), .int .i64 ((c : Nat) : Int), .int .u32 ((d : Nat) : Int)]) := setL_blk [.int .i64 ((a : Nat) : Int), .int .i64 ((b : Nat) : Int), .int .i64 ((c : Nat) : Int), .int .u32 ((d : Nat) : Int)] _ 0 [] [.int .i64 0, .int .i64 0, .int .i64 0, .int .u32 0] rfl rfl (HAb4.out.other (p := ⟨w.heap.size + 1, 3, none⟩) (show w.heap.size + 1 ≠ w.heap.size by omega) _)
  refine bodyPost_ret (results_cell_row rfl _ _ w.heap.size 39 #[.int .i64 ((a : Nat) : Int), .int .i64 ((b : Nat) : Int), .int .i64 ((c : Nat) : Int), .int .u32 ((d : Nat) : Int)] (0, 0) _ rfl HF.out Try.underlying39 rfl (by kernel_rfl)) rfl ?_
  refine ⟨rfl, ?_, ?_⟩
  · exact setL_rds (O := w.heap.size) hlt [.int .i64 ((a : Nat) : Int), .int .i64 ((b : Nat) : Int), .int .i64 ((c : Nat) : Int), .int .u32 ((d : Nat) : Int)] _ 0 (HRb4.out.setO (p := ⟨w.heap.size + 1, 3, none⟩) (show B < w.heap.size + 1 by omega) _)
  · exact setL_keepO (O := w.heap.size) [.int .i64 ((a : Nat) : Int), .int .i64 ((b : Nat) : Int), .int .i64 ((c : Nat) : Int), .int .u32 ((d : Nat) : Int)] _ w 0 (Nat.le_refl _) (HKb4.out.setO (p := ⟨w.heap.size + 1, 3, none⟩) (show w.heap.size ≤ w.heap.size + 1 by omega) _)
end Vt
end Go.Proofs.Ytlddogigbodilaa
namespace Go.Proofs.Ytlddogigbodilaa
open Go.RowKit
namespace Vt
set_option maxRecDepth 100000 in
set_option maxHeartbeats 2000000 in
theorem frame_1 (B : Nat) (s : RS) (w : World) (hR : RDs w B s) (h : (rKind s).1 = 1) :
    Calls Try.prog 98 #[.pointer (some ⟨B, 0, none⟩)] w fun e w' => e = .returned (.agg (fv (prs s).1)) ∧ RDs w' B (prs s).2 ∧ KeepO B w w' := by
  rw [prs_1 h]
  obtain ⟨k, s1, e0⟩ : ∃ k s1, rKind s = (k, s1) := ⟨_, _, rfl⟩
  rw [e0] at h ⊢
  simp only at h ⊢
  subst h
  obtain ⟨a, s2, e1⟩ : ∃ y s2, rNum 18446744073709551615 s1 = (y, s2) := ⟨_, _, rfl⟩
  have b1 : a ≤ 18446744073709551615 := by have := rNum_le 18446744073709551615 s1; rw [e1] at this; exact this
  obtain ⟨c, s3, e2⟩ : ∃ y s3, rNum 64 s2 = (y, s3) := ⟨_, _, rfl⟩
  have b2 : c ≤ 64 := by have := rNum_le 64 s2; rw [e2] at this; exact this
  obtain ⟨t, s4, e3⟩ : ∃ y s4, rText c s3 = (y, s4) := ⟨_, _, rfl⟩
  obtain ⟨v, s5, e4⟩ : ∃ y s5, rRest s4 = (y, s5) := ⟨_, _, rfl⟩
  unfold rPut; simp only [e1, e2, e3, e4]
  simp only [fv, zp, ze]
  have E0 := hd e0
  have E1 := hd e1
  have E2 := hd e2
  have E3 := hd e3
  have E4 := hd e4
  clear e0 e1 e2 e3 e4
  have hlt := hR.lt
  have HR0 := hd (hR.alloc (.cells #[.int .i64 0, .int .u64 0, .int .i64 0, .string ⟨#[]⟩, .string ⟨#[]⟩, .int .u64 0, .int .i64 0, .int .i64 0, .int .i64 0, .string ⟨#[]⟩, .int .i64 0, .int .i64 0, .int .i64 0, .int .u32 0] 41))
  clear hR
  have HA0 : Hid (Blk (w.alloc (.cells #[.int .i64 0, .int .u64 0, .int .i64 0, .string ⟨#[]⟩, .string ⟨#[]⟩, .int .u64 0, .int .i64 0, .int .i64 0, .int .i64 0, .string ⟨#[]⟩, .int .i64 0, .int .i64 0, .int .i64 0, .int .u32 0] 41)) w.heap.size 41 [.int .i64 0, .int .u64 0, .int .i64 0, .string ⟨#[]⟩, .string ⟨#[]⟩, .int .u64 0, .int .i64 0, .int .i64 0, .int .i64 0, .string ⟨#[]⟩, .int .i64 0, .int .i64 0, .int .i64 0, .int .u32 0]) := Blk.new w _ _
  have HK0 : Hid (KeepO B w (w.alloc (.cells #[.int .i64 0, .int .u64 0, .int .i64 0, .string ⟨#[]⟩, .string ⟨#[]⟩, .int .u64 0, .int .i64 0, .int .i64 0, .int .i64 0, .string ⟨#[]⟩, .int .i64 0, .int .i64 0, .int .i64 0, .int .u32 0] 41))) := KeepO.alloc _ _ _
  go_enter Try.func98, Try.ntmps98
  go_wp2_with fail
  refine Calls.mono (kind_is' B s _ HR0.out) ?_
  rw [E0.out]
  simp only
  rintro e w1 ⟨rfl, hr, hk⟩
  have hs1 : w.heap.size + 1 ≤ w1.heap.size := by have := hk.size; rw [World.size_alloc] at this; exact this
  have HR1 := hd (hr.alloc (.cells #[.int .i64 1, .int .u64 0, .int .i64 0, .string ⟨#[]⟩, .string ⟨#[]⟩, .int .u64 0, .int .i64 0, .int .i64 0, .int .i64 0, .string ⟨#[]⟩, .int .i64 0, .int .i64 0, .int .i64 0, .int .u32 0] 41))
  have HA1 := hd ((HA0.out.keepO (by omega) hk).alloc (.cells #[.int .i64 1, .int .u64 0, .int .i64 0, .string ⟨#[]⟩, .string ⟨#[]⟩, .int .u64 0, .int .i64 0, .int .i64 0, .int .i64 0, .string ⟨#[]⟩, .int .i64 0, .int .i64 0, .int .i64 0, .int .u32 0] 41))
  have HK1 := hd ((HK0.out.trans hk).trans (KeepO.alloc _ _ (.cells #[.int .i64 1, .int .u64 0, .int .i64 0, .string ⟨#[]⟩, .string ⟨#[]⟩, .int .u64 0, .int .i64 0, .int .i64 0, .int .i64 0, .string ⟨#[]⟩, .int .i64 0, .int .i64 0, .int .i64 0, .int .u32 0] 41)))
  have HP1 : Hid (Blk (w1.alloc (.cells #[.int .i64 1, .int .u64 0, .int .i64 0, .string ⟨#[]⟩, .string ⟨#[]⟩, .int .u64 0, .int .i64 0, .int .i64 0, .int .i64 0, .string ⟨#[]⟩, .int .i64 0, .int .i64 0, .int .i64 0, .int .u32 0] 41)) w1.heap.size 41 [.int .i64 1, .int .u64 0, .int .i64 0, .string ⟨#[]⟩, .string ⟨#[]⟩, .int .u64 0, .int .i64 0, .int .i64 0, .int .i64 0, .string ⟨#[]⟩, .int .i64 0, .int .i64 0, .int .i64 0, .int .u32 0]) := Blk.new w1 _ _
  clear hr hk HR0 HA0 HK0
  obtain ⟨P, hP⟩ : ∃ P, P = w1.heap.size := ⟨_, rfl⟩
  have HPP := hd hP
  rw [← hP] at HP1 hs1
  generalize hW : w1.alloc (.cells #[.int .i64 1, .int .u64 0, .int .i64 0, .string ⟨#[]⟩, .string ⟨#[]⟩, .int .u64 0, .int .i64 0, .int .i64 0, .int .i64 0, .string ⟨#[]⟩, .int .i64 0, .int .i64 0, .int .i64 0, .int .u32 0] 41) = W1 at HR1 HA1 HK1 HP1
  have HW := hd hW
  have k0 : W1.cell? ⟨P, 0, none⟩ = some (.int .i64 1) := HP1.out.cell 0 _ rfl
  clear hP hW
  go_wp2_with fail
  rw [HW.out, ← HPP.out]
  refine Calls.mono (number_is' B 18446744073709551615 s1 _ HR1.out) ?_
  rw [E1.out]
  simp only
  rintro e w2 ⟨rfl, hr, hk⟩
  have HR2 := hd hr
  have HA2 := hd (HA1.out.keepO (by omega) hk)
  have HP2 := hd (HP1.out.keepO (by omega) hk)
  have HK2 := hd (HK1.out.trans hk)
  clear hr hk HR1 HA1 HP1 HK1 k0
  go_wp2_with fail
  refine Calls.mono (number_is' B 64 s2 _ HR2.out) ?_
  rw [E2.out]
  simp only
  rintro e w3 ⟨rfl, hr, hk⟩
  have HR3 := hd hr
  have HA3 := hd (HA2.out.keepO (by omega) hk)
  have HP3 := hd (HP2.out.keepO (by omega) hk)
  have HK3 := hd (HK2.out.trans hk)
  clear hr hk HR2 HA2 HP2 HK2
  go_wp2_with fail
  refine Calls.mono (text_is' B c s3 _ HR3.out (by omega)) ?_
  rw [E3.out]
  simp only
  rintro e w4 ⟨rfl, hr, hk⟩
  have HR4 := hd hr
  have HA4 := hd (HA3.out.keepO (by omega) hk)
  have HP4 := hd (HP3.out.keepO (by omega) hk)
  have HK4 := hd (HK3.out.trans hk)
  clear hr hk HR3 HA3 HP3 HK3
  go_wp2_with fail
  refine Calls.mono (rest_is' B s4 _ HR4.out) ?_
  rw [E4.out]
  simp only
  rintro e w5 ⟨rfl, hr, hk⟩
  have HR5 := hd hr
  have HA5 := hd (HA4.out.keepO (by omega) hk)
  have HP5 := hd (HP4.out.keepO (by omega) hk)
  have HK5 := hd (HK4.out.trans hk)
  clear hr hk HR4 HA4 HP4 HK4
  have g0 := HP5.out.cell 0 _ rfl
  have a0 := HA5.out.cell 0 _ rfl
  have z0 := HA5.out.frozen 0
  have g1 := HP5.out.cell 1 _ rfl
  have a1 := HA5.out.cell 1 _ rfl
  have z1 := HA5.out.frozen 1
  have g2 := HP5.out.cell 2 _ rfl
  have a2 := HA5.out.cell 2 _ rfl
  have z2 := HA5.out.frozen 2
  have g3 := HP5.out.cell 3 _ rfl
  have a3 := HA5.out.cell 3 _ rfl
  have z3 := HA5.out.frozen 3
  have g4 := HP5.out.cell 4 _ rfl
  have a4 := HA5.out.cell 4 _ rfl
  have z4 := HA5.out.frozen 4
  have g5 := HP5.out.cell 5 _ rfl
  have a5 := HA5.out.cell 5 _ rfl
  have z5 := HA5.out.frozen 5
  have g6 := HP5.out.cell 6 _ rfl
  have a6 := HA5.out.cell 6 _ rfl
  have z6 := HA5.out.frozen 6
  have g7 := HP5.out.cell 7 _ rfl
  have a7 := HA5.out.cell 7 _ rfl
  have z7 := HA5.out.frozen 7
  have g8 := HP5.out.cell 8 _ rfl
  have a8 := HA5.out.cell 8 _ rfl
  have z8 := HA5.out.frozen 8
  have g9 := HP5.out.cell 9 _ rfl
  have a9 := HA5.out.cell 9 _ rfl
  have z9 := HA5.out.frozen 9
  have g10 := HP5.out.cell 10 _ rfl
  have a10 := HA5.out.cell 10 _ rfl
  have z10 := HA5.out.frozen 10
  have g11 := HP5.out.cell 11 _ rfl
  have a11 := HA5.out.cell 11 _ rfl
  have z11 := HA5.out.frozen 11
  have g12 := HP5.out.cell 12 _ rfl
  have a12 := HA5.out.cell 12 _ rfl
  have z12 := HA5.out.frozen 12
  have g13 := HP5.out.cell 13 _ rfl
  have a13 := HA5.out.cell 13 _ rfl
  have z13 := HA5.out.frozen 13
  have y0 := HP5.out.frozen 1
  have y1 := HP5.out.frozen 2
  have y2 := HP5.out.frozen 3
  have y3 := HP5.out.frozen 4
  go_wp2_with fail
  have HF : Hid (Blk (setL ((((w5.setCell ⟨P, 1, none⟩ (.int .u64 ((a : Nat) : Int))).setCell ⟨P, 2, none⟩ (.int .i64 1)).setCell ⟨P, 3, none⟩ (.string t)).setCell ⟨P, 4, none⟩ (.string v)) w.heap.size 0 [.int .i64 1, .int .u64 ((a : Nat) : Int), .int .i64 1, .string t, .string v, .int .u64 0, .int .i64 0, .int .i64 0, .int .i64 0, .string ⟨#[]⟩, .int .i64 0, .int .i64 0, .int .i64 0, .int .u32 0]) w.heap.size 41 [.int .i64 1, .int .u64 ((a : Nat) : Int), .int .i64 1, .string t, .string v, .int .u64 0, .int .i64 0, .int .i64 0, .int .i64 0, .string ⟨#[]⟩, .int .i64 0, .int .i64 0, .int .i64 0, .int .u32 0]) := setL_blk [.int .i64 1, .int .u64 ((a : Nat) : Int), .int .i64 1, .string t, .string v, .int .u64 0, .int .i64 0, .int .i64 0, .int .i64 0, .string ⟨#[]⟩, .int .i64 0, .int .i64 0, .int .i64 0, .int .u32 0] _ 0 [] [.int .i64 0, .int .u64 0, .int .i64 0, .string ⟨#[]⟩, .string ⟨#[]⟩, .int .u64 0, .int .i64 0, .int .i64 0, .int .i64 0, .string ⟨#[]⟩, .int .i64 0, .int .i64 0, .int .i64 0, .int .u32 0] rfl rfl ((((HA5.out.other (p := ⟨P, 1, none⟩) (show P ≠ w.heap.size by omega) (.int .u64 ((a : Nat) : Int))).other (p := ⟨P, 2, none⟩) (show P ≠ w.heap.size by omega) (.int .i64 1)).other (p := ⟨P, 3, none⟩) (show P ≠ w.heap.size by omega) (.string t)).other (p := ⟨P, 4, none⟩) (show P ≠ w.heap.size by omega) (.string v))
  refine bodyPost_ret (results_cell_row rfl _ _ w.heap.size 41 #[.int .i64 1, .int .u64 ((a : Nat) : Int), .int .i64 1, .string t, .string v, .int .u64 0, .int .i64 0, .int .i64 0, .int .i64 0, .string ⟨#[]⟩, .int .i64 0, .int .i64 0, .int .i64 0, .int .u32 0] (0, 0) _ rfl HF.out Try.underlying41 rfl (by kernel_rfl)) rfl ?_
  refine ⟨rfl, ?_, ?_⟩
  · exact setL_rds (O := w.heap.size) hlt [.int .i64 1, .int .u64 ((a : Nat) : Int), .int .i64 1, .string t, .string v, .int .u64 0, .int .i64 0, .int .i64 0, .int .i64 0, .string ⟨#[]⟩, .int .i64 0, .int .i64 0, .int .i64 0, .int .u32 0] _ 0 ((((HR5.out.setO (p := ⟨P, 1, none⟩) (show B < P by omega) (.int .u64 ((a : Nat) : Int))).setO (p := ⟨P, 2, none⟩) (show B < P by omega) (.int .i64 1)).setO (p := ⟨P, 3, none⟩) (show B < P by omega) (.string t)).setO (p := ⟨P, 4, none⟩) (show B < P by omega) (.string v))
  · exact setL_keepO (O := w.heap.size) [.int .i64 1, .int .u64 ((a : Nat) : Int), .int .i64 1, .string t, .string v, .int .u64 0, .int .i64 0, .int .i64 0, .int .i64 0, .string ⟨#[]⟩, .int .i64 0, .int .i64 0, .int .i64 0, .int .u32 0] _ w 0 (Nat.le_refl _) ((((HK5.out.setO (p := ⟨P, 1, none⟩) (show w.heap.size ≤ P by omega) (.int .u64 ((a : Nat) : Int))).setO (p := ⟨P, 2, none⟩) (show w.heap.size ≤ P by omega) (.int .i64 1)).setO (p := ⟨P, 3, none⟩) (show w.heap.size ≤ P by omega) (.string t)).setO (p := ⟨P, 4, none⟩) (show w.heap.size ≤ P by omega) (.string v))
set_option maxRecDepth 100000 in
set_option maxHeartbeats 2000000 in
theorem frame_2 (B : Nat) (s : RS) (w : World) (hR : RDs w B s) (h : (rKind s).1 = 2) :
    Calls Try.prog 98 #[.pointer (some ⟨B, 0, none⟩)] w fun e w' => e = .returned (.agg (fv (prs s).1)) ∧ RDs w' B (prs s).2 ∧ KeepO B w w' := by
  rw [prs_2 h]
  obtain ⟨k, s1, e0⟩ : ∃ k s1, rKind s = (k, s1) := ⟨_, _, rfl⟩
  rw [e0] at h ⊢
  simp only at h ⊢
  subst h
  obtain ⟨a, s2, e1⟩ : ∃ y s2, rNum 18446744073709551615 s1 = (y, s2) := ⟨_, _, rfl⟩
  have b1 : a ≤ 18446744073709551615 := by have := rNum_le 18446744073709551615 s1; rw [e1] at this; exact this
  obtain ⟨t, s3, e2⟩ : ∃ y s3, rRest s2 = (y, s3) := ⟨_, _, rfl⟩
  unfold rDel; simp only [e1, e2]
  simp only [fv, zp, ze]
  have E0 := hd e0
  have E1 := hd e1
  have E2 := hd e2
  clear e0 e1 e2
  have hlt := hR.lt
  have HR0 := hd (hR.alloc (.cells #[.int .i64 0, .int .u64 0, .int .i64 0, .string ⟨#[]⟩, .string ⟨#[]⟩, .int .u64 0, .int .i64 0, .int .i64 0, .int .i64 0, .string ⟨#[]⟩, .int .i64 0, .int .i64 0, .int .i64 0, .int .u32 0] 41))
  clear hR
  have HA0 : Hid (Blk (w.alloc (.cells #[.int .i64 0, .int .u64 0, .int .i64 0, .string ⟨#[]⟩, .string ⟨#[]⟩, .int .u64 0, .int .i64 0, .int .i64 0, .int .i64 0, .string ⟨#[]⟩, .int .i64 0, .int .i64 0, .int .i64 0, .int .u32 0] 41)) w.heap.size 41 [.int .i64 0, .int .u64 0, .int .i64 0, .string ⟨#[]⟩, .string ⟨#[]⟩, .int .u64 0, .int .i64 0, .int .i64 0, .int .i64 0, .string ⟨#[]⟩, .int .i64 0, .int .i64 0, .int .i64 0, .int .u32 0]) := Blk.new w _ _
  have HK0 : Hid (KeepO B w (w.alloc (.cells #[.int .i64 0, .int .u64 0, .int .i64 0, .string ⟨#[]⟩, .string ⟨#[]⟩, .int .u64 0, .int .i64 0, .int .i64 0, .int .i64 0, .string ⟨#[]⟩, .int .i64 0, .int .i64 0, .int .i64 0, .int .u32 0] 41))) := KeepO.alloc _ _ _
  go_enter Try.func98, Try.ntmps98
  go_wp2_with fail
  refine Calls.mono (kind_is' B s _ HR0.out) ?_
  rw [E0.out]
  simp only
  rintro e w1 ⟨rfl, hr, hk⟩
  have hs1 : w.heap.size + 1 ≤ w1.heap.size := by have := hk.size; rw [World.size_alloc] at this; exact this
  have HR1 := hd (hr.alloc (.cells #[.int .i64 2, .int .u64 0, .int .i64 0, .string ⟨#[]⟩, .string ⟨#[]⟩, .int .u64 0, .int .i64 0, .int .i64 0, .int .i64 0, .string ⟨#[]⟩, .int .i64 0, .int .i64 0, .int .i64 0, .int .u32 0] 41))
  have HA1 := hd ((HA0.out.keepO (by omega) hk).alloc (.cells #[.int .i64 2, .int .u64 0, .int .i64 0, .string ⟨#[]⟩, .string ⟨#[]⟩, .int .u64 0, .int .i64 0, .int .i64 0, .int .i64 0, .string ⟨#[]⟩, .int .i64 0, .int .i64 0, .int .i64 0, .int .u32 0] 41))
  have HK1 := hd ((HK0.out.trans hk).trans (KeepO.alloc _ _ (.cells #[.int .i64 2, .int .u64 0, .int .i64 0, .string ⟨#[]⟩, .string ⟨#[]⟩, .int .u64 0, .int .i64 0, .int .i64 0, .int .i64 0, .string ⟨#[]⟩, .int .i64 0, .int .i64 0, .int .i64 0, .int .u32 0] 41)))
  have HP1 : Hid (Blk (w1.alloc (.cells #[.int .i64 2, .int .u64 0, .int .i64 0, .string ⟨#[]⟩, .string ⟨#[]⟩, .int .u64 0, .int .i64 0, .int .i64 0, .int .i64 0, .string ⟨#[]⟩, .int .i64 0, .int .i64 0, .int .i64 0, .int .u32 0] 41)) w1.heap.size 41 [.int .i64 2, .int .u64 0, .int .i64 0, .string ⟨#[]⟩, .string ⟨#[]⟩, .int .u64 0, .int .i64 0, .int .i64 0, .int .i64 0, .string ⟨#[]⟩, .int .i64 0, .int .i64 0, .int .i64 0, .int .u32 0]) := Blk.new w1 _ _
  clear hr hk HR0 HA0 HK0
  obtain ⟨P, hP⟩ : ∃ P, P = w1.heap.size := ⟨_, rfl⟩
  have HPP := hd hP
  rw [← hP] at HP1 hs1
  generalize hW : w1.alloc (.cells #[.int .i64 2, .int .u64 0, .int .i64 0, .string ⟨#[]⟩, .string ⟨#[]⟩, .int .u64 0, .int .i64 0, .int .i64 0, .int .i64 0, .string ⟨#[]⟩, .int .i64 0, .int .i64 0, .int .i64 0, .int .u32 0] 41) = W1 at HR1 HA1 HK1 HP1
  have HW := hd hW
  have k0 : W1.cell? ⟨P, 0, none⟩ = some (.int .i64 2) := HP1.out.cell 0 _ rfl
  clear hP hW
  go_wp2_with fail
  rw [HW.out, ← HPP.out]
  refine Calls.mono (number_is' B 18446744073709551615 s1 _ HR1.out) ?_
  rw [E1.out]
  simp only
  rintro e w2 ⟨rfl, hr, hk⟩
  have HR2 := hd hr
  have HA2 := hd (HA1.out.keepO (by omega) hk)
  have HP2 := hd (HP1.out.keepO (by omega) hk)
  have HK2 := hd (HK1.out.trans hk)
  clear hr hk HR1 HA1 HP1 HK1 k0
  go_wp2_with fail
  refine Calls.mono (rest_is' B s2 _ HR2.out) ?_
  rw [E2.out]
  simp only
  rintro e w3 ⟨rfl, hr, hk⟩
  have HR3 := hd hr
  have HA3 := hd (HA2.out.keepO (by omega) hk)
  have HP3 := hd (HP2.out.keepO (by omega) hk)
  have HK3 := hd (HK2.out.trans hk)
  clear hr hk HR2 HA2 HP2 HK2
  have g0 := HP3.out.cell 0 _ rfl
  have a0 := HA3.out.cell 0 _ rfl
  have z0 := HA3.out.frozen 0
  have g1 := HP3.out.cell 1 _ rfl
  have a1 := HA3.out.cell 1 _ rfl
  have z1 := HA3.out.frozen 1
  have g2 := HP3.out.cell 2 _ rfl
  have a2 := HA3.out.cell 2 _ rfl
  have z2 := HA3.out.frozen 2
  have g3 := HP3.out.cell 3 _ rfl
  have a3 := HA3.out.cell 3 _ rfl
  have z3 := HA3.out.frozen 3
  have g4 := HP3.out.cell 4 _ rfl
  have a4 := HA3.out.cell 4 _ rfl
  have z4 := HA3.out.frozen 4
  have g5 := HP3.out.cell 5 _ rfl
  have a5 := HA3.out.cell 5 _ rfl
  have z5 := HA3.out.frozen 5
  have g6 := HP3.out.cell 6 _ rfl
  have a6 := HA3.out.cell 6 _ rfl
  have z6 := HA3.out.frozen 6
  have g7 := HP3.out.cell 7 _ rfl
  have a7 := HA3.out.cell 7 _ rfl
  have z7 := HA3.out.frozen 7
  have g8 := HP3.out.cell 8 _ rfl
  have a8 := HA3.out.cell 8 _ rfl
  have z8 := HA3.out.frozen 8
  have g9 := HP3.out.cell 9 _ rfl
  have a9 := HA3.out.cell 9 _ rfl
  have z9 := HA3.out.frozen 9
  have g10 := HP3.out.cell 10 _ rfl
  have a10 := HA3.out.cell 10 _ rfl
  have z10 := HA3.out.frozen 10
  have g11 := HP3.out.cell 11 _ rfl
  have a11 := HA3.out.cell 11 _ rfl
  have z11 := HA3.out.frozen 11
  have g12 := HP3.out.cell 12 _ rfl
  have a12 := HA3.out.cell 12 _ rfl
  have z12 := HA3.out.frozen 12
  have g13 := HP3.out.cell 13 _ rfl
  have a13 := HA3.out.cell 13 _ rfl
  have z13 := HA3.out.frozen 13
  have y0 := HP3.out.frozen 1
  have y1 := HP3.out.frozen 2
  have y2 := HP3.out.frozen 3
  have y3 := HP3.out.frozen 4
  go_wp2_with fail
  have HF : Hid (Blk (setL ((((w3.setCell ⟨P, 1, none⟩ (.int .u64 ((a : Nat) : Int))).setCell ⟨P, 2, none⟩ (.int .i64 2)).setCell ⟨P, 3, none⟩ (.string t)).setCell ⟨P, 4, none⟩ (.string ⟨#[]⟩)) w.heap.size 0 [.int .i64 2, .int .u64 ((a : Nat) : Int), .int .i64 2, .string t, .string ⟨#[]⟩, .int .u64 0, .int .i64 0, .int .i64 0, .int .i64 0, .string ⟨#[]⟩, .int .i64 0, .int .i64 0, .int .i64 0, .int .u32 0]) w.heap.size 41 [.int .i64 2, .int .u64 ((a : Nat) : Int), .int .i64 2, .string t, .string ⟨#[]⟩, .int .u64 0, .int .i64 0, .int .i64 0, .int .i64 0, .string ⟨#[]⟩, .int .i64 0, .int .i64 0, .int .i64 0, .int .u32 0]) := setL_blk [.int .i64 2, .int .u64 ((a : Nat) : Int), .int .i64 2, .string t, .string ⟨#[]⟩, .int .u64 0, .int .i64 0, .int .i64 0, .int .i64 0, .string ⟨#[]⟩, .int .i64 0, .int .i64 0, .int .i64 0, .int .u32 0] _ 0 [] [.int .i64 0, .int .u64 0, .int .i64 0, .string ⟨#[]⟩, .string ⟨#[]⟩, .int .u64 0, .int .i64 0, .int .i64 0, .int .i64 0, .string ⟨#[]⟩, .int .i64 0, .int .i64 0, .int .i64 0, .int .u32 0] rfl rfl ((((HA3.out.other (p := ⟨P, 1, none⟩) (show P ≠ w.heap.size by omega) (.int .u64 ((a : Nat) : Int))).other (p := ⟨P, 2, none⟩) (show P ≠ w.heap.size by omega) (.int .i64 2)).other (p := ⟨P, 3, none⟩) (show P ≠ w.heap.size by omega) (.string t)).other (p := ⟨P, 4, none⟩) (show P ≠ w.heap.size by omega) (.string ⟨#[]⟩))
  refine bodyPost_ret (results_cell_row rfl _ _ w.heap.size 41 #[.int .i64 2, .int .u64 ((a : Nat) : Int), .int .i64 2, .string t, .string ⟨#[]⟩, .int .u64 0, .int .i64 0, .int .i64 0, .int .i64 0, .string ⟨#[]⟩, .int .i64 0, .int .i64 0, .int .i64 0, .int .u32 0] (0, 0) _ rfl HF.out Try.underlying41 rfl (by kernel_rfl)) rfl ?_
  refine ⟨rfl, ?_, ?_⟩
  · exact setL_rds (O := w.heap.size) hlt [.int .i64 2, .int .u64 ((a : Nat) : Int), .int .i64 2, .string t, .string ⟨#[]⟩, .int .u64 0, .int .i64 0, .int .i64 0, .int .i64 0, .string ⟨#[]⟩, .int .i64 0, .int .i64 0, .int .i64 0, .int .u32 0] _ 0 ((((HR3.out.setO (p := ⟨P, 1, none⟩) (show B < P by omega) (.int .u64 ((a : Nat) : Int))).setO (p := ⟨P, 2, none⟩) (show B < P by omega) (.int .i64 2)).setO (p := ⟨P, 3, none⟩) (show B < P by omega) (.string t)).setO (p := ⟨P, 4, none⟩) (show B < P by omega) (.string ⟨#[]⟩))
  · exact setL_keepO (O := w.heap.size) [.int .i64 2, .int .u64 ((a : Nat) : Int), .int .i64 2, .string t, .string ⟨#[]⟩, .int .u64 0, .int .i64 0, .int .i64 0, .int .i64 0, .string ⟨#[]⟩, .int .i64 0, .int .i64 0, .int .i64 0, .int .u32 0] _ w 0 (Nat.le_refl _) ((((HK3.out.setO (p := ⟨P, 1, none⟩) (show w.heap.size ≤ P by omega) (.int .u64 ((a : Nat) : Int))).setO (p := ⟨P, 2, none⟩) (show w.heap.size ≤ P by omega) (.int .i64 2)).setO (p := ⟨P, 3, none⟩) (show w.heap.size ≤ P by omega) (.string t)).setO (p := ⟨P, 4, none⟩) (show w.heap.size ≤ P by omega) (.string ⟨#[]⟩))
set_option maxRecDepth 100000 in
set_option maxHeartbeats 2000000 in
theorem frame_3 (B : Nat) (s : RS) (w : World) (hR : RDs w B s) (h : (rKind s).1 = 3) :
    Calls Try.prog 98 #[.pointer (some ⟨B, 0, none⟩)] w fun e w' => e = .returned (.agg (fv (prs s).1)) ∧ RDs w' B (prs s).2 ∧ KeepO B w w' := by
  rw [prs_3 h]
  obtain ⟨k, s1, e0⟩ : ∃ k s1, rKind s = (k, s1) := ⟨_, _, rfl⟩
  rw [e0] at h ⊢
  simp only at h ⊢
  subst h
  obtain ⟨⟨pl, pk, pa, pn, pkey⟩, s2, e1⟩ : ∃ y s2, rPtr s1 = (y, s2) := ⟨_, _, rfl⟩
  simp only [e1]
  simp only [fv, zr, ze]
  have E0 := hd e0
  have E1 := hd e1
  clear e0 e1
  have hlt := hR.lt
  have HR0 := hd (hR.alloc (.cells #[.int .i64 0, .int .u64 0, .int .i64 0, .string ⟨#[]⟩, .string ⟨#[]⟩, .int .u64 0, .int .i64 0, .int .i64 0, .int .i64 0, .string ⟨#[]⟩, .int .i64 0, .int .i64 0, .int .i64 0, .int .u32 0] 41))
  clear hR
  have HA0 : Hid (Blk (w.alloc (.cells #[.int .i64 0, .int .u64 0, .int .i64 0, .string ⟨#[]⟩, .string ⟨#[]⟩, .int .u64 0, .int .i64 0, .int .i64 0, .int .i64 0, .string ⟨#[]⟩, .int .i64 0, .int .i64 0, .int .i64 0, .int .u32 0] 41)) w.heap.size 41 [.int .i64 0, .int .u64 0, .int .i64 0, .string ⟨#[]⟩, .string ⟨#[]⟩, .int .u64 0, .int .i64 0, .int .i64 0, .int .i64 0, .string ⟨#[]⟩, .int .i64 0, .int .i64 0, .int .i64 0, .int .u32 0]) := Blk.new w _ _
  have HK0 : Hid (KeepO B w (w.alloc (.cells #[.int .i64 0, .int .u64 0, .int .i64 0, .string ⟨#[]⟩, .string ⟨#[]⟩, .int .u64 0, .int .i64 0, .int .i64 0, .int .i64 0, .string ⟨#[]⟩, .int .i64 0, .int .i64 0, .int .i64 0, .int .u32 0] 41))) := KeepO.alloc _ _ _
  go_enter Try.func98, Try.ntmps98
  go_wp2_with fail
  refine Calls.mono (kind_is' B s _ HR0.out) ?_
  rw [E0.out]
  simp only
  rintro e w1 ⟨rfl, hr, hk⟩
  have hs1 : w.heap.size + 1 ≤ w1.heap.size := by have := hk.size; rw [World.size_alloc] at this; exact this
  have HR1 := hd (hr.alloc (.cells #[.int .i64 3, .int .u64 0, .int .i64 0, .string ⟨#[]⟩, .string ⟨#[]⟩, .int .u64 0, .int .i64 0, .int .i64 0, .int .i64 0, .string ⟨#[]⟩, .int .i64 0, .int .i64 0, .int .i64 0, .int .u32 0] 41))
  have HA1 := hd ((HA0.out.keepO (by omega) hk).alloc (.cells #[.int .i64 3, .int .u64 0, .int .i64 0, .string ⟨#[]⟩, .string ⟨#[]⟩, .int .u64 0, .int .i64 0, .int .i64 0, .int .i64 0, .string ⟨#[]⟩, .int .i64 0, .int .i64 0, .int .i64 0, .int .u32 0] 41))
  have HK1 := hd ((HK0.out.trans hk).trans (KeepO.alloc _ _ (.cells #[.int .i64 3, .int .u64 0, .int .i64 0, .string ⟨#[]⟩, .string ⟨#[]⟩, .int .u64 0, .int .i64 0, .int .i64 0, .int .i64 0, .string ⟨#[]⟩, .int .i64 0, .int .i64 0, .int .i64 0, .int .u32 0] 41)))
  have HP1 : Hid (Blk (w1.alloc (.cells #[.int .i64 3, .int .u64 0, .int .i64 0, .string ⟨#[]⟩, .string ⟨#[]⟩, .int .u64 0, .int .i64 0, .int .i64 0, .int .i64 0, .string ⟨#[]⟩, .int .i64 0, .int .i64 0, .int .i64 0, .int .u32 0] 41)) w1.heap.size 41 [.int .i64 3, .int .u64 0, .int .i64 0, .string ⟨#[]⟩, .string ⟨#[]⟩, .int .u64 0, .int .i64 0, .int .i64 0, .int .i64 0, .string ⟨#[]⟩, .int .i64 0, .int .i64 0, .int .i64 0, .int .u32 0]) := Blk.new w1 _ _
  clear hr hk HR0 HA0 HK0
  obtain ⟨P, hP⟩ : ∃ P, P = w1.heap.size := ⟨_, rfl⟩
  have HPP := hd hP
  rw [← hP] at HP1 hs1
  generalize hW : w1.alloc (.cells #[.int .i64 3, .int .u64 0, .int .i64 0, .string ⟨#[]⟩, .string ⟨#[]⟩, .int .u64 0, .int .i64 0, .int .i64 0, .int .i64 0, .string ⟨#[]⟩, .int .i64 0, .int .i64 0, .int .i64 0, .int .u32 0] 41) = W1 at HR1 HA1 HK1 HP1
  have HW := hd hW
  have k0 : W1.cell? ⟨P, 0, none⟩ = some (.int .i64 3) := HP1.out.cell 0 _ rfl
  clear hP hW
  go_wp2_with fail
  rw [HW.out, ← HPP.out]
  refine Calls.mono (ptr_is B s1 _ HR1.out) ?_
  rw [E1.out]
  simp only
  rintro e w2 ⟨rfl, hr, hk⟩
  have HR2 := hd hr
  have HA2 := hd (HA1.out.keepO (by omega) hk)
  have HP2 := hd (HP1.out.keepO (by omega) hk)
  have HK2 := hd (HK1.out.trans hk)
  clear hr hk HR1 HA1 HP1 HK1 k0
  have g0 := HP2.out.cell 0 _ rfl
  have a0 := HA2.out.cell 0 _ rfl
  have z0 := HA2.out.frozen 0
  have g1 := HP2.out.cell 1 _ rfl
  have a1 := HA2.out.cell 1 _ rfl
  have z1 := HA2.out.frozen 1
  have g2 := HP2.out.cell 2 _ rfl
  have a2 := HA2.out.cell 2 _ rfl
  have z2 := HA2.out.frozen 2
  have g3 := HP2.out.cell 3 _ rfl
  have a3 := HA2.out.cell 3 _ rfl
  have z3 := HA2.out.frozen 3
  have g4 := HP2.out.cell 4 _ rfl
  have a4 := HA2.out.cell 4 _ rfl
  have z4 := HA2.out.frozen 4
  have g5 := HP2.out.cell 5 _ rfl
  have a5 := HA2.out.cell 5 _ rfl
  have z5 := HA2.out.frozen 5
  have g6 := HP2.out.cell 6 _ rfl
  have a6 := HA2.out.cell 6 _ rfl
  have z6 := HA2.out.frozen 6
  have g7 := HP2.out.cell 7 _ rfl
  have a7 := HA2.out.cell 7 _ rfl
  have z7 := HA2.out.frozen 7
  have g8 := HP2.out.cell 8 _ rfl
  have a8 := HA2.out.cell 8 _ rfl
  have z8 := HA2.out.frozen 8
  have g9 := HP2.out.cell 9 _ rfl
  have a9 := HA2.out.cell 9 _ rfl
  have z9 := HA2.out.frozen 9
  have g10 := HP2.out.cell 10 _ rfl
  have a10 := HA2.out.cell 10 _ rfl
  have z10 := HA2.out.frozen 10
  have g11 := HP2.out.cell 11 _ rfl
  have a11 := HA2.out.cell 11 _ rfl
  have z11 := HA2.out.frozen 11
  have g12 := HP2.out.cell 12 _ rfl
  have a12 := HA2.out.cell 12 _ rfl
  have z12 := HA2.out.frozen 12
  have g13 := HP2.out.cell 13 _ rfl
  have a13 := HA2.out.cell 13 _ rfl
  have z13 := HA2.out.frozen 13
  have y0 := HP2.out.frozen 5
  have y1 := HP2.out.frozen 6
  have y2 := HP2.out.frozen 7
  have y3 := HP2.out.frozen 8
  have y4 := HP2.out.frozen 9
  go_wp2_with fail
  have HF : Hid (Blk (setL (((((w2.setCell ⟨P, 5, none⟩ (.int .u64 ((pl : Nat) : Int))).setCell ⟨P, 6, none⟩ (.int .i64 pk)).setCell ⟨P, 7, none⟩ (.int .i64 pa)).setCell ⟨P, 8, none⟩ (.int .i64 pn)).setCell ⟨P, 9, none⟩ (.string pkey)) w.heap.size 0 [.int .i64 3, .int .u64 0, .int .i64 0, .string ⟨#[]⟩, .string ⟨#[]⟩, .int .u64 ((pl : Nat) : Int), .int .i64 pk, .int .i64 pa, .int .i64 pn, .string pkey, .int .i64 0, .int .i64 0, .int .i64 0, .int .u32 0]) w.heap.size 41 [.int .i64 3, .int .u64 0, .int .i64 0, .string ⟨#[]⟩, .string ⟨#[]⟩, .int .u64 ((pl : Nat) : Int), .int .i64 pk, .int .i64 pa, .int .i64 pn, .string pkey, .int .i64 0, .int .i64 0, .int .i64 0, .int .u32 0]) := setL_blk [.int .i64 3, .int .u64 0, .int .i64 0, .string ⟨#[]⟩, .string ⟨#[]⟩, .int .u64 ((pl : Nat) : Int), .int .i64 pk, .int .i64 pa, .int .i64 pn, .string pkey, .int .i64 0, .int .i64 0, .int .i64 0, .int .u32 0] _ 0 [] [.int .i64 0, .int .u64 0, .int .i64 0, .string ⟨#[]⟩, .string ⟨#[]⟩, .int .u64 0, .int .i64 0, .int .i64 0, .int .i64 0, .string ⟨#[]⟩, .int .i64 0, .int .i64 0, .int .i64 0, .int .u32 0] rfl rfl (((((HA2.out.other (p := ⟨P, 5, none⟩) (show P ≠ w.heap.size by omega) (.int .u64 ((pl : Nat) : Int))).other (p := ⟨P, 6, none⟩) (show P ≠ w.heap.size by omega) (.int .i64 pk)).other (p := ⟨P, 7, none⟩) (show P ≠ w.heap.size by omega) (.int .i64 pa)).other (p := ⟨P, 8, none⟩) (show P ≠ w.heap.size by omega) (.int .i64 pn)).other (p := ⟨P, 9, none⟩) (show P ≠ w.heap.size by omega) (.string pkey))
  refine bodyPost_ret (results_cell_row rfl _ _ w.heap.size 41 #[.int .i64 3, .int .u64 0, .int .i64 0, .string ⟨#[]⟩, .string ⟨#[]⟩, .int .u64 ((pl : Nat) : Int), .int .i64 pk, .int .i64 pa, .int .i64 pn, .string pkey, .int .i64 0, .int .i64 0, .int .i64 0, .int .u32 0] (0, 0) _ rfl HF.out Try.underlying41 rfl (by kernel_rfl)) rfl ?_
  refine ⟨rfl, ?_, ?_⟩
  · exact setL_rds (O := w.heap.size) hlt [.int .i64 3, .int .u64 0, .int .i64 0, .string ⟨#[]⟩, .string ⟨#[]⟩, .int .u64 ((pl : Nat) : Int), .int .i64 pk, .int .i64 pa, .int .i64 pn, .string pkey, .int .i64 0, .int .i64 0, .int .i64 0, .int .u32 0] _ 0 (((((HR2.out.setO (p := ⟨P, 5, none⟩) (show B < P by omega) (.int .u64 ((pl : Nat) : Int))).setO (p := ⟨P, 6, none⟩) (show B < P by omega) (.int .i64 pk)).setO (p := ⟨P, 7, none⟩) (show B < P by omega) (.int .i64 pa)).setO (p := ⟨P, 8, none⟩) (show B < P by omega) (.int .i64 pn)).setO (p := ⟨P, 9, none⟩) (show B < P by omega) (.string pkey))
  · exact setL_keepO (O := w.heap.size) [.int .i64 3, .int .u64 0, .int .i64 0, .string ⟨#[]⟩, .string ⟨#[]⟩, .int .u64 ((pl : Nat) : Int), .int .i64 pk, .int .i64 pa, .int .i64 pn, .string pkey, .int .i64 0, .int .i64 0, .int .i64 0, .int .u32 0] _ w 0 (Nat.le_refl _) (((((HK2.out.setO (p := ⟨P, 5, none⟩) (show w.heap.size ≤ P by omega) (.int .u64 ((pl : Nat) : Int))).setO (p := ⟨P, 6, none⟩) (show w.heap.size ≤ P by omega) (.int .i64 pk)).setO (p := ⟨P, 7, none⟩) (show w.heap.size ≤ P by omega) (.int .i64 pa)).setO (p := ⟨P, 8, none⟩) (show w.heap.size ≤ P by omega) (.int .i64 pn)).setO (p := ⟨P, 9, none⟩) (show w.heap.size ≤ P by omega) (.string pkey))
set_option maxRecDepth 100000 in
set_option maxHeartbeats 2000000 in
theorem frame_4 (B : Nat) (s : RS) (w : World) (hR : RDs w B s) (h : (rKind s).1 = 4) :
    Calls Try.prog 98 #[.pointer (some ⟨B, 0, none⟩)] w fun e w' => e = .returned (.agg (fv (prs s).1)) ∧ RDs w' B (prs s).2 ∧ KeepO B w w' := by
  rw [prs_4 h]
  obtain ⟨k, s1, e0⟩ : ∃ k s1, rKind s = (k, s1) := ⟨_, _, rfl⟩
  rw [e0] at h ⊢
  simp only at h ⊢
  subst h
  obtain ⟨⟨ec, eb, ef, es⟩, s2, e1⟩ : ∃ y s2, rEdg s1 = (y, s2) := ⟨_, _, rfl⟩
  simp only [e1]
  simp only [fv, zr, zp]
  have E0 := hd e0
  have E1 := hd e1
  clear e0 e1
  have hlt := hR.lt
  have HR0 := hd (hR.alloc (.cells #[.int .i64 0, .int .u64 0, .int .i64 0, .string ⟨#[]⟩, .string ⟨#[]⟩, .int .u64 0, .int .i64 0, .int .i64 0, .int .i64 0, .string ⟨#[]⟩, .int .i64 0, .int .i64 0, .int .i64 0, .int .u32 0] 41))
  clear hR
  have HA0 : Hid (Blk (w.alloc (.cells #[.int .i64 0, .int .u64 0, .int .i64 0, .string ⟨#[]⟩, .string ⟨#[]⟩, .int .u64 0, .int .i64 0, .int .i64 0, .int .i64 0, .string ⟨#[]⟩, .int .i64 0, .int .i64 0, .int .i64 0, .int .u32 0] 41)) w.heap.size 41 [.int .i64 0, .int .u64 0, .int .i64 0, .string ⟨#[]⟩, .string ⟨#[]⟩, .int .u64 0, .int .i64 0, .int .i64 0, .int .i64 0, .string ⟨#[]⟩, .int .i64 0, .int .i64 0, .int .i64 0, .int .u32 0]) := Blk.new w _ _
  have HK0 : Hid (KeepO B w (w.alloc (.cells #[.int .i64 0, .int .u64 0, .int .i64 0, .string ⟨#[]⟩, .string ⟨#[]⟩, .int .u64 0, .int .i64 0, .int .i64 0, .int .i64 0, .string ⟨#[]⟩, .int .i64 0, .int .i64 0, .int .i64 0, .int .u32 0] 41))) := KeepO.alloc _ _ _
  go_enter Try.func98, Try.ntmps98
  go_wp2_with fail
  refine Calls.mono (kind_is' B s _ HR0.out) ?_
  rw [E0.out]
  simp only
  rintro e w1 ⟨rfl, hr, hk⟩
  have hs1 : w.heap.size + 1 ≤ w1.heap.size := by have := hk.size; rw [World.size_alloc] at this; exact this
  have HR1 := hd (hr.alloc (.cells #[.int .i64 4, .int .u64 0, .int .i64 0, .string ⟨#[]⟩, .string ⟨#[]⟩, .int .u64 0, .int .i64 0, .int .i64 0, .int .i64 0, .string ⟨#[]⟩, .int .i64 0, .int .i64 0, .int .i64 0, .int .u32 0] 41))
  have HA1 := hd ((HA0.out.keepO (by omega) hk).alloc (.cells #[.int .i64 4, .int .u64 0, .int .i64 0, .string ⟨#[]⟩, .string ⟨#[]⟩, .int .u64 0, .int .i64 0, .int .i64 0, .int .i64 0, .string ⟨#[]⟩, .int .i64 0, .int .i64 0, .int .i64 0, .int .u32 0] 41))
  have HK1 := hd ((HK0.out.trans hk).trans (KeepO.alloc _ _ (.cells #[.int .i64 4, .int .u64 0, .int .i64 0, .string ⟨#[]⟩, .string ⟨#[]⟩, .int .u64 0, .int .i64 0, .int .i64 0, .int .i64 0, .string ⟨#[]⟩, .int .i64 0, .int .i64 0, .int .i64 0, .int .u32 0] 41)))
  have HP1 : Hid (Blk (w1.alloc (.cells #[.int .i64 4, .int .u64 0, .int .i64 0, .string ⟨#[]⟩, .string ⟨#[]⟩, .int .u64 0, .int .i64 0, .int .i64 0, .int .i64 0, .string ⟨#[]⟩, .int .i64 0, .int .i64 0, .int .i64 0, .int .u32 0] 41)) w1.heap.size 41 [.int .i64 4, .int .u64 0, .int .i64 0, .string ⟨#[]⟩, .string ⟨#[]⟩, .int .u64 0, .int .i64 0, .int .i64 0, .int .i64 0, .string ⟨#[]⟩, .int .i64 0, .int .i64 0, .int .i64 0, .int .u32 0]) := Blk.new w1 _ _
  clear hr hk HR0 HA0 HK0
  obtain ⟨P, hP⟩ : ∃ P, P = w1.heap.size := ⟨_, rfl⟩
  have HPP := hd hP
  rw [← hP] at HP1 hs1
  generalize hW : w1.alloc (.cells #[.int .i64 4, .int .u64 0, .int .i64 0, .string ⟨#[]⟩, .string ⟨#[]⟩, .int .u64 0, .int .i64 0, .int .i64 0, .int .i64 0, .string ⟨#[]⟩, .int .i64 0, .int .i64 0, .int .i64 0, .int .u32 0] 41) = W1 at HR1 HA1 HK1 HP1
  have HW := hd hW
  have k0 : W1.cell? ⟨P, 0, none⟩ = some (.int .i64 4) := HP1.out.cell 0 _ rfl
  clear hP hW
  go_wp2_with fail
  rw [HW.out, ← HPP.out]
  refine Calls.mono (edg_is B s1 _ HR1.out) ?_
  rw [E1.out]
  simp only
  rintro e w2 ⟨rfl, hr, hk⟩
  have HR2 := hd hr
  have HA2 := hd (HA1.out.keepO (by omega) hk)
  have HP2 := hd (HP1.out.keepO (by omega) hk)
  have HK2 := hd (HK1.out.trans hk)
  clear hr hk HR1 HA1 HP1 HK1 k0
  have g0 := HP2.out.cell 0 _ rfl
  have a0 := HA2.out.cell 0 _ rfl
  have z0 := HA2.out.frozen 0
  have g1 := HP2.out.cell 1 _ rfl
  have a1 := HA2.out.cell 1 _ rfl
  have z1 := HA2.out.frozen 1
  have g2 := HP2.out.cell 2 _ rfl
  have a2 := HA2.out.cell 2 _ rfl
  have z2 := HA2.out.frozen 2
  have g3 := HP2.out.cell 3 _ rfl
  have a3 := HA2.out.cell 3 _ rfl
  have z3 := HA2.out.frozen 3
  have g4 := HP2.out.cell 4 _ rfl
  have a4 := HA2.out.cell 4 _ rfl
  have z4 := HA2.out.frozen 4
  have g5 := HP2.out.cell 5 _ rfl
  have a5 := HA2.out.cell 5 _ rfl
  have z5 := HA2.out.frozen 5
  have g6 := HP2.out.cell 6 _ rfl
  have a6 := HA2.out.cell 6 _ rfl
  have z6 := HA2.out.frozen 6
  have g7 := HP2.out.cell 7 _ rfl
  have a7 := HA2.out.cell 7 _ rfl
  have z7 := HA2.out.frozen 7
  have g8 := HP2.out.cell 8 _ rfl
  have a8 := HA2.out.cell 8 _ rfl
  have z8 := HA2.out.frozen 8
  have g9 := HP2.out.cell 9 _ rfl
  have a9 := HA2.out.cell 9 _ rfl
  have z9 := HA2.out.frozen 9
  have g10 := HP2.out.cell 10 _ rfl
  have a10 := HA2.out.cell 10 _ rfl
  have z10 := HA2.out.frozen 10
  have g11 := HP2.out.cell 11 _ rfl
  have a11 := HA2.out.cell 11 _ rfl
  have z11 := HA2.out.frozen 11
  have g12 := HP2.out.cell 12 _ rfl
  have a12 := HA2.out.cell 12 _ rfl
  have z12 := HA2.out.frozen 12
  have g13 := HP2.out.cell 13 _ rfl
  have a13 := HA2.out.cell 13 _ rfl
  have z13 := HA2.out.frozen 13
  have y0 := HP2.out.frozen 10
  have y1 := HP2.out.frozen 11
  have y2 := HP2.out.frozen 12
  have y3 := HP2.out.frozen 13
  go_wp2_with fail
  have HF : Hid (Blk (setL ((((w2.setCell ⟨P, 10, none⟩ (.int .i64 ec)).setCell ⟨P, 11, none⟩ (.int .i64 eb)).setCell ⟨P, 12, none⟩ (.int .i64 ef)).setCell ⟨P, 13, none⟩ (.int .u32 ((es : Nat) : Int))) w.heap.size 0 [.int .i64 4, .int .u64 0, .int .i64 0, .string ⟨#[]⟩, .string ⟨#[]⟩, .int .u64 0, .int .i64 0, .int .i64 0, .int .i64 0, .string ⟨#[]⟩, .int .i64 ec, .int .i64 eb, .int .i64 ef, .int .u32 ((es : Nat) : Int)]) w.heap.size 41 [.int .i64 4, .int .u64 0, .int .i64 0, .string ⟨#[]⟩, .string ⟨#[]⟩, .int .u64 0, .int .i64 0, .int .i64 0, .int .i64 0, .string ⟨#[]⟩, .int .i64 ec, .int .i64 eb, .int .i64 ef, .int .u32 ((es : Nat) : Int)]) := setL_blk [.int .i64 4, .int .u64 0, .int .i64 0, .string ⟨#[]⟩, .string ⟨#[]⟩, .int .u64 0, .int .i64 0, .int .i64 0, .int .i64 0, .string ⟨#[]⟩, .int .i64 ec, .int .i64 eb, .int .i64 ef, .int .u32 ((es : Nat) : Int)] _ 0 [] [.int .i64 0, .int .u64 0, .int .i64 0, .string ⟨#[]⟩, .string ⟨#[]⟩, .int .u64 0, .int .i64 0, .int .i64 0, .int .i64 0, .string ⟨#[]⟩, .int .i64 0, .int .i64 0, .int .i64 0, .int .u32 0] rfl rfl ((((HA2.out.other (p := ⟨P, 10, none⟩) (show P ≠ w.heap.size by omega) (.int .i64 ec)).other (p := ⟨P, 11, none⟩) (show P ≠ w.heap.size by omega) (.int .i64 eb)).other (p := ⟨P, 12, none⟩) (show P ≠ w.heap.size by omega) (.int .i64 ef)).other (p := ⟨P, 13, none⟩) (show P ≠ w.heap.size by omega) (.int .u32 ((es : Nat) : Int)))
  refine bodyPost_ret (results_cell_row rfl _ _ w.heap.size 41 #[.int .i64 4, .int .u64 0, .int .i64 0, .string ⟨#[]⟩, .string ⟨#[]⟩, .int .u64 0, .int .i64 0, .int .i64 0, .int .i64 0, .string ⟨#[]⟩, .int .i64 ec, .int .i64 eb, .int .i64 ef, .int .u32 ((es : Nat) : Int)] (0, 0) _ rfl HF.out Try.underlying41 rfl (by kernel_rfl)) rfl ?_
  refine ⟨rfl, ?_, ?_⟩
  · exact setL_rds (O := w.heap.size) hlt [.int .i64 4, .int .u64 0, .int .i64 0, .string ⟨#[]⟩, .string ⟨#[]⟩, .int .u64 0, .int .i64 0, .int .i64 0, .int .i64 0, .string ⟨#[]⟩, .int .i64 ec, .int .i64 eb, .int .i64 ef, .int .u32 ((es : Nat) : Int)] _ 0 ((((HR2.out.setO (p := ⟨P, 10, none⟩) (show B < P by omega) (.int .i64 ec)).setO (p := ⟨P, 11, none⟩) (show B < P by omega) (.int .i64 eb)).setO (p := ⟨P, 12, none⟩) (show B < P by omega) (.int .i64 ef)).setO (p := ⟨P, 13, none⟩) (show B < P by omega) (.int .u32 ((es : Nat) : Int)))
  · exact setL_keepO (O := w.heap.size) [.int .i64 4, .int .u64 0, .int .i64 0, .string ⟨#[]⟩, .string ⟨#[]⟩, .int .u64 0, .int .i64 0, .int .i64 0, .int .i64 0, .string ⟨#[]⟩, .int .i64 ec, .int .i64 eb, .int .i64 ef, .int .u32 ((es : Nat) : Int)] _ w 0 (Nat.le_refl _) ((((HK2.out.setO (p := ⟨P, 10, none⟩) (show w.heap.size ≤ P by omega) (.int .i64 ec)).setO (p := ⟨P, 11, none⟩) (show w.heap.size ≤ P by omega) (.int .i64 eb)).setO (p := ⟨P, 12, none⟩) (show w.heap.size ≤ P by omega) (.int .i64 ef)).setO (p := ⟨P, 13, none⟩) (show w.heap.size ≤ P by omega) (.int .u32 ((es : Nat) : Int)))
set_option maxRecDepth 100000 in
set_option maxHeartbeats 2000000 in
theorem frame_5 (B : Nat) (s : RS) (w : World) (hR : RDs w B s) (h1 : (rKind s).1 ≠ 1) (h2 : (rKind s).1 ≠ 2) (h3 : (rKind s).1 ≠ 3) (h4 : (rKind s).1 ≠ 4) :
    Calls Try.prog 98 #[.pointer (some ⟨B, 0, none⟩)] w fun e w' => e = .returned (.agg (fv (prs s).1)) ∧ RDs w' B (prs s).2 ∧ KeepO B w w' := by
  rw [prs_5 h1 h2 h3 h4]
  obtain ⟨k, s1, e0⟩ : ∃ k s1, rKind s = (k, s1) := ⟨_, _, rfl⟩
  rw [e0] at h1 h2 h3 h4 ⊢
  simp only at h1 h2 h3 h4 ⊢
  have q1 : ((k : Int) == 1) = false := by simp; omega
  have q2 : ((k : Int) == 2) = false := by simp; omega
  have q3 : ((k : Int) == 3) = false := by simp; omega
  have q4 : ((k : Int) == 4) = false := by simp; omega
  simp only [fv, zr, zp, ze]
  have E0 := hd e0
  clear e0
  have hlt := hR.lt
  have HR0 := hd (hR.alloc (.cells #[.int .i64 0, .int .u64 0, .int .i64 0, .string ⟨#[]⟩, .string ⟨#[]⟩, .int .u64 0, .int .i64 0, .int .i64 0, .int .i64 0, .string ⟨#[]⟩, .int .i64 0, .int .i64 0, .int .i64 0, .int .u32 0] 41))
  clear hR
  have HA0 : Hid (Blk (w.alloc (.cells #[.int .i64 0, .int .u64 0, .int .i64 0, .string ⟨#[]⟩, .string ⟨#[]⟩, .int .u64 0, .int .i64 0, .int .i64 0, .int .i64 0, .string ⟨#[]⟩, .int .i64 0, .int .i64 0, .int .i64 0, .int .u32 0] 41)) w.heap.size 41 [.int .i64 0, .int .u64 0, .int .i64 0, .string ⟨#[]⟩, .string ⟨#[]⟩, .int .u64 0, .int .i64 0, .int .i64 0, .int .i64 0, .string ⟨#[]⟩, .int .i64 0, .int .i64 0, .int .i64 0, .int .u32 0]) := Blk.new w _ _
  have HK0 : Hid (KeepO B w (w.alloc (.cells #[.int .i64 0, .int .u64 0, .int .i64 0, .string ⟨#[]⟩, .string ⟨#[]⟩, .int .u64 0, .int .i64 0, .int .i64 0, .int .i64 0, .string ⟨#[]⟩, .int .i64 0, .int .i64 0, .int .i64 0, .int .u32 0] 41))) := KeepO.alloc _ _ _
  go_enter Try.func98, Try.ntmps98
  go_wp2_with fail
  refine Calls.mono (kind_is' B s _ HR0.out) ?_
  rw [E0.out]
  simp only
  rintro e w1 ⟨rfl, hr, hk⟩
  have hs1 : w.heap.size + 1 ≤ w1.heap.size := by have := hk.size; rw [World.size_alloc] at this; exact this
  have HR1 := hd (hr.alloc (.cells #[.int .i64 (k : Int), .int .u64 0, .int .i64 0, .string ⟨#[]⟩, .string ⟨#[]⟩, .int .u64 0, .int .i64 0, .int .i64 0, .int .i64 0, .string ⟨#[]⟩, .int .i64 0, .int .i64 0, .int .i64 0, .int .u32 0] 41))
  have HA1 := hd ((HA0.out.keepO (by omega) hk).alloc (.cells #[.int .i64 (k : Int), .int .u64 0, .int .i64 0, .string ⟨#[]⟩, .string ⟨#[]⟩, .int .u64 0, .int .i64 0, .int .i64 0, .int .i64 0, .string ⟨#[]⟩, .int .i64 0, .int .i64 0, .int .i64 0, .int .u32 0] 41))
  have HK1 := hd ((HK0.out.trans hk).trans (KeepO.alloc _ _ (.cells #[.int .i64 (k : Int), .int .u64 0, .int .i64 0, .string ⟨#[]⟩, .string ⟨#[]⟩, .int .u64 0, .int .i64 0, .int .i64 0, .int .i64 0, .string ⟨#[]⟩, .int .i64 0, .int .i64 0, .int .i64 0, .int .u32 0] 41)))
  have HP1 : Hid (Blk (w1.alloc (.cells #[.int .i64 (k : Int), .int .u64 0, .int .i64 0, .string ⟨#[]⟩, .string ⟨#[]⟩, .int .u64 0, .int .i64 0, .int .i64 0, .int .i64 0, .string ⟨#[]⟩, .int .i64 0, .int .i64 0, .int .i64 0, .int .u32 0] 41)) w1.heap.size 41 [.int .i64 (k : Int), .int .u64 0, .int .i64 0, .string ⟨#[]⟩, .string ⟨#[]⟩, .int .u64 0, .int .i64 0, .int .i64 0, .int .i64 0, .string ⟨#[]⟩, .int .i64 0, .int .i64 0, .int .i64 0, .int .u32 0]) := Blk.new w1 _ _
  clear hr hk HR0 HA0 HK0
  obtain ⟨P, hP⟩ : ∃ P, P = w1.heap.size := ⟨_, rfl⟩
  clear hP
  have g0 := HP1.out.cell 0 _ rfl
  have a0 := HA1.out.cell 0 _ rfl
  have z0 := HA1.out.frozen 0
  have g1 := HP1.out.cell 1 _ rfl
  have a1 := HA1.out.cell 1 _ rfl
  have z1 := HA1.out.frozen 1
  have g2 := HP1.out.cell 2 _ rfl
  have a2 := HA1.out.cell 2 _ rfl
  have z2 := HA1.out.frozen 2
  have g3 := HP1.out.cell 3 _ rfl
  have a3 := HA1.out.cell 3 _ rfl
  have z3 := HA1.out.frozen 3
  have g4 := HP1.out.cell 4 _ rfl
  have a4 := HA1.out.cell 4 _ rfl
  have z4 := HA1.out.frozen 4
  have g5 := HP1.out.cell 5 _ rfl
  have a5 := HA1.out.cell 5 _ rfl
  have z5 := HA1.out.frozen 5
  have g6 := HP1.out.cell 6 _ rfl
  have a6 := HA1.out.cell 6 _ rfl
  have z6 := HA1.out.frozen 6
  have g7 := HP1.out.cell 7 _ rfl
  have a7 := HA1.out.cell 7 _ rfl
  have z7 := HA1.out.frozen 7
  have g8 := HP1.out.cell 8 _ rfl
  have a8 := HA1.out.cell 8 _ rfl
  have z8 := HA1.out.frozen 8
  have g9 := HP1.out.cell 9 _ rfl
  have a9 := HA1.out.cell 9 _ rfl
  have z9 := HA1.out.frozen 9
  have g10 := HP1.out.cell 10 _ rfl
  have a10 := HA1.out.cell 10 _ rfl
  have z10 := HA1.out.frozen 10
  have g11 := HP1.out.cell 11 _ rfl
  have a11 := HA1.out.cell 11 _ rfl
  have z11 := HA1.out.frozen 11
  have g12 := HP1.out.cell 12 _ rfl
  have a12 := HA1.out.cell 12 _ rfl
  have z12 := HA1.out.frozen 12
  have g13 := HP1.out.cell 13 _ rfl
  have a13 := HA1.out.cell 13 _ rfl
  have z13 := HA1.out.frozen 13
  go_wp2_with fail
  have HF : Hid (Blk (setL (w1.alloc (.cells #[.int .i64 (k : Int), .int .u64 0, .int .i64 0, .string ⟨#[]⟩, .string ⟨#[]⟩, .int .u64 0, .int .i64 0, .int .i64 0, .int .i64 0, .string ⟨#[]⟩, .int .i64 0, .int .i64 0, .int .i64 0, .int .u32 0] 41)) w.heap.size 0 [.int .i64 (k : Int), .int .u64 0, .int .i64 0, .string ⟨#[]⟩, .string ⟨#[]⟩, .int .u64 0, .int .i64 0, .int .i64 0, .int .i64 0, .string ⟨#[]⟩, .int .i64 0, .int .i64 0, .int .i64 0, .int .u32 0]) w.heap.size 41 [.int .i64 (k : Int), .int .u64 0, .int .i64 0, .string ⟨#[]⟩, .string ⟨#[]⟩, .int .u64 0, .int .i64 0, .int .i64 0, .int .i64 0, .string ⟨#[]⟩, .int .i64 0, .int .i64 0, .int .i64 0, .int .u32 0]) := setL_blk [.int .i64 (k : Int), .int .u64 0, .int .i64 0, .string ⟨#[]⟩, .string ⟨#[]⟩, .int .u64 0, .int .i64 0, .int .i64 0, .int .i64 0, .string ⟨#[]⟩, .int .i64 0, .int .i64 0, .int .i64 0, .int .u32 0] _ 0 [] [.int .i64 0, .int .u64 0, .int .i64 0, .string ⟨#[]⟩, .string ⟨#[]⟩, .int .u64 0, .int .i64 0, .int .i64 0, .int .i64 0, .string ⟨#[]⟩, .int .i64 0, .int .i64 0, .int .i64 0, .int .u32 0] rfl rfl HA1.out
  refine bodyPost_ret (results_cell_row rfl _ _ w.heap.size 41 #[.int .i64 (k : Int), .int .u64 0, .int .i64 0, .string ⟨#[]⟩, .string ⟨#[]⟩, .int .u64 0, .int .i64 0, .int .i64 0, .int .i64 0, .string ⟨#[]⟩, .int .i64 0, .int .i64 0, .int .i64 0, .int .u32 0] (0, 0) _ rfl HF.out Try.underlying41 rfl (by kernel_rfl)) rfl ?_
  refine ⟨rfl, ?_, ?_⟩
  · exact setL_rds (O := w.heap.size) hlt [.int .i64 (k : Int), .int .u64 0, .int .i64 0, .string ⟨#[]⟩, .string ⟨#[]⟩, .int .u64 0, .int .i64 0, .int .i64 0, .int .i64 0, .string ⟨#[]⟩, .int .i64 0, .int .i64 0, .int .i64 0, .int .u32 0] _ 0 HR1.out
  · exact setL_keepO (O := w.heap.size) [.int .i64 (k : Int), .int .u64 0, .int .i64 0, .string ⟨#[]⟩, .string ⟨#[]⟩, .int .u64 0, .int .i64 0, .int .i64 0, .int .i64 0, .string ⟨#[]⟩, .int .i64 0, .int .i64 0, .int .i64 0, .int .u32 0] _ w 0 (Nat.le_refl _) HK1.out
theorem frame_is (B : Nat) (s : RS) (w : World) (hR : RDs w B s) :
    Calls Try.prog 98 #[.pointer (some ⟨B, 0, none⟩)] w fun e w' => e = .returned (.agg (fv (prs s).1)) ∧ RDs w' B (prs s).2 ∧ KeepO B w w' := by
  by_cases c1 : (rKind s).1 = 1
  · exact frame_1 B s w hR c1
  · by_cases c2 : (rKind s).1 = 2
    · exact frame_2 B s w hR c2
    · by_cases c3 : (rKind s).1 = 3
      · exact frame_3 B s w hR c3
      · by_cases c4 : (rKind s).1 = 4
        · exact frame_4 B s w hR c4
        · exact frame_5 B s w hR c1 c2 c3 c4
end Vt
end Go.Proofs.Ytlddogigbodilaa
namespace Go.Proofs.Ytlddogigbodilaa
open Go.RowKit
namespace Vt
theorem low7' (m : Nat) : bits .andNot .u8 ((m : Int) % 256) 128 = ((m % 128 : Nat) : Int) := by
  rw [show (m : Int) % 256 = ((m % 256 : Nat) : Int) by omega, low7 _ (by omega), Nat.mod_mod_of_dvd _ (by decide)]
theorem dg_step (c j n : Nat) (h : j < c) : (List.replicate (c - j) 0 ++ dg j n).set (c - 1 - j) (n / 128 ^ j % 128) = List.replicate (c - (j + 1)) 0 ++ dg (j + 1) n := by
  obtain ⟨r, hr⟩ : ∃ r, c = r + j + 1 := ⟨c - j - 1, by omega⟩
  subst hr
  rw [show r + j + 1 - j = r + 1 by omega, show r + j + 1 - 1 - j = r by omega, show r + j + 1 - (j + 1) = r by omega]
  rw [List.replicate_succ', List.append_assoc, List.set_append_right _ _ (by simp)]
  simp [dg]
/-- Digits where the count may not be. -/
theorem digits_arg (n : Nat) (c : Int) (w : World) (h : c < 1 ∨ 9 < c) :
    Calls Try.prog 85 #[.int .u64 (n : Int), .int .i64 c] w fun e w' => e = .returned (.tuple #[.slice none 0 0, .int .i64 20]) ∧ w' = w := by
  by_cases h1 : c < 1
  · go_enter Try.func85, Try.ntmps85
    go_wp2
    go_ret2
    exact ⟨rfl, rfl⟩
  · have h2 : 9 < c := by omega
    go_enter Try.func85, Try.ntmps85
    go_wp2
    go_ret2
    exact ⟨rfl, rfl⟩
set_option maxRecDepth 100000 in
set_option maxHeartbeats 400000 in
theorem digits_many (n c : Nat) (w : World) (h1 : 1 ≤ c) (h9 : c ≤ 9) (hn : n < 18446744073709551616) (h : 128 ^ c ≤ n) :
    Calls Try.prog 85 #[.int .u64 (n : Int), .int .i64 (c : Int)] w fun e w' => e = .returned (.tuple #[.slice none 0 0, .int .i64 24]) ∧ w' = w := by
  have hbl := (bl_digits (c := c) hn).2 h
  have hb2 := bl_le hn
  go_enter Try.func85, Try.ntmps85
  go_wp2_with fail
  refine Calls.mono (len64_is n w hn) ?_
  rintro e w' ⟨rfl, rfl⟩
  generalize Lib.bitLen n = z at *
  clear h
  go_wp2
  go_ret2
  exact ⟨rfl, rfl⟩
set_option maxRecDepth 100000 in
set_option maxHeartbeats 400000 in
theorem digits_ok (n c : Nat) (w : World) (h1 : 1 ≤ c) (h9 : c ≤ 9) (hn : n < 18446744073709551616) (h : n < 128 ^ c) :
    Calls Try.prog 85 #[.int .u64 (n : Int), .int .i64 (c : Int)] w fun e w' => e = .returned (.tuple #[.slice (some ⟨w.heap.size, 0, none⟩) c c, .int .i64 0]) ∧ JB w' w.heap.size (.slice (some ⟨w.heap.size, 0, none⟩) c c) (dg c n) ∧ Below w.heap.size w w' := by
  have hbl : Lib.bitLen n ≤ 7 * c := by
    rcases Nat.lt_or_ge (7 * c) (Lib.bitLen n) with h2 | h2
    · have := (bl_digits (c := c) hn).1 h2; omega
    · exact h2
  have hb2 := bl_le hn
  obtain ⟨i0, hi, hz0, hz1, hz2⟩ := info_parts info_u8
  have HN := hd h
  clear h
  go_enter Try.func85, Try.ntmps85
  go_wp2_with fail
  refine Calls.mono (len64_is n w hn) ?_
  rintro e w' ⟨rfl, rfl⟩
  generalize Lib.bitLen n = z at *
  go_wp2_with (at_make; refine wpList_make_full _ rfl _ _ 22 rfl w'.heap.size 5 i0 (.int .u8 0) 1 Try.underlying22 hi hz0 hz1 .i64 .i64 (c : Int) (c : Int) c rfl rfl rfl rfl (by rw [hz2]; omega) (by unfold maxLen; omega) (Nat.le_refl _) ?_; intro w1 hown hgrow)
  have HB1 : Hid (Below w'.heap.size w' w1) := (Below.refl _ _).grown hgrow (Nat.le_refl _) (fun k hk => by cases hk)
  have HO1 : Hid (JB w1 w'.heap.size (.slice (some ⟨w'.heap.size, 0, none⟩) c c) (List.replicate c 0)) := by
    refine ⟨by intro x hx; have := List.eq_of_mem_replicate hx; omega, ?_⟩
    rw [made8] at hown; rw [List.length_replicate]; exact hown
  clear hown hgrow
  go_loopw [0, 7] (fun y i wr => ∃ j : Nat, j ≤ c ∧ i = .int .i64 ((c : Int) - 1 - (j : Int)) ∧ y = .int .u64 ((n / 128 ^ j : Nat) : Int) ∧ JB wr w'.heap.size (.slice (some ⟨w'.heap.size, 0, none⟩) c c) (List.replicate (c - j) 0 ++ dg j n) ∧ Below w'.heap.size w' wr) (fun _ i _ => (intOf i + 1).toNat)
  case atStart => exact ⟨0, by omega, by simp, by simp, by simpa [dg] using HO1.out, HB1.out⟩
  case round =>
    obtain ⟨j, hj, rfl, rfl, hO, hB⟩ := hrel
    have HO := hd hO
    have HB := hd hB
    clear hO hB HO1 HB1
    by_cases hlt : j < c
    · obtain ⟨p, hp⟩ : ∃ p : Nat, p = c - 1 - j := ⟨_, rfl⟩
      have hpi : (c : Int) - 1 - (j : Int) = (p : Int) := by omega
      have hpc : p < c := by omega
      have hll : c = (List.replicate (c - j) 0 ++ dg j n).length := by rw [List.length_append, List.length_replicate, dg_len]; omega
      have hcell := HO.out.buf.cell (j := p) (by omega)
      have hfro := HO.out.buf.2.2.2.2.2 p (by omega)
      have HO2 := hd (HO.out.set (j := p) (y := n / 128 ^ j % 128) hll (by omega))
      have HS := hd (dg_step c j n hlt)
      rw [← hp] at HS
      rw [HS.out] at HO2
      have hqe : n / 128 ^ (j + 1) = n / 128 ^ j / 128 := by rw [Nat.pow_succ, Nat.div_div_eq_div_mul]
      have HQE := hd hqe
      have HLL := hd hll
      generalize hq : n / 128 ^ j = q at *
      have hq2 : q < 18446744073709551616 := by have := Nat.div_le_self n (128 ^ j); omega
      rw [hpi]
      have HP := hd hp
      have HLT := hd hlt
      have HPI := hd hpi
      clear hlt hp hpi hq hj hqe hll
      go_wp2_with fail
      rw [low7' q]
      go_roundw
      case rel =>
        refine ⟨j + 1, HLT.out, ?_, by rw [HQE.out]; rfl, HO2.out, HB.out.setCell (Nat.le_refl _) _⟩
        have := HPI.out
        congr 1
        omega
      case measure => simp [intOf]
    · obtain rfl : j = c := by omega
      have hpi : (j : Int) - 1 - (j : Int) = -1 := by omega
      rw [hpi]
      rw [Nat.sub_self] at HO
      go_wp2
      go_ret2
      exact ⟨rfl, HO.out, HB.out⟩
theorem or_digit {n x : Nat} (hn : n < 72057594037927936) (hx : x < 128) : bits .or .u64 ((n : Int) * 128) (x : Int) = ((n * 128 + x : Nat) : Int) := by
  rw [show (n : Int) * 128 = ((n * 128 : Nat) : Int) by omega, u64_or_nat _ _ (by omega) (by omega)]
  congr 1
  rw [show n * 128 = 2 ^ 7 * n by omega, ← Nat.two_pow_add_eq_or_of_lt (by omega)]
set_option maxRecDepth 100000 in
theorem number_arg (v : Value) (c : Int) (w : World) (h : c < 1 ∨ 9 < c) :
    Calls Try.prog 81 #[v, .int .i64 c] w fun e w' => e = .returned (.tuple #[.int .u64 0, .int .i64 20]) ∧ w' = w := by
  by_cases h1 : c < 1
  · go_enter Try.func81, Try.ntmps81
    go_wp2
    go_ret2
    exact ⟨rfl, rfl⟩
  · have h2 : 9 < c := by omega
    go_enter Try.func81, Try.ntmps81
    go_wp2
    go_ret2
    exact ⟨rfl, rfl⟩
set_option maxRecDepth 100000 in
theorem number_short (a : Option Addr) (n cap c : Nat) (w : World) (h1 : 1 ≤ c) (h9 : c ≤ 9) (h : n < c) :
    Calls Try.prog 81 #[.slice a n cap, .int .i64 (c : Int)] w fun e w' => e = .returned (.tuple #[.int .u64 0, .int .i64 21]) ∧ w' = w := by
  go_enter Try.func81, Try.ntmps81
  go_wp2
  go_ret2
  exact ⟨rfl, rfl⟩
/-- what Number answers of as many bytes as are wanted -/
def numAns (l : List Nat) (c : Nat) : Value := .tuple (if ∀ x ∈ l.take c, x < 128 then #[.int .u64 ((nm (l.take c) : Nat) : Int), .int .i64 0] else #[.int .u64 0, .int .i64 24])
theorem numAns_ok {l : List Nat} {c : Nat} (h : ∀ x ∈ l.take c, x < 128) : numAns l c = .tuple #[.int .u64 ((nm (l.take c) : Nat) : Int), .int .i64 0] := by unfold numAns; rw [if_pos h]
theorem numAns_bad {l : List Nat} {c : Nat} (h : ¬ ∀ x ∈ l.take c, x < 128) : numAns l c = .tuple #[.int .u64 0, .int .i64 24] := by unfold numAns; rw [if_neg h]
set_option maxRecDepth 100000 in
set_option maxHeartbeats 400000 in
theorem number_row (b off cap c : Nat) (l : List Nat) (w : World) (hb : Byt l) (hr : Row w b off l) (hlc : l.length ≤ cap) (h1 : 1 ≤ c) (h9 : c ≤ 9) (h : c ≤ l.length) :
    Calls Try.prog 81 #[.slice (some ⟨b, off, none⟩) l.length cap, .int .i64 (c : Int)] w fun e w' => e = .returned (numAns l c) ∧ w' = w := by
  have HR := hd hr
  have HB := hd hb
  clear hr hb
  go_enter Try.func81, Try.ntmps81
  go_wp2_with fail
  go_loop [6, 23] (fun s i => ∃ k : Nat, k ≤ c ∧ i = .int .i64 (k : Int) ∧ s = .int .u64 ((nm (l.take k) : Nat) : Int) ∧ ∀ x ∈ l.take k, x < 128) (fun _ i => c - (intOf i).toNat)
  case atStart => exact ⟨0, by omega, rfl, rfl, by intro x hx; simp at hx⟩
  case round =>
    obtain ⟨k, hk, rfl, rfl, he⟩ := hrel
    have hnm := nm_lt he
    rw [List.length_take, show min k l.length = k by omega] at hnm
    have HE := hd he
    clear he
    by_cases hlt : k < c
    · have hc := HR.out k (by omega)
      have hx := getD_lt HB.out k
      have HT := hd (take_succ_getD (show k < l.length by omega))
      obtain ⟨x, hxe⟩ : ∃ x, x = l.getD k 0 := ⟨_, rfl⟩
      rw [← hxe] at hc hx HT
      clear hxe
      have HS := hd (nm_snoc (l.take k) x)
      rw [← HT.out] at HS
      have hb8 : nm (l.take k) < 72057594037927936 := by
        have : 128 ^ k ≤ 128 ^ 8 := Nat.pow_le_pow_right (by omega) (by omega)
        have e : (128 : Nat) ^ 8 = 72057594037927936 := by decide
        omega
      generalize nm (l.take k) = n at *
      clear hnm
      by_cases h128 : x < 128
      · have HV := hd (or_digit (n := n) (x := x) hb8 h128)
        have HE2 : Hid (∀ y ∈ l.take (k + 1), y < 128) := by
          show ∀ y ∈ l.take (k + 1), y < 128
          rw [HT.out]
          intro y hy
          rcases List.mem_append.1 hy with hy | hy
          · exact HE.out y hy
          · simp at hy; omega
        go_wp2_with fail
        go_round
        case rel => exact ⟨k + 1, by omega, by go_num, by rw [HV.out, HS.out], HE2.out⟩
        case measure => simp [intOf]; omega
      · have HNE : Hid (¬ ∀ y ∈ l.take c, y < 128) := by
          intro hall
          have hmem : x ∈ l.take c := by
            have : l.take (k + 1) <+: l.take c := List.take_prefix_take_left (by omega)
            refine this.subset ?_
            rw [HT.out]; simp
          exact h128 (hall x hmem)
        go_wp2_with fail
        go_ret2
        exact ⟨by rw [numAns_bad HNE.out]; rfl, rfl⟩
    · have hkc : k = c := by omega
      rw [hkc] at HE
      have HA := hd (numAns_ok HE.out)
      rw [← hkc] at HA
      have hle : ¬ ((k : Nat) : Int) < (c : Int) := by omega
      have HKC := hd hkc
      generalize nm (l.take k) = n at *
      clear hkc hk hnm hlt
      go_wp2_with fail
      go_ret2
      exact ⟨by rw [← HKC.out, HA.out]; rfl, rfl⟩
theorem number_is (v : Value) (c : Nat) (l : List Nat) (w : World) (hI : IsB w v l) (h1 : 1 ≤ c) (h9 : c ≤ 9) (h : c ≤ l.length) :
    Calls Try.prog 81 #[v, .int .i64 (c : Int)] w fun e w' => e = .returned (numAns l c) ∧ w' = w := by
  obtain ⟨hb, _, ⟨rfl, a, c', rfl⟩ | ⟨b, off, c', rfl, h3, h4, _, hr⟩⟩ := hI
  · simp at h; omega
  · exact number_row b off c' c l w hb hr h3 h1 h9 h
/-- what Number answers, at every count -/
def numAll (l : List Nat) (c : Int) : Value := if c < 1 ∨ 9 < c then .tuple #[.int .u64 0, .int .i64 20] else if (l.length : Int) < c then .tuple #[.int .u64 0, .int .i64 21] else numAns l c.toNat
theorem number_all (v : Value) (c : Int) (l : List Nat) (w : World) (hI : IsB w v l) :
    Calls Try.prog 81 #[v, .int .i64 c] w fun e w' => e = .returned (numAll l c) ∧ w' = w := by
  unfold numAll
  by_cases h : c < 1 ∨ 9 < c
  · rw [if_pos h]; exact number_arg v c w h
  · rw [if_neg h]
    obtain ⟨d, rfl⟩ : ∃ d : Nat, c = (d : Int) := ⟨c.toNat, by omega⟩
    by_cases h2 : (l.length : Int) < (d : Int)
    · rw [if_pos h2]
      obtain ⟨a, k, rfl⟩ := hI.shape
      exact number_short a _ k d w (by omega) (by omega) (by omega)
    · rw [if_neg h2, Int.toNat_natCast]
      exact number_is v d l w hI (by omega) (by omega) (by omega)
end Vt
end Go.Proofs.Ytlddogigbodilaa
