/-
  THE READER OF A BODY (frame.reader): frame: what 'prs' says.
-/
import Derived.Test.YtnjhbidialngmaaXhae
import Derived.Test.YtnjhbidialngmaaXhac
namespace Go.Proofs.Ytnjhbidialngmaa
open Go.RowKit
namespace Vt
set_option maxRecDepth 100000 in
set_option maxHeartbeats 2000000 in
theorem frame_1 (B : Nat) (s : RS) (w : World) (hR : RDs w B s) (h : (rKind s).1 = 1) :
    Calls Try.prog 70 #[.pointer (some ⟨B, 0, none⟩)] w fun e w' => e = .returned (.agg (fv (prs s).1)) ∧ RDs w' B (prs s).2 ∧ KeepO B w w' := by
  rw [prs_1 h]
  obtain ⟨k, s1, e0⟩ : ∃ k s1, rKind s = (k, s1) := ⟨_, _, rfl⟩
  rw [e0] at h ⊢
  simp only at h ⊢
  subst h
  obtain ⟨a, s2, e1⟩ : ∃ y s2, rNum 18446744073709551615 s1 = (y, s2) := ⟨_, _, rfl⟩
  have b1 : a ≤ 18446744073709551615 := by have := rNum_le 18446744073709551615 s1; rw [e1] at this; exact this
  obtain ⟨c, s3, e2⟩ : ∃ y s3, rNum 64 s2 = (y, s3) := ⟨_, _, rfl⟩
  have b2 : c ≤ 64 := by have := rNum_le 64 s2; rw [e2] at this; exact this
  obtain ⟨t, s4, e3⟩ : ∃ y s4, rText c s3 = (y, s4) := ⟨_, _, rfl⟩
  obtain ⟨v, s5, e4⟩ : ∃ y s5, rRest s4 = (y, s5) := ⟨_, _, rfl⟩
  unfold rPut; simp only [e1, e2, e3, e4]
  simp only [fv, zp, ze]
  have E0 := hd e0
  have E1 := hd e1
  have E2 := hd e2
  have E3 := hd e3
  have E4 := hd e4
  clear e0 e1 e2 e3 e4
  have hlt := hR.lt
  have HR0 := hd (hR.alloc (.cells #[.int .i64 0, .int .u64 0, .int .i64 0, .string ⟨#[]⟩, .string ⟨#[]⟩, .int .u64 0, .int .i64 0, .int .i64 0, .int .i64 0, .string ⟨#[]⟩, .int .i64 0, .int .i64 0, .int .i64 0, .int .u32 0] 34))
  clear hR
  have HA0 : Hid (Blk (w.alloc (.cells #[.int .i64 0, .int .u64 0, .int .i64 0, .string ⟨#[]⟩, .string ⟨#[]⟩, .int .u64 0, .int .i64 0, .int .i64 0, .int .i64 0, .string ⟨#[]⟩, .int .i64 0, .int .i64 0, .int .i64 0, .int .u32 0] 34)) w.heap.size 34 [.int .i64 0, .int .u64 0, .int .i64 0, .string ⟨#[]⟩, .string ⟨#[]⟩, .int .u64 0, .int .i64 0, .int .i64 0, .int .i64 0, .string ⟨#[]⟩, .int .i64 0, .int .i64 0, .int .i64 0, .int .u32 0]) := Blk.new w _ _
  have HK0 : Hid (KeepO B w (w.alloc (.cells #[.int .i64 0, .int .u64 0, .int .i64 0, .string ⟨#[]⟩, .string ⟨#[]⟩, .int .u64 0, .int .i64 0, .int .i64 0, .int .i64 0, .string ⟨#[]⟩, .int .i64 0, .int .i64 0, .int .i64 0, .int .u32 0] 34))) := KeepO.alloc _ _ _
  go_enter Try.func70, Try.ntmps70
  go_wp2_with fail
  refine Calls.mono (kind_is' B s _ HR0.out) ?_
  rw [E0.out]
  simp only
  rintro e w1 ⟨rfl, hr, hk⟩
  have hs1 : w.heap.size + 1 ≤ w1.heap.size := by have := hk.size; rw [World.size_alloc] at this; exact this
  have HR1 := hd (hr.alloc (.cells #[.int .i64 1, .int .u64 0, .int .i64 0, .string ⟨#[]⟩, .string ⟨#[]⟩, .int .u64 0, .int .i64 0, .int .i64 0, .int .i64 0, .string ⟨#[]⟩, .int .i64 0, .int .i64 0, .int .i64 0, .int .u32 0] 34))
  have HA1 := hd ((HA0.out.keepO (by omega) hk).alloc (.cells #[.int .i64 1, .int .u64 0, .int .i64 0, .string ⟨#[]⟩, .string ⟨#[]⟩, .int .u64 0, .int .i64 0, .int .i64 0, .int .i64 0, .string ⟨#[]⟩, .int .i64 0, .int .i64 0, .int .i64 0, .int .u32 0] 34))
  have HK1 := hd ((HK0.out.trans hk).trans (KeepO.alloc _ _ (.cells #[.int .i64 1, .int .u64 0, .int .i64 0, .string ⟨#[]⟩, .string ⟨#[]⟩, .int .u64 0, .int .i64 0, .int .i64 0, .int .i64 0, .string ⟨#[]⟩, .int .i64 0, .int .i64 0, .int .i64 0, .int .u32 0] 34)))
  have HP1 : Hid (Blk (w1.alloc (.cells #[.int .i64 1, .int .u64 0, .int .i64 0, .string ⟨#[]⟩, .string ⟨#[]⟩, .int .u64 0, .int .i64 0, .int .i64 0, .int .i64 0, .string ⟨#[]⟩, .int .i64 0, .int .i64 0, .int .i64 0, .int .u32 0] 34)) w1.heap.size 34 [.int .i64 1, .int .u64 0, .int .i64 0, .string ⟨#[]⟩, .string ⟨#[]⟩, .int .u64 0, .int .i64 0, .int .i64 0, .int .i64 0, .string ⟨#[]⟩, .int .i64 0, .int .i64 0, .int .i64 0, .int .u32 0]) := Blk.new w1 _ _
  clear hr hk HR0 HA0 HK0
  obtain ⟨P, hP⟩ : ∃ P, P = w1.heap.size := ⟨_, rfl⟩
  have HPP := hd hP
  rw [← hP] at HP1 hs1
  generalize hW : w1.alloc (.cells #[.int .i64 1, .int .u64 0, .int .i64 0, .string ⟨#[]⟩, .string ⟨#[]⟩, .int .u64 0, .int .i64 0, .int .i64 0, .int .i64 0, .string ⟨#[]⟩, .int .i64 0, .int .i64 0, .int .i64 0, .int .u32 0] 34) = W1 at HR1 HA1 HK1 HP1
  have HW := hd hW
  have k0 : W1.cell? ⟨P, 0, none⟩ = some (.int .i64 1) := HP1.out.cell 0 _ rfl
  clear hP hW
  go_wp2_with fail
  rw [HW.out, ← HPP.out]
  refine Calls.mono (number_is' B 18446744073709551615 s1 _ HR1.out) ?_
  rw [E1.out]
  simp only
  rintro e w2 ⟨rfl, hr, hk⟩
  have HR2 := hd hr
  have HA2 := hd (HA1.out.keepO (by omega) hk)
  have HP2 := hd (HP1.out.keepO (by omega) hk)
  have HK2 := hd (HK1.out.trans hk)
  clear hr hk HR1 HA1 HP1 HK1 k0
  go_wp2_with fail
  refine Calls.mono (number_is' B 64 s2 _ HR2.out) ?_
  rw [E2.out]
  simp only
  rintro e w3 ⟨rfl, hr, hk⟩
  have HR3 := hd hr
  have HA3 := hd (HA2.out.keepO (by omega) hk)
  have HP3 := hd (HP2.out.keepO (by omega) hk)
  have HK3 := hd (HK2.out.trans hk)
  clear hr hk HR2 HA2 HP2 HK2
  go_wp2_with fail
  refine Calls.mono (text_is' B c s3 _ HR3.out (by omega)) ?_
  rw [E3.out]
  simp only
  rintro e w4 ⟨rfl, hr, hk⟩
  have HR4 := hd hr
  have HA4 := hd (HA3.out.keepO (by omega) hk)
  have HP4 := hd (HP3.out.keepO (by omega) hk)
  have HK4 := hd (HK3.out.trans hk)
  clear hr hk HR3 HA3 HP3 HK3
  go_wp2_with fail
  refine Calls.mono (rest_is' B s4 _ HR4.out) ?_
  rw [E4.out]
  simp only
  rintro e w5 ⟨rfl, hr, hk⟩
  have HR5 := hd hr
  have HA5 := hd (HA4.out.keepO (by omega) hk)
  have HP5 := hd (HP4.out.keepO (by omega) hk)
  have HK5 := hd (HK4.out.trans hk)
  clear hr hk HR4 HA4 HP4 HK4
  have g0 := HP5.out.cell 0 _ rfl
  have a0 := HA5.out.cell 0 _ rfl
  have z0 := HA5.out.frozen 0
  have g1 := HP5.out.cell 1 _ rfl
  have a1 := HA5.out.cell 1 _ rfl
  have z1 := HA5.out.frozen 1
  have g2 := HP5.out.cell 2 _ rfl
  have a2 := HA5.out.cell 2 _ rfl
  have z2 := HA5.out.frozen 2
  have g3 := HP5.out.cell 3 _ rfl
  have a3 := HA5.out.cell 3 _ rfl
  have z3 := HA5.out.frozen 3
  have g4 := HP5.out.cell 4 _ rfl
  have a4 := HA5.out.cell 4 _ rfl
  have z4 := HA5.out.frozen 4
  have g5 := HP5.out.cell 5 _ rfl
  have a5 := HA5.out.cell 5 _ rfl
  have z5 := HA5.out.frozen 5
  have g6 := HP5.out.cell 6 _ rfl
  have a6 := HA5.out.cell 6 _ rfl
  have z6 := HA5.out.frozen 6
  have g7 := HP5.out.cell 7 _ rfl
  have a7 := HA5.out.cell 7 _ rfl
  have z7 := HA5.out.frozen 7
  have g8 := HP5.out.cell 8 _ rfl
  have a8 := HA5.out.cell 8 _ rfl
  have z8 := HA5.out.frozen 8
  have g9 := HP5.out.cell 9 _ rfl
  have a9 := HA5.out.cell 9 _ rfl
  have z9 := HA5.out.frozen 9
  have g10 := HP5.out.cell 10 _ rfl
  have a10 := HA5.out.cell 10 _ rfl
  have z10 := HA5.out.frozen 10
  have g11 := HP5.out.cell 11 _ rfl
  have a11 := HA5.out.cell 11 _ rfl
  have z11 := HA5.out.frozen 11
  have g12 := HP5.out.cell 12 _ rfl
  have a12 := HA5.out.cell 12 _ rfl
  have z12 := HA5.out.frozen 12
  have g13 := HP5.out.cell 13 _ rfl
  have a13 := HA5.out.cell 13 _ rfl
  have z13 := HA5.out.frozen 13
  have y0 := HP5.out.frozen 1
  have y1 := HP5.out.frozen 2
  have y2 := HP5.out.frozen 3
  have y3 := HP5.out.frozen 4
  go_wp2_with fail
  have HF : Hid (Blk (setL ((((w5.setCell ⟨P, 1, none⟩ (.int .u64 ((a : Nat) : Int))).setCell ⟨P, 2, none⟩ (.int .i64 1)).setCell ⟨P, 3, none⟩ (.string t)).setCell ⟨P, 4, none⟩ (.string v)) w.heap.size 0 [.int .i64 1, .int .u64 ((a : Nat) : Int), .int .i64 1, .string t, .string v, .int .u64 0, .int .i64 0, .int .i64 0, .int .i64 0, .string ⟨#[]⟩, .int .i64 0, .int .i64 0, .int .i64 0, .int .u32 0]) w.heap.size 34 [.int .i64 1, .int .u64 ((a : Nat) : Int), .int .i64 1, .string t, .string v, .int .u64 0, .int .i64 0, .int .i64 0, .int .i64 0, .string ⟨#[]⟩, .int .i64 0, .int .i64 0, .int .i64 0, .int .u32 0]) := setL_blk [.int .i64 1, .int .u64 ((a : Nat) : Int), .int .i64 1, .string t, .string v, .int .u64 0, .int .i64 0, .int .i64 0, .int .i64 0, .string ⟨#[]⟩, .int .i64 0, .int .i64 0, .int .i64 0, .int .u32 0] _ 0 [] [.int .i64 0, .int .u64 0, .int .i64 0, .string ⟨#[]⟩, .string ⟨#[]⟩, .int .u64 0, .int .i64 0, .int .i64 0, .int .i64 0, .string ⟨#[]⟩, .int .i64 0, .int .i64 0, .int .i64 0, .int .u32 0] rfl rfl ((((HA5.out.other (p := ⟨P, 1, none⟩) (show P ≠ w.heap.size by omega) (.int .u64 ((a : Nat) : Int))).other (p := ⟨P, 2, none⟩) (show P ≠ w.heap.size by omega) (.int .i64 1)).other (p := ⟨P, 3, none⟩) (show P ≠ w.heap.size by omega) (.string t)).other (p := ⟨P, 4, none⟩) (show P ≠ w.heap.size by omega) (.string v))
  refine bodyPost_ret (results_cell_row rfl _ _ w.heap.size 34 #[.int .i64 1, .int .u64 ((a : Nat) : Int), .int .i64 1, .string t, .string v, .int .u64 0, .int .i64 0, .int .i64 0, .int .i64 0, .string ⟨#[]⟩, .int .i64 0, .int .i64 0, .int .i64 0, .int .u32 0] (0, 0) _ rfl HF.out Try.underlying34 rfl (by kernel_rfl)) rfl ?_
  refine ⟨rfl, ?_, ?_⟩
  · exact setL_rds (O := w.heap.size) hlt [.int .i64 1, .int .u64 ((a : Nat) : Int), .int .i64 1, .string t, .string v, .int .u64 0, .int .i64 0, .int .i64 0, .int .i64 0, .string ⟨#[]⟩, .int .i64 0, .int .i64 0, .int .i64 0, .int .u32 0] _ 0 ((((HR5.out.setO (p := ⟨P, 1, none⟩) (show B < P by omega) (.int .u64 ((a : Nat) : Int))).setO (p := ⟨P, 2, none⟩) (show B < P by omega) (.int .i64 1)).setO (p := ⟨P, 3, none⟩) (show B < P by omega) (.string t)).setO (p := ⟨P, 4, none⟩) (show B < P by omega) (.string v))
  · exact setL_keepO (O := w.heap.size) [.int .i64 1, .int .u64 ((a : Nat) : Int), .int .i64 1, .string t, .string v, .int .u64 0, .int .i64 0, .int .i64 0, .int .i64 0, .string ⟨#[]⟩, .int .i64 0, .int .i64 0, .int .i64 0, .int .u32 0] _ w 0 (Nat.le_refl _) ((((HK5.out.setO (p := ⟨P, 1, none⟩) (show w.heap.size ≤ P by omega) (.int .u64 ((a : Nat) : Int))).setO (p := ⟨P, 2, none⟩) (show w.heap.size ≤ P by omega) (.int .i64 1)).setO (p := ⟨P, 3, none⟩) (show w.heap.size ≤ P by omega) (.string t)).setO (p := ⟨P, 4, none⟩) (show w.heap.size ≤ P by omega) (.string v))
set_option maxRecDepth 100000 in
set_option maxHeartbeats 2000000 in
theorem frame_2 (B : Nat) (s : RS) (w : World) (hR : RDs w B s) (h : (rKind s).1 = 2) :
    Calls Try.prog 70 #[.pointer (some ⟨B, 0, none⟩)] w fun e w' => e = .returned (.agg (fv (prs s).1)) ∧ RDs w' B (prs s).2 ∧ KeepO B w w' := by
  rw [prs_2 h]
  obtain ⟨k, s1, e0⟩ : ∃ k s1, rKind s = (k, s1) := ⟨_, _, rfl⟩
  rw [e0] at h ⊢
  simp only at h ⊢
  subst h
  obtain ⟨a, s2, e1⟩ : ∃ y s2, rNum 18446744073709551615 s1 = (y, s2) := ⟨_, _, rfl⟩
  have b1 : a ≤ 18446744073709551615 := by have := rNum_le 18446744073709551615 s1; rw [e1] at this; exact this
  obtain ⟨t, s3, e2⟩ : ∃ y s3, rRest s2 = (y, s3) := ⟨_, _, rfl⟩
  unfold rDel; simp only [e1, e2]
  simp only [fv, zp, ze]
  have E0 := hd e0
  have E1 := hd e1
  have E2 := hd e2
  clear e0 e1 e2
  have hlt := hR.lt
  have HR0 := hd (hR.alloc (.cells #[.int .i64 0, .int .u64 0, .int .i64 0, .string ⟨#[]⟩, .string ⟨#[]⟩, .int .u64 0, .int .i64 0, .int .i64 0, .int .i64 0, .string ⟨#[]⟩, .int .i64 0, .int .i64 0, .int .i64 0, .int .u32 0] 34))
  clear hR
  have HA0 : Hid (Blk (w.alloc (.cells #[.int .i64 0, .int .u64 0, .int .i64 0, .string ⟨#[]⟩, .string ⟨#[]⟩, .int .u64 0, .int .i64 0, .int .i64 0, .int .i64 0, .string ⟨#[]⟩, .int .i64 0, .int .i64 0, .int .i64 0, .int .u32 0] 34)) w.heap.size 34 [.int .i64 0, .int .u64 0, .int .i64 0, .string ⟨#[]⟩, .string ⟨#[]⟩, .int .u64 0, .int .i64 0, .int .i64 0, .int .i64 0, .string ⟨#[]⟩, .int .i64 0, .int .i64 0, .int .i64 0, .int .u32 0]) := Blk.new w _ _
  have HK0 : Hid (KeepO B w (w.alloc (.cells #[.int .i64 0, .int .u64 0, .int .i64 0, .string ⟨#[]⟩, .string ⟨#[]⟩, .int .u64 0, .int .i64 0, .int .i64 0, .int .i64 0, .string ⟨#[]⟩, .int .i64 0, .int .i64 0, .int .i64 0, .int .u32 0] 34))) := KeepO.alloc _ _ _
  go_enter Try.func70, Try.ntmps70
  go_wp2_with fail
  refine Calls.mono (kind_is' B s _ HR0.out) ?_
  rw [E0.out]
  simp only
  rintro e w1 ⟨rfl, hr, hk⟩
  have hs1 : w.heap.size + 1 ≤ w1.heap.size := by have := hk.size; rw [World.size_alloc] at this; exact this
  have HR1 := hd (hr.alloc (.cells #[.int .i64 2, .int .u64 0, .int .i64 0, .string ⟨#[]⟩, .string ⟨#[]⟩, .int .u64 0, .int .i64 0, .int .i64 0, .int .i64 0, .string ⟨#[]⟩, .int .i64 0, .int .i64 0, .int .i64 0, .int .u32 0] 34))
  have HA1 := hd ((HA0.out.keepO (by omega) hk).alloc (.cells #[.int .i64 2, .int .u64 0, .int .i64 0, .string ⟨#[]⟩, .string ⟨#[]⟩, .int .u64 0, .int .i64 0, .int .i64 0, .int .i64 0, .string ⟨#[]⟩, .int .i64 0, .int .i64 0, .int .i64 0, .int .u32 0] 34))
  have HK1 := hd ((HK0.out.trans hk).trans (KeepO.alloc _ _ (.cells #[.int .i64 2, .int .u64 0, .int .i64 0, .string ⟨#[]⟩, .string ⟨#[]⟩, .int .u64 0, .int .i64 0, .int .i64 0, .int .i64 0, .string ⟨#[]⟩, .int .i64 0, .int .i64 0, .int .i64 0, .int .u32 0] 34)))
  have HP1 : Hid (Blk (w1.alloc (.cells #[.int .i64 2, .int .u64 0, .int .i64 0, .string ⟨#[]⟩, .string ⟨#[]⟩, .int .u64 0, .int .i64 0, .int .i64 0, .int .i64 0, .string ⟨#[]⟩, .int .i64 0, .int .i64 0, .int .i64 0, .int .u32 0] 34)) w1.heap.size 34 [.int .i64 2, .int .u64 0, .int .i64 0, .string ⟨#[]⟩, .string ⟨#[]⟩, .int .u64 0, .int .i64 0, .int .i64 0, .int .i64 0, .string ⟨#[]⟩, .int .i64 0, .int .i64 0, .int .i64 0, .int .u32 0]) := Blk.new w1 _ _
  clear hr hk HR0 HA0 HK0
  obtain ⟨P, hP⟩ : ∃ P, P = w1.heap.size := ⟨_, rfl⟩
  have HPP := hd hP
  rw [← hP] at HP1 hs1
  generalize hW : w1.alloc (.cells #[.int .i64 2, .int .u64 0, .int .i64 0, .string ⟨#[]⟩, .string ⟨#[]⟩, .int .u64 0, .int .i64 0, .int .i64 0, .int .i64 0, .string ⟨#[]⟩, .int .i64 0, .int .i64 0, .int .i64 0, .int .u32 0] 34) = W1 at HR1 HA1 HK1 HP1
  have HW := hd hW
  have k0 : W1.cell? ⟨P, 0, none⟩ = some (.int .i64 2) := HP1.out.cell 0 _ rfl
  clear hP hW
  go_wp2_with fail
  rw [HW.out, ← HPP.out]
  refine Calls.mono (number_is' B 18446744073709551615 s1 _ HR1.out) ?_
  rw [E1.out]
  simp only
  rintro e w2 ⟨rfl, hr, hk⟩
  have HR2 := hd hr
  have HA2 := hd (HA1.out.keepO (by omega) hk)
  have HP2 := hd (HP1.out.keepO (by omega) hk)
  have HK2 := hd (HK1.out.trans hk)
  clear hr hk HR1 HA1 HP1 HK1 k0
  go_wp2_with fail
  refine Calls.mono (rest_is' B s2 _ HR2.out) ?_
  rw [E2.out]
  simp only
  rintro e w3 ⟨rfl, hr, hk⟩
  have HR3 := hd hr
  have HA3 := hd (HA2.out.keepO (by omega) hk)
  have HP3 := hd (HP2.out.keepO (by omega) hk)
  have HK3 := hd (HK2.out.trans hk)
  clear hr hk HR2 HA2 HP2 HK2
  have g0 := HP3.out.cell 0 _ rfl
  have a0 := HA3.out.cell 0 _ rfl
  have z0 := HA3.out.frozen 0
  have g1 := HP3.out.cell 1 _ rfl
  have a1 := HA3.out.cell 1 _ rfl
  have z1 := HA3.out.frozen 1
  have g2 := HP3.out.cell 2 _ rfl
  have a2 := HA3.out.cell 2 _ rfl
  have z2 := HA3.out.frozen 2
  have g3 := HP3.out.cell 3 _ rfl
  have a3 := HA3.out.cell 3 _ rfl
  have z3 := HA3.out.frozen 3
  have g4 := HP3.out.cell 4 _ rfl
  have a4 := HA3.out.cell 4 _ rfl
  have z4 := HA3.out.frozen 4
  have g5 := HP3.out.cell 5 _ rfl
  have a5 := HA3.out.cell 5 _ rfl
  have z5 := HA3.out.frozen 5
  have g6 := HP3.out.cell 6 _ rfl
  have a6 := HA3.out.cell 6 _ rfl
  have z6 := HA3.out.frozen 6
  have g7 := HP3.out.cell 7 _ rfl
  have a7 := HA3.out.cell 7 _ rfl
  have z7 := HA3.out.frozen 7
  have g8 := HP3.out.cell 8 _ rfl
  have a8 := HA3.out.cell 8 _ rfl
  have z8 := HA3.out.frozen 8
  have g9 := HP3.out.cell 9 _ rfl
  have a9 := HA3.out.cell 9 _ rfl
  have z9 := HA3.out.frozen 9
  have g10 := HP3.out.cell 10 _ rfl
  have a10 := HA3.out.cell 10 _ rfl
  have z10 := HA3.out.frozen 10
  have g11 := HP3.out.cell 11 _ rfl
  have a11 := HA3.out.cell 11 _ rfl
  have z11 := HA3.out.frozen 11
  have g12 := HP3.out.cell 12 _ rfl
  have a12 := HA3.out.cell 12 _ rfl
  have z12 := HA3.out.frozen 12
  have g13 := HP3.out.cell 13 _ rfl
  have a13 := HA3.out.cell 13 _ rfl
  have z13 := HA3.out.frozen 13
  have y0 := HP3.out.frozen 1
  have y1 := HP3.out.frozen 2
  have y2 := HP3.out.frozen 3
  have y3 := HP3.out.frozen 4
  go_wp2_with fail
  have HF : Hid (Blk (setL ((((w3.setCell ⟨P, 1, none⟩ (.int .u64 ((a : Nat) : Int))).setCell ⟨P, 2, none⟩ (.int .i64 2)).setCell ⟨P, 3, none⟩ (.string t)).setCell ⟨P, 4, none⟩ (.string ⟨#[]⟩)) w.heap.size 0 [.int .i64 2, .int .u64 ((a : Nat) : Int), .int .i64 2, .string t, .string ⟨#[]⟩, .int .u64 0, .int .i64 0, .int .i64 0, .int .i64 0, .string ⟨#[]⟩, .int .i64 0, .int .i64 0, .int .i64 0, .int .u32 0]) w.heap.size 34 [.int .i64 2, .int .u64 ((a : Nat) : Int), .int .i64 2, .string t, .string ⟨#[]⟩, .int .u64 0, .int .i64 0, .int .i64 0, .int .i64 0, .string ⟨#[]⟩, .int .i64 0, .int .i64 0, .int .i64 0, .int .u32 0]) := setL_blk [.int .i64 2, .int .u64 ((a : Nat) : Int), .int .i64 2, .string t, .string ⟨#[]⟩, .int .u64 0, .int .i64 0, .int .i64 0, .int .i64 0, .string ⟨#[]⟩, .int .i64 0, .int .i64 0, .int .i64 0, .int .u32 0] _ 0 [] [.int .i64 0, .int .u64 0, .int .i64 0, .string ⟨#[]⟩, .string ⟨#[]⟩, .int .u64 0, .int .i64 0, .int .i64 0, .int .i64 0, .string ⟨#[]⟩, .int .i64 0, .int .i64 0, .int .i64 0, .int .u32 0] rfl rfl ((((HA3.out.other (p := ⟨P, 1, none⟩) (show P ≠ w.heap.size by omega) (.int .u64 ((a : Nat) : Int))).other (p := ⟨P, 2, none⟩) (show P ≠ w.heap.size by omega) (.int .i64 2)).other (p := ⟨P, 3, none⟩) (show P ≠ w.heap.size by omega) (.string t)).other (p := ⟨P, 4, none⟩) (show P ≠ w.heap.size by omega) (.string ⟨#[]⟩))
  refine bodyPost_ret (results_cell_row rfl _ _ w.heap.size 34 #[.int .i64 2, .int .u64 ((a : Nat) : Int), .int .i64 2, .string t, .string ⟨#[]⟩, .int .u64 0, .int .i64 0, .int .i64 0, .int .i64 0, .string ⟨#[]⟩, .int .i64 0, .int .i64 0, .int .i64 0, .int .u32 0] (0, 0) _ rfl HF.out Try.underlying34 rfl (by kernel_rfl)) rfl ?_
  refine ⟨rfl, ?_, ?_⟩
  · exact setL_rds (O := w.heap.size) hlt [.int .i64 2, .int .u64 ((a : Nat) : Int), .int .i64 2, .string t, .string ⟨#[]⟩, .int .u64 0, .int .i64 0, .int .i64 0, .int .i64 0, .string ⟨#[]⟩, .int .i64 0, .int .i64 0, .int .i64 0, .int .u32 0] _ 0 ((((HR3.out.setO (p := ⟨P, 1, none⟩) (show B < P by omega) (.int .u64 ((a : Nat) : Int))).setO (p := ⟨P, 2, none⟩) (show B < P by omega) (.int .i64 2)).setO (p := ⟨P, 3, none⟩) (show B < P by omega) (.string t)).setO (p := ⟨P, 4, none⟩) (show B < P by omega) (.string ⟨#[]⟩))
  · exact setL_keepO (O := w.heap.size) [.int .i64 2, .int .u64 ((a : Nat) : Int), .int .i64 2, .string t, .string ⟨#[]⟩, .int .u64 0, .int .i64 0, .int .i64 0, .int .i64 0, .string ⟨#[]⟩, .int .i64 0, .int .i64 0, .int .i64 0, .int .u32 0] _ w 0 (Nat.le_refl _) ((((HK3.out.setO (p := ⟨P, 1, none⟩) (show w.heap.size ≤ P by omega) (.int .u64 ((a : Nat) : Int))).setO (p := ⟨P, 2, none⟩) (show w.heap.size ≤ P by omega) (.int .i64 2)).setO (p := ⟨P, 3, none⟩) (show w.heap.size ≤ P by omega) (.string t)).setO (p := ⟨P, 4, none⟩) (show w.heap.size ≤ P by omega) (.string ⟨#[]⟩))
set_option maxRecDepth 100000 in
set_option maxHeartbeats 2000000 in
theorem frame_3 (B : Nat) (s : RS) (w : World) (hR : RDs w B s) (h : (rKind s).1 = 3) :
    Calls Try.prog 70 #[.pointer (some ⟨B, 0, none⟩)] w fun e w' => e = .returned (.agg (fv (prs s).1)) ∧ RDs w' B (prs s).2 ∧ KeepO B w w' := by
  rw [prs_3 h]
  obtain ⟨k, s1, e0⟩ : ∃ k s1, rKind s = (k, s1) := ⟨_, _, rfl⟩
  rw [e0] at h ⊢
  simp only at h ⊢
  subst h
  obtain ⟨⟨pl, pk, pa, pn, pkey⟩, s2, e1⟩ : ∃ y s2, rPtr s1 = (y, s2) := ⟨_, _, rfl⟩
  simp only [e1]
  simp only [fv, zr, ze]
  have E0 := hd e0
  have E1 := hd e1
  clear e0 e1
  have hlt := hR.lt
  have HR0 := hd (hR.alloc (.cells #[.int .i64 0, .int .u64 0, .int .i64 0, .string ⟨#[]⟩, .string ⟨#[]⟩, .int .u64 0, .int .i64 0, .int .i64 0, .int .i64 0, .string ⟨#[]⟩, .int .i64 0, .int .i64 0, .int .i64 0, .int .u32 0] 34))
  clear hR
  have HA0 : Hid (Blk (w.alloc (.cells #[.int .i64 0, .int .u64 0, .int .i64 0, .string ⟨#[]⟩, .string ⟨#[]⟩, .int .u64 0, .int .i64 0, .int .i64 0, .int .i64 0, .string ⟨#[]⟩, .int .i64 0, .int .i64 0, .int .i64 0, .int .u32 0] 34)) w.heap.size 34 [.int .i64 0, .int .u64 0, .int .i64 0, .string ⟨#[]⟩, .string ⟨#[]⟩, .int .u64 0, .int .i64 0, .int .i64 0, .int .i64 0, .string ⟨#[]⟩, .int .i64 0, .int .i64 0, .int .i64 0, .int .u32 0]) := Blk.new w _ _
  have HK0 : Hid (KeepO B w (w.alloc (.cells #[.int .i64 0, .int .u64 0, .int .i64 0, .string ⟨#[]⟩, .string ⟨#[]⟩, .int .u64 0, .int .i64 0, .int .i64 0, .int .i64 0, .string ⟨#[]⟩, .int .i64 0, .int .i64 0, .int .i64 0, .int .u32 0] 34))) := KeepO.alloc _ _ _
  go_enter Try.func70, Try.ntmps70
  go_wp2_with fail
  refine Calls.mono (kind_is' B s _ HR0.out) ?_
  rw [E0.out]
  simp only
  rintro e w1 ⟨rfl, hr, hk⟩
  have hs1 : w.heap.size + 1 ≤ w1.heap.size := by have := hk.size; rw [World.size_alloc] at this; exact this
  have HR1 := hd (hr.alloc (.cells #[.int .i64 3, .int .u64 0, .int .i64 0, .string ⟨#[]⟩, .string ⟨#[]⟩, .int .u64 0, .int .i64 0, .int .i64 0, .int .i64 0, .string ⟨#[]⟩, .int .i64 0, .int .i64 0, .int .i64 0, .int .u32 0] 34))
  have HA1 := hd ((HA0.out.keepO (by omega) hk).alloc (.cells #[.int .i64 3, .int .u64 0, .int .i64 0, .string ⟨#[]⟩, .string ⟨#[]⟩, .int .u64 0, .int .i64 0, .int .i64 0, .int .i64 0, .string ⟨#[]⟩, .int .i64 0, .int .i64 0, .int .i64 0, .int .u32 0] 34))
  have HK1 := hd ((HK0.out.trans hk).trans (KeepO.alloc _ _ (.cells #[.int .i64 3, .int .u64 0, .int .i64 0, .string ⟨#[]⟩, .string ⟨#[]⟩, .int .u64 0, .int .i64 0, .int .i64 0, .int .i64 0, .string ⟨#[]⟩, .int .i64 0, .int .i64 0, .int .i64 0, .int .u32 0] 34)))
  have HP1 : Hid (Blk (w1.alloc (.cells #[.int .i64 3, .int .u64 0, .int .i64 0, .string ⟨#[]⟩, .string ⟨#[]⟩, .int .u64 0, .int .i64 0, .int .i64 0, .int .i64 0, .string ⟨#[]⟩, .int .i64 0, .int .i64 0, .int .i64 0, .int .u32 0] 34)) w1.heap.size 34 [.int .i64 3, .int .u64 0, .int .i64 0, .string ⟨#[]⟩, .string ⟨#[]⟩, .int .u64 0, .int .i64 0, .int .i64 0, .int .i64 0, .string ⟨#[]⟩, .int .i64 0, .int .i64 0, .int .i64 0, .int .u32 0]) := Blk.new w1 _ _
  clear hr hk HR0 HA0 HK0
  obtain ⟨P, hP⟩ : ∃ P, P = w1.heap.size := ⟨_, rfl⟩
  have HPP := hd hP
  rw [← hP] at HP1 hs1
  generalize hW : w1.alloc (.cells #[.int .i64 3, .int .u64 0, .int .i64 0, .string ⟨#[]⟩, .string ⟨#[]⟩, .int .u64 0, .int .i64 0, .int .i64 0, .int .i64 0, .string ⟨#[]⟩, .int .i64 0, .int .i64 0, .int .i64 0, .int .u32 0] 34) = W1 at HR1 HA1 HK1 HP1
  have HW := hd hW
  have k0 : W1.cell? ⟨P, 0, none⟩ = some (.int .i64 3) := HP1.out.cell 0 _ rfl
  clear hP hW
  go_wp2_with fail
  rw [HW.out, ← HPP.out]
  refine Calls.mono (ptr_is B s1 _ HR1.out) ?_
  rw [E1.out]
  simp only
  rintro e w2 ⟨rfl, hr, hk⟩
  have HR2 := hd hr
  have HA2 := hd (HA1.out.keepO (by omega) hk)
  have HP2 := hd (HP1.out.keepO (by omega) hk)
  have HK2 := hd (HK1.out.trans hk)
  clear hr hk HR1 HA1 HP1 HK1 k0
  have g0 := HP2.out.cell 0 _ rfl
  have a0 := HA2.out.cell 0 _ rfl
  have z0 := HA2.out.frozen 0
  have g1 := HP2.out.cell 1 _ rfl
  have a1 := HA2.out.cell 1 _ rfl
  have z1 := HA2.out.frozen 1
  have g2 := HP2.out.cell 2 _ rfl
  have a2 := HA2.out.cell 2 _ rfl
  have z2 := HA2.out.frozen 2
  have g3 := HP2.out.cell 3 _ rfl
  have a3 := HA2.out.cell 3 _ rfl
  have z3 := HA2.out.frozen 3
  have g4 := HP2.out.cell 4 _ rfl
  have a4 := HA2.out.cell 4 _ rfl
  have z4 := HA2.out.frozen 4
  have g5 := HP2.out.cell 5 _ rfl
  have a5 := HA2.out.cell 5 _ rfl
  have z5 := HA2.out.frozen 5
  have g6 := HP2.out.cell 6 _ rfl
  have a6 := HA2.out.cell 6 _ rfl
  have z6 := HA2.out.frozen 6
  have g7 := HP2.out.cell 7 _ rfl
  have a7 := HA2.out.cell 7 _ rfl
  have z7 := HA2.out.frozen 7
  have g8 := HP2.out.cell 8 _ rfl
  have a8 := HA2.out.cell 8 _ rfl
  have z8 := HA2.out.frozen 8
  have g9 := HP2.out.cell 9 _ rfl
  have a9 := HA2.out.cell 9 _ rfl
  have z9 := HA2.out.frozen 9
  have g10 := HP2.out.cell 10 _ rfl
  have a10 := HA2.out.cell 10 _ rfl
  have z10 := HA2.out.frozen 10
  have g11 := HP2.out.cell 11 _ rfl
  have a11 := HA2.out.cell 11 _ rfl
  have z11 := HA2.out.frozen 11
  have g12 := HP2.out.cell 12 _ rfl
  have a12 := HA2.out.cell 12 _ rfl
  have z12 := HA2.out.frozen 12
  have g13 := HP2.out.cell 13 _ rfl
  have a13 := HA2.out.cell 13 _ rfl
  have z13 := HA2.out.frozen 13
  have y0 := HP2.out.frozen 5
  have y1 := HP2.out.frozen 6
  have y2 := HP2.out.frozen 7
  have y3 := HP2.out.frozen 8
  have y4 := HP2.out.frozen 9
  go_wp2_with fail
  have HF : Hid (Blk (setL (((((w2.setCell ⟨P, 5, none⟩ (.int .u64 ((pl : Nat) : Int))).setCell ⟨P, 6, none⟩ (.int .i64 pk)).setCell ⟨P, 7, none⟩ (.int .i64 pa)).setCell ⟨P, 8, none⟩ (.int .i64 pn)).setCell ⟨P, 9, none⟩ (.string pkey)) w.heap.size 0 [.int .i64 3, .int .u64 0, .int .i64 0, .string ⟨#[]⟩, .string ⟨#[]⟩, .int .u64 ((pl : Nat) : Int), .int .i64 pk, .int .i64 pa, .int .i64 pn, .string pkey, .int .i64 0, .int .i64 0, .int .i64 0, .int .u32 0]) w.heap.size 34 [.int .i64 3, .int .u64 0, .int .i64 0, .string ⟨#[]⟩, .string ⟨#[]⟩, .int .u64 ((pl : Nat) : Int), .int .i64 pk, .int .i64 pa, .int .i64 pn, .string pkey, .int .i64 0, .int .i64 0, .int .i64 0, .int .u32 0]) := setL_blk [.int .i64 3, .int .u64 0, .int .i64 0, .string ⟨#[]⟩, .string ⟨#[]⟩, .int .u64 ((pl : Nat) : Int), .int .i64 pk, .int .i64 pa, .int .i64 pn, .string pkey, .int .i64 0, .int .i64 0, .int .i64 0, .int .u32 0] _ 0 [] [.int .i64 0, .int .u64 0, .int .i64 0, .string ⟨#[]⟩, .string ⟨#[]⟩, .int .u64 0, .int .i64 0, .int .i64 0, .int .i64 0, .string ⟨#[]⟩, .int .i64 0, .int .i64 0, .int .i64 0, .int .u32 0] rfl rfl (((((HA2.out.other (p := ⟨P, 5, none⟩) (show P ≠ w.heap.size by omega) (.int .u64 ((pl : Nat) : Int))).other (p := ⟨P, 6, none⟩) (show P ≠ w.heap.size by omega) (.int .i64 pk)).other (p := ⟨P, 7, none⟩) (show P ≠ w.heap.size by omega) (.int .i64 pa)).other (p := ⟨P, 8, none⟩) (show P ≠ w.heap.size by omega) (.int .i64 pn)).other (p := ⟨P, 9, none⟩) (show P ≠ w.heap.size by omega) (.string pkey))
  refine bodyPost_ret (results_cell_row rfl _ _ w.heap.size 34 #[.int .i64 3, .int .u64 0, .int .i64 0, .string ⟨#[]⟩, .string ⟨#[]⟩, .int .u64 ((pl : Nat) : Int), .int .i64 pk, .int .i64 pa, .int .i64 pn, .string pkey, .int .i64 0, .int .i64 0, .int .i64 0, .int .u32 0] (0, 0) _ rfl HF.out Try.underlying34 rfl (by kernel_rfl)) rfl ?_
  refine ⟨rfl, ?_, ?_⟩
  · exact setL_rds (O := w.heap.size) hlt [.int .i64 3, .int .u64 0, .int .i64 0, .string ⟨#[]⟩, .string ⟨#[]⟩, .int .u64 ((pl : Nat) : Int), .int .i64 pk, .int .i64 pa, .int .i64 pn, .string pkey, .int .i64 0, .int .i64 0, .int .i64 0, .int .u32 0] _ 0 (((((HR2.out.setO (p := ⟨P, 5, none⟩) (show B < P by omega) (.int .u64 ((pl : Nat) : Int))).setO (p := ⟨P, 6, none⟩) (show B < P by omega) (.int .i64 pk)).setO (p := ⟨P, 7, none⟩) (show B < P by omega) (.int .i64 pa)).setO (p := ⟨P, 8, none⟩) (show B < P by omega) (.int .i64 pn)).setO (p := ⟨P, 9, none⟩) (show B < P by omega) (.string pkey))
  · exact setL_keepO (O := w.heap.size) [.int .i64 3, .int .u64 0, .int .i64 0, .string ⟨#[]⟩, .string ⟨#[]⟩, .int .u64 ((pl : Nat) : Int), .int .i64 pk, .int .i64 pa, .int .i64 pn, .string pkey, .int .i64 0, .int .i64 0, .int .i64 0, .int .u32 0] _ w 0 (Nat.le_refl _) (((((HK2.out.setO (p := ⟨P, 5, none⟩) (show w.heap.size ≤ P by omega) (.int .u64 ((pl : Nat) : Int))).setO (p := ⟨P, 6, none⟩) (show w.heap.size ≤ P by omega) (.int .i64 pk)).setO (p := ⟨P, 7, none⟩) (show w.heap.size ≤ P by omega) (.int .i64 pa)).setO (p := ⟨P, 8, none⟩) (show w.heap.size ≤ P by omega) (.int .i64 pn)).setO (p := ⟨P, 9, none⟩) (show w.heap.size ≤ P by omega) (.string pkey))
set_option maxRecDepth 100000 in
set_option maxHeartbeats 2000000 in
theorem frame_4 (B : Nat) (s : RS) (w : World) (hR : RDs w B s) (h : (rKind s).1 = 4) :
    Calls Try.prog 70 #[.pointer (some ⟨B, 0, none⟩)] w fun e w' => e = .returned (.agg (fv (prs s).1)) ∧ RDs w' B (prs s).2 ∧ KeepO B w w' := by
  rw [prs_4 h]
  obtain ⟨k, s1, e0⟩ : ∃ k s1, rKind s = (k, s1) := ⟨_, _, rfl⟩
  rw [e0] at h ⊢
  simp only at h ⊢
  subst h
  obtain ⟨⟨ec, eb, ef, es⟩, s2, e1⟩ : ∃ y s2, rEdg s1 = (y, s2) := ⟨_, _, rfl⟩
  simp only [e1]
  simp only [fv, zr, zp]
  have E0 := hd e0
  have E1 := hd e1
  clear e0 e1
  have hlt := hR.lt
  have HR0 := hd (hR.alloc (.cells #[.int .i64 0, .int .u64 0, .int .i64 0, .string ⟨#[]⟩, .string ⟨#[]⟩, .int .u64 0, .int .i64 0, .int .i64 0, .int .i64 0, .string ⟨#[]⟩, .int .i64 0, .int .i64 0, .int .i64 0, .int .u32 0] 34))
  clear hR
  have HA0 : Hid (Blk (w.alloc (.cells #[.int .i64 0, .int .u64 0, .int .i64 0, .string ⟨#[]⟩, .string ⟨#[]⟩, .int .u64 0, .int .i64 0, .int .i64 0, .int .i64 0, .string ⟨#[]⟩, .int .i64 0, .int .i64 0, .int .i64 0, .int .u32 0] 34)) w.heap.size 34 [.int .i64 0, .int .u64 0, .int .i64 0, .string ⟨#[]⟩, .string ⟨#[]⟩, .int .u64 0, .int .i64 0, .int .i64 0, .int .i64 0, .string ⟨#[]⟩, .int .i64 0, .int .i64 0, .int .i64 0, .int .u32 0]) := Blk.new w _ _
  have HK0 : Hid (KeepO B w (w.alloc (.cells #[.int .i64 0, .int .u64 0, .int .i64 0, .string ⟨#[]⟩, .string ⟨#[]⟩, .int .u64 0, .int .i64 0, .int .i64 0, .int .i64 0, .string ⟨#[]⟩, .int .i64 0, .int .i64 0, .int .i64 0, .int .u32 0] 34))) := KeepO.alloc _ _ _
  go_enter Try.func70, Try.ntmps70
  go_wp2_with fail
  refine Calls.mono (kind_is' B s _ HR0.out) ?_
  rw [E0.out]
  simp only
  rintro e w1 ⟨rfl, hr, hk⟩
  have hs1 : w.heap.size + 1 ≤ w1.heap.size := by have := hk.size; rw [World.size_alloc] at this; exact this
  have HR1 := hd (hr.alloc (.cells #[.int .i64 4, .int .u64 0, .int .i64 0, .string ⟨#[]⟩, .string ⟨#[]⟩, .int .u64 0, .int .i64 0, .int .i64 0, .int .i64 0, .string ⟨#[]⟩, .int .i64 0, .int .i64 0, .int .i64 0, .int .u32 0] 34))
  have HA1 := hd ((HA0.out.keepO (by omega) hk).alloc (.cells #[.int .i64 4, .int .u64 0, .int .i64 0, .string ⟨#[]⟩, .string ⟨#[]⟩, .int .u64 0, .int .i64 0, .int .i64 0, .int .i64 0, .string ⟨#[]⟩, .int .i64 0, .int .i64 0, .int .i64 0, .int .u32 0] 34))
  have HK1 := hd ((HK0.out.trans hk).trans (KeepO.alloc _ _ (.cells #[.int .i64 4, .int .u64 0, .int .i64 0, .string ⟨#[]⟩, .string ⟨#[]⟩, .int .u64 0, .int .i64 0, .int .i64 0, .int .i64 0, .string ⟨#[]⟩, .int .i64 0, .int .i64 0, .int .i64 0, .int .u32 0] 34)))
  have HP1 : Hid (Blk (w1.alloc (.cells #[.int .i64 4, .int .u64 0, .int .i64 0, .string ⟨#[]⟩, .string ⟨#[]⟩, .int .u64 0, .int .i64 0, .int .i64 0, .int .i64 0, .string ⟨#[]⟩, .int .i64 0, .int .i64 0, .int .i64 0, .int .u32 0] 34)) w1.heap.size 34 [.int .i64 4, .int .u64 0, .int .i64 0, .string ⟨#[]⟩, .string ⟨#[]⟩, .int .u64 0, .int .i64 0, .int .i64 0, .int .i64 0, .string ⟨#[]⟩, .int .i64 0, .int .i64 0, .int .i64 0, .int .u32 0]) := Blk.new w1 _ _
  clear hr hk HR0 HA0 HK0
  obtain ⟨P, hP⟩ : ∃ P, P = w1.heap.size := ⟨_, rfl⟩
  have HPP := hd hP
  rw [← hP] at HP1 hs1
  generalize hW : w1.alloc (.cells #[.int .i64 4, .int .u64 0, .int .i64 0, .string ⟨#[]⟩, .string ⟨#[]⟩, .int .u64 0, .int .i64 0, .int .i64 0, .int .i64 0, .string ⟨#[]⟩, .int .i64 0, .int .i64 0, .int .i64 0, .int .u32 0] 34) = W1 at HR1 HA1 HK1 HP1
  have HW := hd hW
  have k0 : W1.cell? ⟨P, 0, none⟩ = some (.int .i64 4) := HP1.out.cell 0 _ rfl
  clear hP hW
  go_wp2_with fail
  rw [HW.out, ← HPP.out]
  refine Calls.mono (edg_is B s1 _ HR1.out) ?_
  rw [E1.out]
  simp only
  rintro e w2 ⟨rfl, hr, hk⟩
  have HR2 := hd hr
  have HA2 := hd (HA1.out.keepO (by omega) hk)
  have HP2 := hd (HP1.out.keepO (by omega) hk)
  have HK2 := hd (HK1.out.trans hk)
  clear hr hk HR1 HA1 HP1 HK1 k0
  have g0 := HP2.out.cell 0 _ rfl
  have a0 := HA2.out.cell 0 _ rfl
  have z0 := HA2.out.frozen 0
  have g1 := HP2.out.cell 1 _ rfl
  have a1 := HA2.out.cell 1 _ rfl
  have z1 := HA2.out.frozen 1
  have g2 := HP2.out.cell 2 _ rfl
  have a2 := HA2.out.cell 2 _ rfl
  have z2 := HA2.out.frozen 2
  have g3 := HP2.out.cell 3 _ rfl
  have a3 := HA2.out.cell 3 _ rfl
  have z3 := HA2.out.frozen 3
  have g4 := HP2.out.cell 4 _ rfl
  have a4 := HA2.out.cell 4 _ rfl
  have z4 := HA2.out.frozen 4
  have g5 := HP2.out.cell 5 _ rfl
  have a5 := HA2.out.cell 5 _ rfl
  have z5 := HA2.out.frozen 5
  have g6 := HP2.out.cell 6 _ rfl
  have a6 := HA2.out.cell 6 _ rfl
  have z6 := HA2.out.frozen 6
  have g7 := HP2.out.cell 7 _ rfl
  have a7 := HA2.out.cell 7 _ rfl
  have z7 := HA2.out.frozen 7
  have g8 := HP2.out.cell 8 _ rfl
  have a8 := HA2.out.cell 8 _ rfl
  have z8 := HA2.out.frozen 8
  have g9 := HP2.out.cell 9 _ rfl
  have a9 := HA2.out.cell 9 _ rfl
  have z9 := HA2.out.frozen 9
  have g10 := HP2.out.cell 10 _ rfl
  have a10 := HA2.out.cell 10 _ rfl
  have z10 := HA2.out.frozen 10
  have g11 := HP2.out.cell 11 _ rfl
  have a11 := HA2.out.cell 11 _ rfl
  have z11 := HA2.out.frozen 11
  have g12 := HP2.out.cell 12 _ rfl
  have a12 := HA2.out.cell 12 _ rfl
  have z12 := HA2.out.frozen 12
  have g13 := HP2.out.cell 13 _ rfl
  have a13 := HA2.out.cell 13 _ rfl
  have z13 := HA2.out.frozen 13
  have y0 := HP2.out.frozen 10
  have y1 := HP2.out.frozen 11
  have y2 := HP2.out.frozen 12
  have y3 := HP2.out.frozen 13
  go_wp2_with fail
  have HF : Hid (Blk (setL ((((w2.setCell ⟨P, 10, none⟩ (.int .i64 ec)).setCell ⟨P, 11, none⟩ (.int .i64 eb)).setCell ⟨P, 12, none⟩ (.int .i64 ef)).setCell ⟨P, 13, none⟩ (.int .u32 ((es : Nat) : Int))) w.heap.size 0 [.int .i64 4, .int .u64 0, .int .i64 0, .string ⟨#[]⟩, .string ⟨#[]⟩, .int .u64 0, .int .i64 0, .int .i64 0, .int .i64 0, .string ⟨#[]⟩, .int .i64 ec, .int .i64 eb, .int .i64 ef, .int .u32 ((es : Nat) : Int)]) w.heap.size 34 [.int .i64 4, .int .u64 0, .int .i64 0, .string ⟨#[]⟩, .string ⟨#[]⟩, .int .u64 0, .int .i64 0, .int .i64 0, .int .i64 0, .string ⟨#[]⟩, .int .i64 ec, .int .i64 eb, .int .i64 ef, .int .u32 ((es : Nat) : Int)]) := setL_blk [.int .i64 4, .int .u64 0, .int .i64 0, .string ⟨#[]⟩, .string ⟨#[]⟩, .int .u64 0, .int .i64 0, .int .i64 0, .int .i64 0, .string ⟨#[]⟩, .int .i64 ec, .int .i64 eb, .int .i64 ef, .int .u32 ((es : Nat) : Int)] _ 0 [] [.int .i64 0, .int .u64 0, .int .i64 0, .string ⟨#[]⟩, .string ⟨#[]⟩, .int .u64 0, .int .i64 0, .int .i64 0, .int .i64 0, .string ⟨#[]⟩, .int .i64 0, .int .i64 0, .int .i64 0, .int .u32 0] rfl rfl ((((HA2.out.other (p := ⟨P, 10, none⟩) (show P ≠ w.heap.size by omega) (.int .i64 ec)).other (p := ⟨P, 11, none⟩) (show P ≠ w.heap.size by omega) (.int .i64 eb)).other (p := ⟨P, 12, none⟩) (show P ≠ w.heap.size by omega) (.int .i64 ef)).other (p := ⟨P, 13, none⟩) (show P ≠ w.heap.size by omega) (.int .u32 ((es : Nat) : Int)))
  refine bodyPost_ret (results_cell_row rfl _ _ w.heap.size 34 #[.int .i64 4, .int .u64 0, .int .i64 0, .string ⟨#[]⟩, .string ⟨#[]⟩, .int .u64 0, .int .i64 0, .int .i64 0, .int .i64 0, .string ⟨#[]⟩, .int .i64 ec, .int .i64 eb, .int .i64 ef, .int .u32 ((es : Nat) : Int)] (0, 0) _ rfl HF.out Try.underlying34 rfl (by kernel_rfl)) rfl ?_
  refine ⟨rfl, ?_, ?_⟩
  · exact setL_rds (O := w.heap.size) hlt [.int .i64 4, .int .u64 0, .int .i64 0, .string ⟨#[]⟩, .string ⟨#[]⟩, .int .u64 0, .int .i64 0, .int .i64 0, .int .i64 0, .string ⟨#[]⟩, .int .i64 ec, .int .i64 eb, .int .i64 ef, .int .u32 ((es : Nat) : Int)] _ 0 ((((HR2.out.setO (p := ⟨P, 10, none⟩) (show B < P by omega) (.int .i64 ec)).setO (p := ⟨P, 11, none⟩) (show B < P by omega) (.int .i64 eb)).setO (p := ⟨P, 12, none⟩) (show B < P by omega) (.int .i64 ef)).setO (p := ⟨P, 13, none⟩) (show B < P by omega) (.int .u32 ((es : Nat) : Int)))
  · exact setL_keepO (O := w.heap.size) [.int .i64 4, .int .u64 0, .int .i64 0, .string ⟨#[]⟩, .string ⟨#[]⟩, .int .u64 0, .int .i64 0, .int .i64 0, .int .i64 0, .string ⟨#[]⟩, .int .i64 ec, .int .i64 eb, .int .i64 ef, .int .u32 ((es : Nat) : Int)] _ w 0 (Nat.le_refl _) ((((HK2.out.setO (p := ⟨P, 10, none⟩) (show w.heap.size ≤ P by omega) (.int .i64 ec)).setO (p := ⟨P, 11, none⟩) (show w.heap.size ≤ P by omega) (.int .i64 eb)).setO (p := ⟨P, 12, none⟩) (show w.heap.size ≤ P by omega) (.int .i64 ef)).setO (p := ⟨P, 13, none⟩) (show w.heap.size ≤ P by omega) (.int .u32 ((es : Nat) : Int)))
set_option maxRecDepth 100000 in
set_option maxHeartbeats 2000000 in
theorem frame_5 (B : Nat) (s : RS) (w : World) (hR : RDs w B s) (h1 : (rKind s).1 ≠ 1) (h2 : (rKind s).1 ≠ 2) (h3 : (rKind s).1 ≠ 3) (h4 : (rKind s).1 ≠ 4) :
    Calls Try.prog 70 #[.pointer (some ⟨B, 0, none⟩)] w fun e w' => e = .returned (.agg (fv (prs s).1)) ∧ RDs w' B (prs s).2 ∧ KeepO B w w' := by
  rw [prs_5 h1 h2 h3 h4]
  obtain ⟨k, s1, e0⟩ : ∃ k s1, rKind s = (k, s1) := ⟨_, _, rfl⟩
  rw [e0] at h1 h2 h3 h4 ⊢
  simp only at h1 h2 h3 h4 ⊢
  have q1 : ((k : Int) == 1) = false := by simp; omega
  have q2 : ((k : Int) == 2) = false := by simp; omega
  have q3 : ((k : Int) == 3) = false := by simp; omega
  have q4 : ((k : Int) == 4) = false := by simp; omega
  simp only [fv, zr, zp, ze]
  have E0 := hd e0
  clear e0
  have hlt := hR.lt
  have HR0 := hd (hR.alloc (.cells #[.int .i64 0, .int .u64 0, .int .i64 0, .string ⟨#[]⟩, .string ⟨#[]⟩, .int .u64 0, .int .i64 0, .int .i64 0, .int .i64 0, .string ⟨#[]⟩, .int .i64 0, .int .i64 0, .int .i64 0, .int .u32 0] 34))
  clear hR
  have HA0 : Hid (Blk (w.alloc (.cells #[.int .i64 0, .int .u64 0, .int .i64 0, .string ⟨#[]⟩, .string ⟨#[]⟩, .int .u64 0, .int .i64 0, .int .i64 0, .int .i64 0, .string ⟨#[]⟩, .int .i64 0, .int .i64 0, .int .i64 0, .int .u32 0] 34)) w.heap.size 34 [.int .i64 0, .int .u64 0, .int .i64 0, .string ⟨#[]⟩, .string ⟨#[]⟩, .int .u64 0, .int .i64 0, .int .i64 0, .int .i64 0, .string ⟨#[]⟩, .int .i64 0, .int .i64 0, .int .i64 0, .int .u32 0]) := Blk.new w _ _
  have HK0 : Hid (KeepO B w (w.alloc (.cells #[.int .i64 0, .int .u64 0, .int .i64 0, .string ⟨#[]⟩, .string ⟨#[]⟩, .int .u64 0, .int .i64 0, .int .i64 0, .int .i64 0, .string ⟨#[]⟩, .int .i64 0, .int .i64 0, .int .i64 0, .int .u32 0] 34))) := KeepO.alloc _ _ _
  go_enter Try.func70, Try.ntmps70
  go_wp2_with fail
  refine Calls.mono (kind_is' B s _ HR0.out) ?_
  rw [E0.out]
  simp only
  rintro e w1 ⟨rfl, hr, hk⟩
  have hs1 : w.heap.size + 1 ≤ w1.heap.size := by have := hk.size; rw [World.size_alloc] at this; exact this
  have HR1 := hd (hr.alloc (.cells #[.int .i64 (k : Int), .int .u64 0, .int .i64 0, .string ⟨#[]⟩, .string ⟨#[]⟩, .int .u64 0, .int .i64 0, .int .i64 0, .int .i64 0, .string ⟨#[]⟩, .int .i64 0, .int .i64 0, .int .i64 0, .int .u32 0] 34))
  have HA1 := hd ((HA0.out.keepO (by omega) hk).alloc (.cells #[.int .i64 (k : Int), .int .u64 0, .int .i64 0, .string ⟨#[]⟩, .string ⟨#[]⟩, .int .u64 0, .int .i64 0, .int .i64 0, .int .i64 0, .string ⟨#[]⟩, .int .i64 0, .int .i64 0, .int .i64 0, .int .u32 0] 34))
  have HK1 := hd ((HK0.out.trans hk).trans (KeepO.alloc _ _ (.cells #[.int .i64 (k : Int), .int .u64 0, .int .i64 0, .string ⟨#[]⟩, .string ⟨#[]⟩, .int .u64 0, .int .i64 0, .int .i64 0, .int .i64 0, .string ⟨#[]⟩, .int .i64 0, .int .i64 0, .int .i64 0, .int .u32 0] 34)))
  have HP1 : Hid (Blk (w1.alloc (.cells #[.int .i64 (k : Int), .int .u64 0, .int .i64 0, .string ⟨#[]⟩, .string ⟨#[]⟩, .int .u64 0, .int .i64 0, .int .i64 0, .int .i64 0, .string ⟨#[]⟩, .int .i64 0, .int .i64 0, .int .i64 0, .int .u32 0] 34)) w1.heap.size 34 [.int .i64 (k : Int), .int .u64 0, .int .i64 0, .string ⟨#[]⟩, .string ⟨#[]⟩, .int .u64 0, .int .i64 0, .int .i64 0, .int .i64 0, .string ⟨#[]⟩, .int .i64 0, .int .i64 0, .int .i64 0, .int .u32 0]) := Blk.new w1 _ _
  clear hr hk HR0 HA0 HK0
  obtain ⟨P, hP⟩ : ∃ P, P = w1.heap.size := ⟨_, rfl⟩
  clear hP
  have g0 := HP1.out.cell 0 _ rfl
  have a0 := HA1.out.cell 0 _ rfl
  have z0 := HA1.out.frozen 0
  have g1 := HP1.out.cell 1 _ rfl
  have a1 := HA1.out.cell 1 _ rfl
  have z1 := HA1.out.frozen 1
  have g2 := HP1.out.cell 2 _ rfl
  have a2 := HA1.out.cell 2 _ rfl
  have z2 := HA1.out.frozen 2
  have g3 := HP1.out.cell 3 _ rfl
  have a3 := HA1.out.cell 3 _ rfl
  have z3 := HA1.out.frozen 3
  have g4 := HP1.out.cell 4 _ rfl
  have a4 := HA1.out.cell 4 _ rfl
  have z4 := HA1.out.frozen 4
  have g5 := HP1.out.cell 5 _ rfl
  have a5 := HA1.out.cell 5 _ rfl
  have z5 := HA1.out.frozen 5
  have g6 := HP1.out.cell 6 _ rfl
  have a6 := HA1.out.cell 6 _ rfl
  have z6 := HA1.out.frozen 6
  have g7 := HP1.out.cell 7 _ rfl
  have a7 := HA1.out.cell 7 _ rfl
  have z7 := HA1.out.frozen 7
  have g8 := HP1.out.cell 8 _ rfl
  have a8 := HA1.out.cell 8 _ rfl
  have z8 := HA1.out.frozen 8
  have g9 := HP1.out.cell 9 _ rfl
  have a9 := HA1.out.cell 9 _ rfl
  have z9 := HA1.out.frozen 9
  have g10 := HP1.out.cell 10 _ rfl
  have a10 := HA1.out.cell 10 _ rfl
  have z10 := HA1.out.frozen 10
  have g11 := HP1.out.cell 11 _ rfl
  have a11 := HA1.out.cell 11 _ rfl
  have z11 := HA1.out.frozen 11
  have g12 := HP1.out.cell 12 _ rfl
  have a12 := HA1.out.cell 12 _ rfl
  have z12 := HA1.out.frozen 12
  have g13 := HP1.out.cell 13 _ rfl
  have a13 := HA1.out.cell 13 _ rfl
  have z13 := HA1.out.frozen 13
  go_wp2_with fail
  have HF : Hid (Blk (setL (w1.alloc (.cells #[.int .i64 (k : Int), .int .u64 0, .int .i64 0, .string ⟨#[]⟩, .string ⟨#[]⟩, .int .u64 0, .int .i64 0, .int .i64 0, .int .i64 0, .string ⟨#[]⟩, .int .i64 0, .int .i64 0, .int .i64 0, .int .u32 0] 34)) w.heap.size 0 [.int .i64 (k : Int), .int .u64 0, .int .i64 0, .string ⟨#[]⟩, .string ⟨#[]⟩, .int .u64 0, .int .i64 0, .int .i64 0, .int .i64 0, .string ⟨#[]⟩, .int .i64 0, .int .i64 0, .int .i64 0, .int .u32 0]) w.heap.size 34 [.int .i64 (k : Int), .int .u64 0, .int .i64 0, .string ⟨#[]⟩, .string ⟨#[]⟩, .int .u64 0, .int .i64 0, .int .i64 0, .int .i64 0, .string ⟨#[]⟩, .int .i64 0, .int .i64 0, .int .i64 0, .int .u32 0]) := setL_blk [.int .i64 (k : Int), .int .u64 0, .int .i64 0, .string ⟨#[]⟩, .string ⟨#[]⟩, .int .u64 0, .int .i64 0, .int .i64 0, .int .i64 0, .string ⟨#[]⟩, .int .i64 0, .int .i64 0, .int .i64 0, .int .u32 0] _ 0 [] [.int .i64 0, .int .u64 0, .int .i64 0, .string ⟨#[]⟩, .string ⟨#[]⟩, .int .u64 0, .int .i64 0, .int .i64 0, .int .i64 0, .string ⟨#[]⟩, .int .i64 0, .int .i64 0, .int .i64 0, .int .u32 0] rfl rfl HA1.out
  refine bodyPost_ret (results_cell_row rfl _ _ w.heap.size 34 #[.int .i64 (k : Int), .int .u64 0, .int .i64 0, .string ⟨#[]⟩, .string ⟨#[]⟩, .int .u64 0, .int .i64 0, .int .i64 0, .int .i64 0, .string ⟨#[]⟩, .int .i64 0, .int .i64 0, .int .i64 0, .int .u32 0] (0, 0) _ rfl HF.out Try.underlying34 rfl (by kernel_rfl)) rfl ?_
  refine ⟨rfl, ?_, ?_⟩
  · exact setL_rds (O := w.heap.size) hlt [.int .i64 (k : Int), .int .u64 0, .int .i64 0, .string ⟨#[]⟩, .string ⟨#[]⟩, .int .u64 0, .int .i64 0, .int .i64 0, .int .i64 0, .string ⟨#[]⟩, .int .i64 0, .int .i64 0, .int .i64 0, .int .u32 0] _ 0 HR1.out
  · exact setL_keepO (O := w.heap.size) [.int .i64 (k : Int), .int .u64 0, .int .i64 0, .string ⟨#[]⟩, .string ⟨#[]⟩, .int .u64 0, .int .i64 0, .int .i64 0, .int .i64 0, .string ⟨#[]⟩, .int .i64 0, .int .i64 0, .int .i64 0, .int .u32 0] _ w 0 (Nat.le_refl _) HK1.out
theorem frame_is (B : Nat) (s : RS) (w : World) (hR : RDs w B s) :
    Calls Try.prog 70 #[.pointer (some ⟨B, 0, none⟩)] w fun e w' => e = .returned (.agg (fv (prs s).1)) ∧ RDs w' B (prs s).2 ∧ KeepO B w w' := by
  by_cases c1 : (rKind s).1 = 1
  · exact frame_1 B s w hR c1
  · by_cases c2 : (rKind s).1 = 2
    · exact frame_2 B s w hR c2
    · by_cases c3 : (rKind s).1 = 3
      · exact frame_3 B s w hR c3
      · by_cases c4 : (rKind s).1 = 4
        · exact frame_4 B s w hR c4
        · exact frame_5 B s w hR c1 c2 c3 c4
end Vt
end Go.Proofs.Ytnjhbidialngmaa
