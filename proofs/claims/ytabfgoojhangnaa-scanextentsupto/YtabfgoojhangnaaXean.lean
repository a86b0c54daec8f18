/-
  A block of which all cells are set, one behind the other.
  THE READER OF A BODY (frame.reader): pointer, ending: what 'rPtr', 'rEdg' say.
-/
import Derived.Test.YtabfgoojhangnaaXeac
import Derived.Laws.Rows
import Derived.Test.YtabfgoojhangnaaXeam
namespace Go.Proofs.Ytabfgoojhangnaa
open Go.RowKit
namespace Vt
/-- a block of which all cells are set, one behind the other -/
def setL (w : World) (O : Nat) : Nat → List Value → World
  | _, [] => w
  | j, v :: r => setL (w.setCell ⟨O, j, none⟩ v) O (j + 1) r
theorem setL_blk {O : Nat} {T : TypeId} (ds : List Value) : ∀ (w : World) (j : Nat) (pre cs : List Value), j = pre.length → cs.length = ds.length → Blk w O T (pre ++ cs) → Blk (setL w O j ds) O T (pre ++ ds) := by
  induction ds with
  | nil => intro w j pre cs _ hl h; rw [List.length_eq_zero_iff.1 hl] at h; exact h
  | cons d r ih =>
    intro w j pre cs hj hl h
    cases cs with
    | nil => simp at hl
    | cons c cs =>
      have := ih (w.setCell ⟨O, j, none⟩ d) (j + 1) (pre ++ [d]) cs (by simp [hj]) (by simpa using hl) (by
        have h2 := h.set (j := j) d
        rw [hj, List.set_append_right _ _ (Nat.le_refl _), Nat.sub_self] at h2
        rw [hj, List.append_assoc]; exact h2)
      rw [List.append_assoc] at this
      exact this
end Vt
end Go.Proofs.Ytabfgoojhangnaa
namespace Go.Proofs.Ytabfgoojhangnaa
open Go.RowKit
namespace Vt
theorem rNum_le (m : Nat) (s : RS) : (rNum m s).1 ≤ m := by
  unfold rNum; split
  · rename_i h; exact h.2
  · exact Nat.zero_le _
theorem setL_keepO {B O : Nat} (ds : List Value) : ∀ (w w0 : World) (j : Nat), w0.heap.size ≤ O → KeepO B w0 w → KeepO B w0 (setL w O j ds) := by
  induction ds with
  | nil => intro w w0 j _ h; exact h
  | cons d r ih =>
    intro w w0 j hO h
    refine ih _ w0 (j + 1) hO ⟨h.os, h.tape, h.output, ?_, fun k hk hne => ?_⟩
    · show _ ≤ (w.heap.modify O _).size
      rw [Array.size_modify]; exact h.size
    · show (w.heap.modify O _)[k]? = _
      rw [Array.getElem?_modify, if_neg (by omega)]; exact h.block k hk hne
theorem KeepO.setO {B : Nat} {w0 w : World} (h : KeepO B w0 w) {p : Addr} (hp : w0.heap.size ≤ p.block) (v : Value) : KeepO B w0 (w.setCell p v) := by
  refine ⟨h.os, h.tape, h.output, ?_, fun k hk hne => ?_⟩
  · show _ ≤ (w.heap.modify p.block _).size
    rw [Array.size_modify]; exact h.size
  · show (w.heap.modify p.block _)[k]? = _
    rw [Array.getElem?_modify, if_neg (by omega)]; exact h.block k hk hne
theorem setL_rds {B O : Nat} {s : RS} (hO : B < O) (ds : List Value) : ∀ (w : World) (j : Nat), RDs w B s → RDs (setL w O j ds) B s := by
  induction ds with
  | nil => intro w j h; exact h
  | cons d r ih => intro w j h; exact ih _ _ (h.setO (p := ⟨O, j, none⟩) hO d)
theorem keepO_back {B : Nat} {w W : World} {o : Obj} (h : KeepO B (w.alloc o) W) : KeepO B w W := (KeepO.alloc B w o).trans h
set_option maxRecDepth 100000 in
set_option maxHeartbeats 1000000 in
theorem ptr_is (B : Nat) (s : RS) (w : World) (hR : RDs w B s) :
    Calls Try.prog 68 #[.pointer (some ⟨B, 0, none⟩)] w fun e w' => e = .returned (.agg #[.int .u64 ((rPtr s).1.lsn : Int), .int .i64 (rPtr s).1.kind, .int .i64 (rPtr s).1.at_, .int .i64 (rPtr s).1.len, .string (rPtr s).1.key]) ∧ RDs w' B (rPtr s).2 ∧ KeepO B w w' := by
  obtain ⟨a, s1, e0⟩ : ∃ a s1, rNum 18446744073709551615 s = (a, s1) := ⟨_, _, rfl⟩
  have b0 : a ≤ 18446744073709551615 := by have := rNum_le 18446744073709551615 s; rw [e0] at this; exact this
  obtain ⟨k, s2, e1⟩ : ∃ k s2, rKind s1 = (k, s2) := ⟨_, _, rfl⟩
  obtain ⟨b, s3, e2⟩ : ∃ b s3, rNum 4194304 s2 = (b, s3) := ⟨_, _, rfl⟩
  have b2 : b ≤ 4194304 := by have := rNum_le 4194304 s2; rw [e2] at this; exact this
  obtain ⟨c, s4, e3⟩ : ∃ c s4, rNum 4194304 s3 = (c, s4) := ⟨_, _, rfl⟩
  have b3 : c ≤ 4194304 := by have := rNum_le 4194304 s3; rw [e3] at this; exact this
  obtain ⟨t, s5, e4⟩ : ∃ t s5, rRest s4 = (t, s5) := ⟨_, _, rfl⟩
  have HE : Hid (rPtr s = (⟨a, (k : Int), (b : Int), (c : Int), t⟩, s5)) := by
    show rPtr s = _
    unfold rPtr
    simp only [e0, e1, e2, e3, e4]
  rw [HE.out]
  simp only
  have E0 := hd e0
  have E1 := hd e1
  have E2 := hd e2
  have E3 := hd e3
  have E4 := hd e4
  clear e0 e1 e2 e3 e4 HE
  have hlt := hR.lt
  have HR0 := hd ((hR.alloc (.cells #[.int .u64 0, .int .i64 0, .int .i64 0, .int .i64 0, .string ⟨#[]⟩] 47)).alloc (.cells #[.int .u64 0, .int .i64 0, .int .i64 0, .int .i64 0, .string ⟨#[]⟩] 47))
  clear hR
  have HA0 : Hid (Blk ((w.alloc (.cells #[.int .u64 0, .int .i64 0, .int .i64 0, .int .i64 0, .string ⟨#[]⟩] 47)).alloc (.cells #[.int .u64 0, .int .i64 0, .int .i64 0, .int .i64 0, .string ⟨#[]⟩] 47)) w.heap.size 47 [.int .u64 0, .int .i64 0, .int .i64 0, .int .i64 0, .string ⟨#[]⟩]) := (Blk.new w _ _).alloc _
  have HP0 : Hid (Blk ((w.alloc (.cells #[.int .u64 0, .int .i64 0, .int .i64 0, .int .i64 0, .string ⟨#[]⟩] 47)).alloc (.cells #[.int .u64 0, .int .i64 0, .int .i64 0, .int .i64 0, .string ⟨#[]⟩] 47)) (w.heap.size + 1) 47 [.int .u64 0, .int .i64 0, .int .i64 0, .int .i64 0, .string ⟨#[]⟩]) := by
    have := Blk.new (w.alloc (.cells #[.int .u64 0, .int .i64 0, .int .i64 0, .int .i64 0, .string ⟨#[]⟩] 47)) 47 [.int .u64 0, .int .i64 0, .int .i64 0, .int .i64 0, .string ⟨#[]⟩]
    rw [World.size_alloc] at this
    exact this
  have HK0 : Hid (KeepO B w ((w.alloc (.cells #[.int .u64 0, .int .i64 0, .int .i64 0, .int .i64 0, .string ⟨#[]⟩] 47)).alloc (.cells #[.int .u64 0, .int .i64 0, .int .i64 0, .int .i64 0, .string ⟨#[]⟩] 47))) := (KeepO.alloc _ _ _).trans (KeepO.alloc _ _ _)
  go_enter Try.func68, Try.ntmps68
  go_wp2_with fail
  refine Calls.mono (number_is' B 18446744073709551615 s _ HR0.out) ?_
  rw [E0.out]
  simp only
  rintro e w1 ⟨rfl, hr, hk⟩
  have HRb1 := hd hr
  have HAb1 := hd (HA0.out.keepO (by omega) hk)
  have HPb1 := hd (HP0.out.keepO (by omega) hk)
  have HKb1 := hd (HK0.out.trans hk)
  clear hr hk HR0 HA0 HP0 HK0
  have hc0 := HPb1.out.cell 0 _ rfl
  have hf0 := HPb1.out.frozen 0
  have HR1 := hd (HRb1.out.setO (p := ⟨w.heap.size + 1, 0, none⟩) (show B < w.heap.size + 1 by omega) (.int .u64 ((a : Nat) : Int)))
  have HA1 := hd (HAb1.out.other (p := ⟨w.heap.size + 1, 0, none⟩) (show w.heap.size + 1 ≠ w.heap.size by omega) (.int .u64 ((a : Nat) : Int)))
  have HP1 := hd (HPb1.out.set (j := 0) (.int .u64 ((a : Nat) : Int)))
  have HK1 := hd (HKb1.out.setO (p := ⟨w.heap.size + 1, 0, none⟩) (show w.heap.size ≤ w.heap.size + 1 by omega) (.int .u64 ((a : Nat) : Int)))
  clear HRb1 HAb1 HPb1 HKb1
  go_wp2_with fail
  refine Calls.mono (kind_is' B s1 _ HR1.out) ?_
  rw [E1.out]
  simp only
  rintro e w2 ⟨rfl, hr, hk⟩
  have HRb2 := hd hr
  have HAb2 := hd (HA1.out.keepO (by omega) hk)
  have HPb2 := hd (HP1.out.keepO (by omega) hk)
  have HKb2 := hd (HK1.out.trans hk)
  clear hr hk HR1 HA1 HP1 HK1
  have hc1 := HPb2.out.cell 1 _ rfl
  have hf1 := HPb2.out.frozen 1
  have HR2 := hd (HRb2.out.setO (p := ⟨w.heap.size + 1, 1, none⟩) (show B < w.heap.size + 1 by omega) (.int .i64 ((k : Nat) : Int)))
  have HA2 := hd (HAb2.out.other (p := ⟨w.heap.size + 1, 1, none⟩) (show w.heap.size + 1 ≠ w.heap.size by omega) (.int .i64 ((k : Nat) : Int)))
  have HP2 := hd (HPb2.out.set (j := 1) (.int .i64 ((k : Nat) : Int)))
  have HK2 := hd (HKb2.out.setO (p := ⟨w.heap.size + 1, 1, none⟩) (show w.heap.size ≤ w.heap.size + 1 by omega) (.int .i64 ((k : Nat) : Int)))
  clear HRb2 HAb2 HPb2 HKb2
  go_wp2_with fail
  refine Calls.mono (number_is' B 4194304 s2 _ HR2.out) ?_
  rw [E2.out]
  simp only
  rintro e w3 ⟨rfl, hr, hk⟩
  have HRb3 := hd hr
  have HAb3 := hd (HA2.out.keepO (by omega) hk)
  have HPb3 := hd (HP2.out.keepO (by omega) hk)
  have HKb3 := hd (HK2.out.trans hk)
  clear hr hk HR2 HA2 HP2 HK2
  have hc2 := HPb3.out.cell 2 _ rfl
  have hf2 := HPb3.out.frozen 2
  have HR3 := hd (HRb3.out.setO (p := ⟨w.heap.size + 1, 2, none⟩) (show B < w.heap.size + 1 by omega) (.int .i64 ((b : Nat) : Int)))
  have HA3 := hd (HAb3.out.other (p := ⟨w.heap.size + 1, 2, none⟩) (show w.heap.size + 1 ≠ w.heap.size by omega) (.int .i64 ((b : Nat) : Int)))
  have HP3 := hd (HPb3.out.set (j := 2) (.int .i64 ((b : Nat) : Int)))
  have HK3 := hd (HKb3.out.setO (p := ⟨w.heap.size + 1, 2, none⟩) (show w.heap.size ≤ w.heap.size + 1 by omega) (.int .i64 ((b : Nat) : Int)))
  clear HRb3 HAb3 HPb3 HKb3
  go_wp2_with fail
  refine Calls.mono (number_is' B 4194304 s3 _ HR3.out) ?_
  rw [E3.out]
  simp only
  rintro e w4 ⟨rfl, hr, hk⟩
  have HRb4 := hd hr
  have HAb4 := hd (HA3.out.keepO (by omega) hk)
  have HPb4 := hd (HP3.out.keepO (by omega) hk)
  have HKb4 := hd (HK3.out.trans hk)
  clear hr hk HR3 HA3 HP3 HK3
  have hc3 := HPb4.out.cell 3 _ rfl
  have hf3 := HPb4.out.frozen 3
  have HR4 := hd (HRb4.out.setO (p := ⟨w.heap.size + 1, 3, none⟩) (show B < w.heap.size + 1 by omega) (.int .i64 ((c : Nat) : Int)))
  have HA4 := hd (HAb4.out.other (p := ⟨w.heap.size + 1, 3, none⟩) (show w.heap.size + 1 ≠ w.heap.size by omega) (.int .i64 ((c : Nat) : Int)))
  have HP4 := hd (HPb4.out.set (j := 3) (.int .i64 ((c : Nat) : Int)))
  have HK4 := hd (HKb4.out.setO (p := ⟨w.heap.size + 1, 3, none⟩) (show w.heap.size ≤ w.heap.size + 1 by omega) (.int .i64 ((c : Nat) : Int)))
  clear HRb4 HAb4 HPb4 HKb4
  go_wp2_with fail
  refine Calls.mono (rest_is' B s4 _ HR4.out) ?_
  rw [E4.out]
  simp only
  rintro e w5 ⟨rfl, hr, hk⟩
  have HRb5 := hd hr
  have HAb5 := hd (HA4.out.keepO (by omega) hk)
  have HPb5 := hd (HP4.out.keepO (by omega) hk)
  have HKb5 := hd (HK4.out.trans hk)
  clear hr hk HR4 HA4 HP4 HK4
  have hc4 := HPb5.out.cell 4 _ rfl
  have hf4 := HPb5.out.frozen 4
  have g0 := HPb5.out.cell 0 _ rfl
  have a0 := HAb5.out.cell 0 _ rfl
  have z0 := HAb5.out.frozen 0
  have g1 := HPb5.out.cell 1 _ rfl
  have a1 := HAb5.out.cell 1 _ rfl
  have z1 := HAb5.out.frozen 1
  have g2 := HPb5.out.cell 2 _ rfl
  have a2 := HAb5.out.cell 2 _ rfl
  have z2 := HAb5.out.frozen 2
  have g3 := HPb5.out.cell 3 _ rfl
  have a3 := HAb5.out.cell 3 _ rfl
  have z3 := HAb5.out.frozen 3
  have a4 := HAb5.out.cell 4 _ rfl
  have z4 := HAb5.out.frozen 4
  go_wp2_with fail
  have HF : Hid (Blk (setL (w5.setCell ⟨w.heap.size + 1, 4, none⟩ (.string t)) w.heap.size 0 [.int .u64 ((a : Nat) : Int), .int .i64 ((k : Nat) : Int), .int .i64 ((b : Nat) : Int), .int .i64 ((c : Nat) : Int), .string t]) w.heap.size 47 [.int .u64 ((a : Nat) : Int), .int .i64 ((k : Nat) : Int), .int .i64 ((b : Nat) : Int), .int .i64 ((c : Nat) : Int), .string t]) := setL_blk [.int .u64 ((a : Nat) : Int), .int .i64 ((k : Nat) : Int), .int .i64 ((b : Nat) : Int), .int .i64 ((c : Nat) : Int), .string t] _ 0 [] [.int .u64 0, .int .i64 0, .int .i64 0, .int .i64 0, .string ⟨#[]⟩] rfl rfl (HAb5.out.other (p := ⟨w.heap.size + 1, 4, none⟩) (show w.heap.size + 1 ≠ w.heap.size by omega) _)
  refine bodyPost_ret (results_cell_row rfl _ _ w.heap.size 47 #[.int .u64 ((a : Nat) : Int), .int .i64 ((k : Nat) : Int), .int .i64 ((b : Nat) : Int), .int .i64 ((c : Nat) : Int), .string t] (0, 0) _ rfl HF.out Try.underlying47 rfl (by kernel_rfl)) rfl ?_
  refine ⟨rfl, ?_, ?_⟩
  · exact setL_rds (O := w.heap.size) hlt [.int .u64 ((a : Nat) : Int), .int .i64 ((k : Nat) : Int), .int .i64 ((b : Nat) : Int), .int .i64 ((c : Nat) : Int), .string t] _ 0 (HRb5.out.setO (p := ⟨w.heap.size + 1, 4, none⟩) (show B < w.heap.size + 1 by omega) _)
  · exact setL_keepO (O := w.heap.size) [.int .u64 ((a : Nat) : Int), .int .i64 ((k : Nat) : Int), .int .i64 ((b : Nat) : Int), .int .i64 ((c : Nat) : Int), .string t] _ w 0 (Nat.le_refl _) (HKb5.out.setO (p := ⟨w.heap.size + 1, 4, none⟩) (show w.heap.size ≤ w.heap.size + 1 by omega) _)
set_option maxRecDepth 100000 in
set_option maxHeartbeats 1000000 in
theorem edg_is (B : Nat) (s : RS) (w : World) (hR : RDs w B s) :
    Calls Try.prog 69 #[.pointer (some ⟨B, 0, none⟩)] w fun e w' => e = .returned (.agg #[.int .i64 (rEdg s).1.count, .int .i64 (rEdg s).1.bytes, .int .i64 (rEdg s).1.frames, .int .u32 ((rEdg s).1.sum : Int)]) ∧ RDs w' B (rEdg s).2 ∧ KeepO B w w' := by
  obtain ⟨a, s1, e0⟩ : ∃ a s1, rNum 4194304 s = (a, s1) := ⟨_, _, rfl⟩
  have b0 : a ≤ 4194304 := by have := rNum_le 4194304 s; rw [e0] at this; exact this
  obtain ⟨b, s2, e1⟩ : ∃ b s2, rNum 4194304 s1 = (b, s2) := ⟨_, _, rfl⟩
  have b1 : b ≤ 4194304 := by have := rNum_le 4194304 s1; rw [e1] at this; exact this
  obtain ⟨c, s3, e2⟩ : ∃ c s3, rNum 4194304 s2 = (c, s3) := ⟨_, _, rfl⟩
  have b2 : c ≤ 4194304 := by have := rNum_le 4194304 s2; rw [e2] at this; exact this
  obtain ⟨d, s4, e3⟩ : ∃ d s4, rNum 4294967295 s3 = (d, s4) := ⟨_, _, rfl⟩
  have b3 : d ≤ 4294967295 := by have := rNum_le 4294967295 s3; rw [e3] at this; exact this
  have HE : Hid (rEdg s = (⟨(a : Int), (b : Int), (c : Int), d⟩, s4)) := by
    show rEdg s = _
    unfold rEdg
    simp only [e0, e1, e2, e3]
  rw [HE.out]
  simp only
  have E0 := hd e0
  have E1 := hd e1
  have E2 := hd e2
  have E3 := hd e3
  clear e0 e1 e2 e3 HE
  have hlt := hR.lt
  have HR0 := hd ((hR.alloc (.cells #[.int .i64 0, .int .i64 0, .int .i64 0, .int .u32 0] 52)).alloc (.cells #[.int .i64 0, .int .i64 0, .int .i64 0, .int .u32 0] 52))
  clear hR
  have HA0 : Hid (Blk ((w.alloc (.cells #[.int .i64 0, .int .i64 0, .int .i64 0, .int .u32 0] 52)).alloc (.cells #[.int .i64 0, .int .i64 0, .int .i64 0, .int .u32 0] 52)) w.heap.size 52 [.int .i64 0, .int .i64 0, .int .i64 0, .int .u32 0]) := (Blk.new w _ _).alloc _
  have HP0 : Hid (Blk ((w.alloc (.cells #[.int .i64 0, .int .i64 0, .int .i64 0, .int .u32 0] 52)).alloc (.cells #[.int .i64 0, .int .i64 0, .int .i64 0, .int .u32 0] 52)) (w.heap.size + 1) 52 [.int .i64 0, .int .i64 0, .int .i64 0, .int .u32 0]) := by
    have := Blk.new (w.alloc (.cells #[.int .i64 0, .int .i64 0, .int .i64 0, .int .u32 0] 52)) 52 [.int .i64 0, .int .i64 0, .int .i64 0, .int .u32 0]
    rw [World.size_alloc] at this
    exact this
  have HK0 : Hid (KeepO B w ((w.alloc (.cells #[.int .i64 0, .int .i64 0, .int .i64 0, .int .u32 0] 52)).alloc (.cells #[.int .i64 0, .int .i64 0, .int .i64 0, .int .u32 0] 52))) := (KeepO.alloc _ _ _).trans (KeepO.alloc _ _ _)
  go_enter Try.func69, Try.ntmps69
  go_wp2_with fail
  refine Calls.mono (number_is' B 4194304 s _ HR0.out) ?_
  rw [E0.out]
  simp only
  rintro e w1 ⟨rfl, hr, hk⟩
  have HRb1 := hd hr
  have HAb1 := hd (HA0.out.keepO (by omega) hk)
  have HPb1 := hd (HP0.out.keepO (by omega) hk)
  have HKb1 := hd (HK0.out.trans hk)
  clear hr hk HR0 HA0 HP0 HK0
  have hc0 := HPb1.out.cell 0 _ rfl
  have hf0 := HPb1.out.frozen 0
  have HR1 := hd (HRb1.out.setO (p := ⟨w.heap.size + 1, 0, none⟩) (show B < w.heap.size + 1 by omega) (.int .i64 ((a : Nat) : Int)))
  have HA1 := hd (HAb1.out.other (p := ⟨w.heap.size + 1, 0, none⟩) (show w.heap.size + 1 ≠ w.heap.size by omega) (.int .i64 ((a : Nat) : Int)))
  have HP1 := hd (HPb1.out.set (j := 0) (.int .i64 ((a : Nat) : Int)))
  have HK1 := hd (HKb1.out.setO (p := ⟨w.heap.size + 1, 0, none⟩) (show w.heap.size ≤ w.heap.size + 1 by omega) (.int .i64 ((a : Nat) : Int)))
  clear HRb1 HAb1 HPb1 HKb1
  go_wp2_with fail
  refine Calls.mono (number_is' B 4194304 s1 _ HR1.out) ?_
  rw [E1.out]
  simp only
  rintro e w2 ⟨rfl, hr, hk⟩
  have HRb2 := hd hr
  have HAb2 := hd (HA1.out.keepO (by omega) hk)
  have HPb2 := hd (HP1.out.keepO (by omega) hk)
  have HKb2 := hd (HK1.out.trans hk)
  clear hr hk HR1 HA1 HP1 HK1
  have hc1 := HPb2.out.cell 1 _ rfl
  have hf1 := HPb2.out.frozen 1
  have HR2 := hd (HRb2.out.setO (p := ⟨w.heap.size + 1, 1, none⟩) (show B < w.heap.size + 1 by omega) (.int .i64 ((b : Nat) : Int)))
  have HA2 := hd (HAb2.out.other (p := ⟨w.heap.size + 1, 1, none⟩) (show w.heap.size + 1 ≠ w.heap.size by omega) (.int .i64 ((b : Nat) : Int)))
  have HP2 := hd (HPb2.out.set (j := 1) (.int .i64 ((b : Nat) : Int)))
  have HK2 := hd (HKb2.out.setO (p := ⟨w.heap.size + 1, 1, none⟩) (show w.heap.size ≤ w.heap.size + 1 by omega) (.int .i64 ((b : Nat) : Int)))
  clear HRb2 HAb2 HPb2 HKb2
  go_wp2_with fail
  refine Calls.mono (number_is' B 4194304 s2 _ HR2.out) ?_
  rw [E2.out]
  simp only
  rintro e w3 ⟨rfl, hr, hk⟩
  have HRb3 := hd hr
  have HAb3 := hd (HA2.out.keepO (by omega) hk)
  have HPb3 := hd (HP2.out.keepO (by omega) hk)
  have HKb3 := hd (HK2.out.trans hk)
  clear hr hk HR2 HA2 HP2 HK2
  have hc2 := HPb3.out.cell 2 _ rfl
  have hf2 := HPb3.out.frozen 2
  have HR3 := hd (HRb3.out.setO (p := ⟨w.heap.size + 1, 2, none⟩) (show B < w.heap.size + 1 by omega) (.int .i64 ((c : Nat) : Int)))
  have HA3 := hd (HAb3.out.other (p := ⟨w.heap.size + 1, 2, none⟩) (show w.heap.size + 1 ≠ w.heap.size by omega) (.int .i64 ((c : Nat) : Int)))
  have HP3 := hd (HPb3.out.set (j := 2) (.int .i64 ((c : Nat) : Int)))
  have HK3 := hd (HKb3.out.setO (p := ⟨w.heap.size + 1, 2, none⟩) (show w.heap.size ≤ w.heap.size + 1 by omega) (.int .i64 ((c : Nat) : Int)))
  clear HRb3 HAb3 HPb3 HKb3
  go_wp2_with fail
  refine Calls.mono (number_is' B 4294967295 s3 _ HR3.out) ?_
  rw [E3.out]
  simp only
  rintro e w4 ⟨rfl, hr, hk⟩
  have HRb4 := hd hr
  have HAb4 := hd (HA3.out.keepO (by omega) hk)
  have HPb4 := hd (HP3.out.keepO (by omega) hk)
  have HKb4 := hd (HK3.out.trans hk)
  clear hr hk HR3 HA3 HP3 HK3
  have hc3 := HPb4.out.cell 3 _ rfl
  have hf3 := HPb4.out.frozen 3
  have g0 := HPb4.out.cell 0 _ rfl
  have a0 := HAb4.out.cell 0 _ rfl
  have z0 := HAb4.out.frozen 0
  have g1 := HPb4.out.cell 1 _ rfl
  have a1 := HAb4.out.cell 1 _ rfl
  have z1 := HAb4.out.frozen 1
  have g2 := HPb4.out.cell 2 _ rfl
  have a2 := HAb4.out.cell 2 _ rfl
  have z2 := HAb4.out.frozen 2
  have a3 := HAb4.out.cell 3 _ rfl
  have z3 := HAb4.out.frozen 3
  go_wp2_with fail
  have HF : Hid (Blk (setL (w4.setCell ⟨w.heap.size + 1, 3, none⟩ (.int .u32 ((d : Nat) : Int))) w.heap.size 0 [.int .i64 ((a : Nat) : Int), .int .i64 ((b : Nat) : Int), .int .i64 ((c : Nat) : Int), .int .u32 ((d : Nat) : Int)]) w.heap.size 52 [.int .i64 ((a : Nat) : Int), .int .i64 ((b : Nat) : Int), .int .i64 ((c : Nat) : Int), .int .u32 ((d : Nat) : Int)]) := setL_blk [.int .i64 ((a : Nat) : Int), .int .i64 ((b : Nat) : Int), .int .i64 ((c : Nat) : Int), .int .u32 ((d : Nat) : Int)] _ 0 [] [.int .i64 0, .int .i64 0, .int .i64 0, .int .u32 0] rfl rfl (HAb4.out.other (p := ⟨w.heap.size + 1, 3, none⟩) (show w.heap.size + 1 ≠ w.heap.size by omega) _)
  refine bodyPost_ret (results_cell_row rfl _ _ w.heap.size 52 #[.int .i64 ((a : Nat) : Int), .int .i64 ((b : Nat) : Int), .int .i64 ((c : Nat) : Int), .int .u32 ((d : Nat) : Int)] (0, 0) _ rfl HF.out Try.underlying52 rfl (by kernel_rfl)) rfl ?_
  refine ⟨rfl, ?_, ?_⟩
  · exact setL_rds (O := w.heap.size) hlt [.int .i64 ((a : Nat) : Int), .int .i64 ((b : Nat) : Int), .int .i64 ((c : Nat) : Int), .int .u32 ((d : Nat) : Int)] _ 0 (HRb4.out.setO (p := ⟨w.heap.size + 1, 3, none⟩) (show B < w.heap.size + 1 by omega) _)
  · exact setL_keepO (O := w.heap.size) [.int .i64 ((a : Nat) : Int), .int .i64 ((b : Nat) : Int), .int .i64 ((c : Nat) : Int), .int .u32 ((d : Nat) : Int)] _ w 0 (Nat.le_refl _) (HKb4.out.setO (p := ⟨w.heap.size + 1, 3, none⟩) (show w.heap.size ≤ w.heap.size + 1 by omega) _)
end Vt
end Go.Proofs.Ytabfgoojhangnaa
