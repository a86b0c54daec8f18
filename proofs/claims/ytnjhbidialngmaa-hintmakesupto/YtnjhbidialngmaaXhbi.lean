/-
  small facts for ranges over located: boxes and blocks beside a row that grows; the set that a loop keeps.
  THE REFERENCE OF LAYER 5: All: every place is asked whether a frame begins there.
  scan.marks: of each kind that a frame may have, whether it is named.
  scan.Records without kinds: the frames of Put and Delete.
-/
import Derived.Test.YtnjhbidialngmaaXhbh
import Derived.Test.YtnjhbidialngmaaXhbg
namespace Go.Proofs.Ytnjhbidialngmaa
open Go.RowKit Go.Shelf
namespace Vt
theorem cell_lit (w : World) (t : TypeId) (cs : List Value) (j : Nat) (u : Value) (g : Nat) (hg : g = w.heap.size) (h : cs[j]? = some u) : (w.alloc (.cells cs.toArray t)).cell? ⟨g, j, none⟩ = some u := by
  subst hg
  rw [World.cell?_alloc_new]
  simpa using h
theorem Boxed.grownJ {E : TypeId} {sz : Nat} {w w' : World} {B base : Nat} {t : TypeId} {u v : Value} {l : List (List Value)} (h : Boxed w B t u) (hr : JR E sz w base v l) (hte : t ≠ E) (hg : w.grownBy w' v.ownBlock) : Boxed w' B t u := h.kept hg (hr.not_box h hte)
theorem Blk.grownJ {E : TypeId} {sz : Nat} {w w' : World} {B base : Nat} {t : TypeId} {cs : List Value} {v : Value} {l : List (List Value)} (h : Blk w B t cs) (hr : JR E sz w base v l) (hte : t ≠ E) (hg : w.grownBy w' v.ownBlock) : Blk w' B t cs := h.grown hg (hr.not_blk h hte)
/-- the set that the loop keeps: all below N, and the box of the bytes -/
def SE (N : Nat) (g : Nat) : Prop := g < N ∨ g = N + 2
theorem se_lt {N : Nat} {W : World} (h : N + 4 ≤ W.heap.size) : ∀ g, SE N g → g < W.heap.size := by
  intro g hg
  unfold SE at hg
  omega
end Vt
end Go.Proofs.Ytnjhbidialngmaa
namespace Go.Proofs.Ytnjhbidialngmaa
open Go.RowKit Go.Shelf
namespace Vt
attribute [local go_sem] Oper.semAt_some
/-- the cells of a frame that was found -/
def fov (x : Lc) : List Value := [.int .i64 (x.1 : Int), .int .i64 (x.2.1 : Int), .int .i64 x.2.2.kind, .int .u64 (x.2.2.r.lsn : Int), .int .i64 x.2.2.r.kind, .string x.2.2.r.key, .string x.2.2.r.val, .int .u64 (x.2.2.p.lsn : Int), .int .i64 x.2.2.p.kind, .int .i64 x.2.2.p.at_, .int .i64 x.2.2.p.len, .string x.2.2.p.key, .int .i64 x.2.2.e.count, .int .i64 x.2.2.e.bytes, .int .i64 x.2.2.e.frames, .int .u32 (x.2.2.e.sum : Int)]
theorem decF_at {l : List Nat} {k : Nat} (hk : k < l.length) : decF l (k : Int) = dcd (l.drop k) := by
  unfold decF
  rw [if_neg (by omega), Int.toNat_natCast]
end Vt
end Go.Proofs.Ytnjhbidialngmaa
namespace Go.Proofs.Ytnjhbidialngmaa
open Go.RowKit Go.Shelf
namespace Vt
/-- the five marks -/
def mks (zs : List Int) : List Value := [.bool false, .bool (decide (1 ∈ zs)), .bool (decide (2 ∈ zs)), .bool (decide (3 ∈ zs)), .bool (decide (4 ∈ zs))]
theorem mks_no {zs : List Int} {z : Int} (h : ¬ (1 ≤ z ∧ z ≤ 4)) : mks (zs ++ [z]) = mks zs := by
  have e : ∀ k : Int, 1 ≤ k → k ≤ 4 → decide (k ∈ zs ++ [z]) = decide (k ∈ zs) := by
    intro k h1 h2
    have hne : (z == k) = false := by rw [beq_eq_false_iff_ne]; omega
    have hne' : (k == z) = false := by rw [beq_eq_false_iff_ne]; omega
    have : ¬ k = z := by omega
    simp [this]
  unfold mks
  rw [e 1 (by omega) (by omega), e 2 (by omega) (by omega), e 3 (by omega) (by omega), e 4 (by omega) (by omega)]
theorem mks_1 {zs : List Int} : mks (zs ++ [1]) = (mks zs).set 1 (.bool true) := by simp [mks]
theorem mks_2 {zs : List Int} : mks (zs ++ [2]) = (mks zs).set 2 (.bool true) := by simp [mks]
theorem mks_3 {zs : List Int} : mks (zs ++ [3]) = (mks zs).set 3 (.bool true) := by simp [mks]
theorem mks_4 {zs : List Int} : mks (zs ++ [4]) = (mks zs).set 4 (.bool true) := by simp [mks]
theorem take_snoc {zs : List Int} {k : Nat} (h : k < zs.length) : zs.take (k + 1) = zs.take k ++ [zs.getD k 0] := by
  rw [List.take_add_one, List.getD_eq_getElem?_getD, List.getElem?_eq_getElem h]; rfl
set_option maxRecDepth 100000 in
set_option maxHeartbeats 1000000 in
theorem marks_is (b off c : Nat) (zs : List Int) (w : World) (hb : b < w.heap.size) (hz : ∀ i, i < zs.length → w.cell? ⟨b, off + i, none⟩ = some (.int .i64 (zs.getD i 0))) (hm : zs.length ≤ 4611686018427387904) :
    Calls Try.prog 82 #[.slice (some ⟨b, off, none⟩) zs.length c] w fun e w' => e = .returned (.agg (mks zs).toArray) ∧ Below w.heap.size w w' := by
  have HZ := hd hz
  clear hz
  go_enter Try.func82, Try.ntmps82
  go_wp2_with fail
  go_loopw [8] (fun i wr => ∃ k : Nat, k ≤ zs.length ∧ i = .int .i64 (k : Int) ∧ Blk wr (w.heap.size + 1) 121 (mks (zs.take k)) ∧ Blk wr w.heap.size 121 (mks []) ∧ Below w.heap.size w wr) (fun i _ => zs.length - (intOf i).toNat)
  case atStart =>
    refine ⟨0, by omega, rfl, ?_, ?_, ?_⟩
    · have := Blk.new (w.alloc (.cells (mks []).toArray 121)) 121 (mks [])
      rwa [World.size_alloc] at this
    · exact (Blk.new w 121 (mks [])).alloc _
    · exact ((Below.refl _ _).alloc (Nat.le_refl _) _).alloc (by simp) _
  case round =>
    obtain ⟨k, hk, rfl, hM, hR, hB⟩ := hrel
    by_cases hlt : k < zs.length
    · have hc : wr.cell? ⟨b, off + k, none⟩ = some (.int .i64 (zs.getD k 0)) := by rw [hB.cell hb]; exact HZ.out k hlt
      have hts := take_snoc hlt
      have HM := hd hM
      have HR := hd hR
      have HB := hd hB
      have fM := hM.frozen
      clear hM hR hB
      generalize zs.getD k 0 = z at *
      have HTS := hd hts
      clear hts
      by_cases h1 : z = 1
      · subst h1
        have cM := HM.out.cell 1 _ rfl
        have HM2 := hd (HM.out.set (j := 1) (.bool true))
        rw [← mks_1, ← HTS.out] at HM2
        have HR2 := hd (HR.out.other (p := ⟨w.heap.size + 1, 1, none⟩) (by simp) (.bool true))
        have HB2 := hd (HB.out.setCell (p := ⟨w.heap.size + 1, 1, none⟩) (by simp) (.bool true))
        go_wp2_with fail
        go_roundw
        case rel => exact ⟨k + 1, by omega, by go_num, HM2.out, HR2.out, HB2.out⟩
        case measure => simp [intOf]; omega
      by_cases h2 : z = 2
      · subst h2
        have cM := HM.out.cell 2 _ rfl
        have HM2 := hd (HM.out.set (j := 2) (.bool true))
        rw [← mks_2, ← HTS.out] at HM2
        have HR2 := hd (HR.out.other (p := ⟨w.heap.size + 1, 2, none⟩) (by simp) (.bool true))
        have HB2 := hd (HB.out.setCell (p := ⟨w.heap.size + 1, 2, none⟩) (by simp) (.bool true))
        go_wp2_with fail
        go_roundw
        case rel => exact ⟨k + 1, by omega, by go_num, HM2.out, HR2.out, HB2.out⟩
        case measure => simp [intOf]; omega
      by_cases h3 : z = 3
      · subst h3
        have cM := HM.out.cell 3 _ rfl
        have HM2 := hd (HM.out.set (j := 3) (.bool true))
        rw [← mks_3, ← HTS.out] at HM2
        have HR2 := hd (HR.out.other (p := ⟨w.heap.size + 1, 3, none⟩) (by simp) (.bool true))
        have HB2 := hd (HB.out.setCell (p := ⟨w.heap.size + 1, 3, none⟩) (by simp) (.bool true))
        go_wp2_with fail
        go_roundw
        case rel => exact ⟨k + 1, by omega, by go_num, HM2.out, HR2.out, HB2.out⟩
        case measure => simp [intOf]; omega
      by_cases h4 : z = 4
      · subst h4
        have cM := HM.out.cell 4 _ rfl
        have HM2 := hd (HM.out.set (j := 4) (.bool true))
        rw [← mks_4, ← HTS.out] at HM2
        have HR2 := hd (HR.out.other (p := ⟨w.heap.size + 1, 4, none⟩) (by simp) (.bool true))
        have HB2 := hd (HB.out.setCell (p := ⟨w.heap.size + 1, 4, none⟩) (by simp) (.bool true))
        go_wp2_with fail
        go_roundw
        case rel => exact ⟨k + 1, by omega, by go_num, HM2.out, HR2.out, HB2.out⟩
        case measure => simp [intOf]; omega
      have hno : ¬ (1 ≤ z ∧ z ≤ 4) := by omega
      have HN := hd (mks_no (zs := zs.take k) hno)
      rw [← HTS.out] at HN
      rw [← HN.out] at HM
      clear h1 h2 h3 h4
      by_cases h0 : 1 ≤ z
      · have h5 : ¬ z ≤ 4 := by omega
        clear hno
        go_wp2_with fail
        go_roundw
        case rel => exact ⟨k + 1, by omega, by go_num, HM.out, HR.out, HB.out⟩
        case measure => simp [intOf]; omega
      · clear hno
        go_wp2_with fail
        go_roundw
        case rel => exact ⟨k + 1, by omega, by go_num, HM.out, HR.out, HB.out⟩
        case measure => simp [intOf]; omega
    · obtain rfl : k = zs.length := by omega
      rw [List.take_length] at hM
      have m0 := hM.cell 0 _ rfl
      have m1 := hM.cell 1 _ rfl
      have m2 := hM.cell 2 _ rfl
      have m3 := hM.cell 3 _ rfl
      have m4 := hM.cell 4 _ rfl
      have r0 := hR.cell 0 (.bool false) rfl
      have r1 := hR.cell 1 (.bool false) rfl
      have r2 := hR.cell 2 (.bool false) rfl
      have r3 := hR.cell 3 (.bool false) rfl
      have r4 := hR.cell 4 (.bool false) rfl
      have rf := hR.frozen
      have HM := hd hM
      have HR := hd hR
      have HB := hd hB
      clear hM hR hB
      go_wp2_with fail
      refine bodyPost_ret (results_cell_row rfl _ _ w.heap.size 121 (mks zs).toArray (0, 0) _ rfl ?_ Try.underlying121 rfl (by kernel_rfl)) rfl ?_
      · exact (((((HR.out.set (j := 0) _).set (j := 1) _).set (j := 2) _).set (j := 3) _).set (j := 4) _)
      · exact ⟨rfl, ((((HB.out.setCell (p := ⟨w.heap.size, 0, none⟩) (Nat.le_refl _) _).setCell (p := ⟨w.heap.size, 1, none⟩) (Nat.le_refl _) _).setCell (p := ⟨w.heap.size, 2, none⟩) (Nat.le_refl _) _).setCell (p := ⟨w.heap.size, 3, none⟩) (Nat.le_refl _) _).setCell (p := ⟨w.heap.size, 4, none⟩) (Nat.le_refl _) _⟩
end Vt
end Go.Proofs.Ytnjhbidialngmaa
namespace Go.Proofs.Ytnjhbidialngmaa
open Go.RowKit Go.Shelf
namespace Vt
abbrev JL := JR 72 16
theorem info_lc : (Try.prog.info? 72).map (fun i => (i.zero, i.size, i.bytes)) = some (some (.agg #[.int .i64 0, .int .u64 0, .int .i64 0, .string ⟨#[]⟩, .string ⟨#[]⟩, .int .u64 0, .int .i64 0, .int .i64 0, .int .i64 0, .string ⟨#[]⟩, .int .i64 0, .int .i64 0, .int .i64 0, .int .u32 0, .int .i64 0, .int .i64 0]), 16, 152) := by kernel_rfl
theorem lcv_one (x : Lc) : ∀ u ∈ lcv x, u.oneCell' = true := by
  intro u hu
  simp only [lcv, List.mem_cons, List.mem_nil_iff, or_false] at hu
  rcases hu with rfl | rfl | rfl | rfl | rfl | rfl | rfl | rfl | rfl | rfl | rfl | rfl | rfl | rfl | rfl | rfl <;> rfl
/-- a frame of a wanted kind -/
def isw (zs : List Int) (x : Lc) : Bool := decide (x.2.2.kind ∈ zs)
noncomputable def recs (zs : List Int) (l : List Nat) : List Lc := (locs 0 l).filter (isw zs)
theorem rf_kind {f : Fr} (h : rf f = 0) : 1 ≤ f.kind ∧ f.kind ≤ 4 := by
  unfold rf at h
  split at h
  · omega
  · split at h
    · omega
    · split at h
      · omega
      · omega
theorem mks_at (zs : List Int) (j : Nat) (h1 : 1 ≤ j) (h4 : j ≤ 4) : (mks zs)[j]? = some (.bool (decide ((j : Int) ∈ zs))) := by
  obtain rfl | rfl | rfl | rfl : j = 1 ∨ j = 2 ∨ j = 3 ∨ j = 4 := by omega
  all_goals rfl
/-- between two rounds -/
def RcInv (N : Nat) (zs : List Int) (w4 : World) (pre : List Lc) (W : World) : Prop :=
  (∃ ve, Boxed W (N + 1) 77 ve ∧ Blk W N 121 (mks zs) ∧ JL W (N + 4) ve ((pre.filter (isw zs)).map lcv)) ∧ KeepS (SE N) w4 W
theorem blk_keptO {W W' : World} {row : Option Nat} {O : Nat} {t : TypeId} {cs : List Value} (h : Blk W O t cs) (hg : W.grownBy W' row) (hr : ∀ r, row = some r → ∃ o : Obj, W.heap[r]? = some o ∧ o.isCells = false) : Blk W' O t cs := by
  refine h.grown hg (fun e => ?_)
  obtain ⟨o, ho, hc⟩ := hr O e.symm
  have h2 : W.heap[O]? = _ := h
  rw [h2] at ho
  injection ho with ho
  rw [← ho] at hc
  cases hc
theorem rcInv_own {β : Type} {N : Nat} {zs : List Int} {w4 : World} (f : β → List Lc) (hs : N + 4 = w4.heap.size) : OwnFrom w4.heap.size (fun s W => RcInv N zs w4 (f s) W) := by
  intro s W W' row hs' hg hr
  obtain ⟨⟨ve, be, bn, j⟩, hS⟩ := hs'
  have hr' : ∀ r, row = some r → ∃ o : Obj, W.heap[r]? = some o ∧ o.isCells = false := fun r e => (hr r e).2
  exact ⟨⟨ve, Boxed.keptO be hg hr', blk_keptO bn hg hr', j.kept hg hr'⟩, hS.grown hg (se_lt (by have := hS.size; omega)) (fun g e h => by have := (hr g e).1; unfold SE at h; omega)⟩
theorem RcInv.alloc {N : Nat} {zs : List Int} {w4 W : World} {pre : List Lc} (h : RcInv N zs w4 pre W) (hs : N + 4 = w4.heap.size) (o : Obj) : RcInv N zs w4 pre (W.alloc o) := by
  obtain ⟨⟨ve, be, bn, j⟩, hS⟩ := h
  exact ⟨⟨ve, be.alloc o, bn.alloc o, j.alloc o⟩, hS.alloc (se_lt (by have := hS.size; omega)) o⟩
/-- the world behind a round that lays a frame down -/
theorem rc_step {N : Nat} {zs : List Int} {w4 W w3 : World} {pre : List Lc} {ve v3 : Value} {o : Obj} {x : Lc} (hs : N + 4 = w4.heap.size)
    (be : Boxed W (N + 1) 77 ve) (bm : Blk W N 121 (mks zs)) {L : List (List Value)} (j : JL W (N + 4) ve L) (hS : KeepS (SE N) w4 W)
    (g3 : (W.alloc o).grownBy w3 ve.ownBlock) (j3 : JL w3 (N + 4) v3 (((pre ++ [x]).filter (isw zs)).map lcv)) :
    KeepsOthers W (w3.setCell ⟨N + 1, 0, none⟩ v3) ∧ KeepS (SE N) W (w3.setCell ⟨N + 1, 0, none⟩ v3) ∧ RcInv N zs w4 (pre ++ [x]) (w3.setCell ⟨N + 1, 0, none⟩ v3) := by
  have hsW := hS.size
  have hs3 := g3.size
  rw [World.size_alloc] at hs3
  have nE : ∀ g, ve.ownBlock = some g → N + 4 ≤ g := j.blk_ge
  have n3 : ∀ g, v3.ownBlock = some g → N + 4 ≤ g := j3.blk_ge
  have be3 := Boxed.grownJ (be.alloc o) (j.alloc o) (by decide) g3
  have bm3 := Blk.grownJ (bm.alloc o) (j.alloc o) (by decide) g3
  have k3 : KeepS (SE N) W w3 := ((KeepS.refl W).alloc (se_lt (by omega)) o).grown g3 (se_lt (by rw [World.size_alloc]; omega)) (fun g e h => by have := nE g e; unfold SE at h; omega)
  have k4 : KeepS (SE N) W (w3.setCell ⟨N + 1, 0, none⟩ v3) := k3.setCell (p := ⟨N + 1, 0, none⟩) (fun h => by have h' : N + 1 < N ∨ N + 1 = N + 2 := h; omega) _
  refine ⟨?_, k4, ⟨v3, ?_, ?_, ?_⟩, hS.trans k4⟩
  · exact (KeepsOthers.alloc _ o).trans (((j.alloc o).others g3).trans (KeepsOthers.setCell _ _ _))
  · exact be3.set v3
  · exact bm3.other (p := ⟨N + 1, 0, none⟩) (by show N + 1 ≠ N; omega) _
  · exact j3.setO (p := ⟨N + 1, 0, none⟩) (fun g hg => by have := n3 g hg; show g ≠ N + 1; omega) _
attribute [local go_sem] Oper.semAt_some
end Vt
end Go.Proofs.Ytnjhbidialngmaa
