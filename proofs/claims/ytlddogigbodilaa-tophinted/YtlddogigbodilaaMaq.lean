/-
  scan.marks: of each kind that a frame may have, whether it is named.
  scan.Records without kinds: the frames of Put and Delete.
  A REGION THAT DRAWS ITS ORDER, BY AN INVARIANT: whatever the order in which its operations come up, what each has yielded is told by a property that later operations leave standing; so each operation is looked at once, not once for each order. No condition beyond those that each theorem bears.
-/
import Derived.Test.YtlddogigbodilaaMap
import Derived.WalkKit
namespace Go.Proofs.Ytlddogigbodilaa
open Go.RowKit Go.Shelf
namespace Vt
/-- the five marks -/
def mks (zs : List Int) : List Value := [.bool false, .bool (decide (1 ∈ zs)), .bool (decide (2 ∈ zs)), .bool (decide (3 ∈ zs)), .bool (decide (4 ∈ zs))]
theorem mks_no {zs : List Int} {z : Int} (h : ¬ (1 ≤ z ∧ z ≤ 4)) : mks (zs ++ [z]) = mks zs := by
  have e : ∀ k : Int, 1 ≤ k → k ≤ 4 → decide (k ∈ zs ++ [z]) = decide (k ∈ zs) := by
    intro k h1 h2
    have hne : (z == k) = false := by rw [beq_eq_false_iff_ne]; omega
    have hne' : (k == z) = false := by rw [beq_eq_false_iff_ne]; omega
    have : ¬ k = z := by omega
    simp [this]
  unfold mks
  rw [e 1 (by omega) (by omega), e 2 (by omega) (by omega), e 3 (by omega) (by omega), e 4 (by omega) (by omega)]
theorem mks_1 {zs : List Int} : mks (zs ++ [1]) = (mks zs).set 1 (.bool true) := by simp [mks]
theorem mks_2 {zs : List Int} : mks (zs ++ [2]) = (mks zs).set 2 (.bool true) := by simp [mks]
theorem mks_3 {zs : List Int} : mks (zs ++ [3]) = (mks zs).set 3 (.bool true) := by simp [mks]
theorem mks_4 {zs : List Int} : mks (zs ++ [4]) = (mks zs).set 4 (.bool true) := by simp [mks]
theorem take_snoc {zs : List Int} {k : Nat} (h : k < zs.length) : zs.take (k + 1) = zs.take k ++ [zs.getD k 0] := by
  rw [List.take_add_one, List.getD_eq_getElem?_getD, List.getElem?_eq_getElem h]; rfl
set_option maxRecDepth 100000 in
set_option maxHeartbeats 1000000 in
theorem marks_is (b off c : Nat) (zs : List Int) (w : World) (hb : b < w.heap.size) (hz : ∀ i, i < zs.length → w.cell? ⟨b, off + i, none⟩ = some (.int .i64 (zs.getD i 0))) (hm : zs.length ≤ 4611686018427387904) :
    Calls Try.prog 50 #[.slice (some ⟨b, off, none⟩) zs.length c] w fun e w' => e = .returned (.agg (mks zs).toArray) ∧ Below w.heap.size w w' := by
  have HZ := hd hz
  clear hz
  go_enter Try.func50, Try.ntmps50
  go_wp2_with fail
  go_loopw [8] (fun i wr => ∃ k : Nat, k ≤ zs.length ∧ i = .int .i64 (k : Int) ∧ Blk wr (w.heap.size + 1) 103 (mks (zs.take k)) ∧ Blk wr w.heap.size 103 (mks []) ∧ Below w.heap.size w wr) (fun i _ => zs.length - (intOf i).toNat)
  case atStart =>
    refine ⟨0, by omega, rfl, ?_, ?_, ?_⟩
    · have := Blk.new (w.alloc (.cells (mks []).toArray 103)) 103 (mks [])
      rwa [World.size_alloc] at this
    · exact (Blk.new w 103 (mks [])).alloc _
    · exact ((Below.refl _ _).alloc (Nat.le_refl _) _).alloc (by simp) _
  case round =>
    obtain ⟨k, hk, rfl, hM, hR, hB⟩ := hrel
    by_cases hlt : k < zs.length
    · have hc : wr.cell? ⟨b, off + k, none⟩ = some (.int .i64 (zs.getD k 0)) := by rw [hB.cell hb]; exact HZ.out k hlt
      have hts := take_snoc hlt
      have HM := hd hM
      have HR := hd hR
      have HB := hd hB
      have fM := hM.frozen
      clear hM hR hB
      generalize zs.getD k 0 = z at *
      have HTS := hd hts
      clear hts
      by_cases h1 : z = 1
      · subst h1
        have cM := HM.out.cell 1 _ rfl
        have HM2 := hd (HM.out.set (j := 1) (.bool true))
        rw [← mks_1, ← HTS.out] at HM2
        have HR2 := hd (HR.out.other (p := ⟨w.heap.size + 1, 1, none⟩) (by simp) (.bool true))
        have HB2 := hd (HB.out.setCell (p := ⟨w.heap.size + 1, 1, none⟩) (by simp) (.bool true))
        go_wp2_with fail
        go_roundw
        case rel => exact ⟨k + 1, by omega, by go_num, HM2.out, HR2.out, HB2.out⟩
        case measure => simp [intOf]; omega
      by_cases h2 : z = 2
      · subst h2
        have cM := HM.out.cell 2 _ rfl
        have HM2 := hd (HM.out.set (j := 2) (.bool true))
        rw [← mks_2, ← HTS.out] at HM2
        have HR2 := hd (HR.out.other (p := ⟨w.heap.size + 1, 2, none⟩) (by simp) (.bool true))
        have HB2 := hd (HB.out.setCell (p := ⟨w.heap.size + 1, 2, none⟩) (by simp) (.bool true))
        go_wp2_with fail
        go_roundw
        case rel => exact ⟨k + 1, by omega, by go_num, HM2.out, HR2.out, HB2.out⟩
        case measure => simp [intOf]; omega
      by_cases h3 : z = 3
      · subst h3
        have cM := HM.out.cell 3 _ rfl
        have HM2 := hd (HM.out.set (j := 3) (.bool true))
        rw [← mks_3, ← HTS.out] at HM2
        have HR2 := hd (HR.out.other (p := ⟨w.heap.size + 1, 3, none⟩) (by simp) (.bool true))
        have HB2 := hd (HB.out.setCell (p := ⟨w.heap.size + 1, 3, none⟩) (by simp) (.bool true))
        go_wp2_with fail
        go_roundw
        case rel => exact ⟨k + 1, by omega, by go_num, HM2.out, HR2.out, HB2.out⟩
        case measure => simp [intOf]; omega
      by_cases h4 : z = 4
      · subst h4
        have cM := HM.out.cell 4 _ rfl
        have HM2 := hd (HM.out.set (j := 4) (.bool true))
        rw [← mks_4, ← HTS.out] at HM2
        have HR2 := hd (HR.out.other (p := ⟨w.heap.size + 1, 4, none⟩) (by simp) (.bool true))
        have HB2 := hd (HB.out.setCell (p := ⟨w.heap.size + 1, 4, none⟩) (by simp) (.bool true))
        go_wp2_with fail
        go_roundw
        case rel => exact ⟨k + 1, by omega, by go_num, HM2.out, HR2.out, HB2.out⟩
        case measure => simp [intOf]; omega
      have hno : ¬ (1 ≤ z ∧ z ≤ 4) := by omega
      have HN := hd (mks_no (zs := zs.take k) hno)
      rw [← HTS.out] at HN
      rw [← HN.out] at HM
      clear h1 h2 h3 h4
      by_cases h0 : 1 ≤ z
      · have h5 : ¬ z ≤ 4 := by omega
        clear hno
        go_wp2_with fail
        go_roundw
        case rel => exact ⟨k + 1, by omega, by go_num, HM.out, HR.out, HB.out⟩
        case measure => simp [intOf]; omega
      · clear hno
        go_wp2_with fail
        go_roundw
        case rel => exact ⟨k + 1, by omega, by go_num, HM.out, HR.out, HB.out⟩
        case measure => simp [intOf]; omega
    · obtain rfl : k = zs.length := by omega
      rw [List.take_length] at hM
      have m0 := hM.cell 0 _ rfl
      have m1 := hM.cell 1 _ rfl
      have m2 := hM.cell 2 _ rfl
      have m3 := hM.cell 3 _ rfl
      have m4 := hM.cell 4 _ rfl
      have r0 := hR.cell 0 (.bool false) rfl
      have r1 := hR.cell 1 (.bool false) rfl
      have r2 := hR.cell 2 (.bool false) rfl
      have r3 := hR.cell 3 (.bool false) rfl
      have r4 := hR.cell 4 (.bool false) rfl
      have rf := hR.frozen
      have HM := hd hM
      have HR := hd hR
      have HB := hd hB
      clear hM hR hB
      go_wp2_with fail
      refine bodyPost_ret (results_cell_row rfl _ _ w.heap.size 103 (mks zs).toArray (0, 0) _ rfl ?_ Try.underlying103 rfl (by kernel_rfl)) rfl ?_
      · exact (((((HR.out.set (j := 0) _).set (j := 1) _).set (j := 2) _).set (j := 3) _).set (j := 4) _)
      · exact ⟨rfl, ((((HB.out.setCell (p := ⟨w.heap.size, 0, none⟩) (Nat.le_refl _) _).setCell (p := ⟨w.heap.size, 1, none⟩) (Nat.le_refl _) _).setCell (p := ⟨w.heap.size, 2, none⟩) (Nat.le_refl _) _).setCell (p := ⟨w.heap.size, 3, none⟩) (Nat.le_refl _) _).setCell (p := ⟨w.heap.size, 4, none⟩) (Nat.le_refl _) _⟩
end Vt
end Go.Proofs.Ytlddogigbodilaa
namespace Go.Proofs.Ytlddogigbodilaa
open Go.RowKit Go.Shelf
namespace Vt
abbrev JL := JR 53 16
theorem info_lc : (Try.prog.info? 53).map (fun i => (i.zero, i.size, i.bytes)) = some (some (.agg #[.int .i64 0, .int .u64 0, .int .i64 0, .string ⟨#[]⟩, .string ⟨#[]⟩, .int .u64 0, .int .i64 0, .int .i64 0, .int .i64 0, .string ⟨#[]⟩, .int .i64 0, .int .i64 0, .int .i64 0, .int .u32 0, .int .i64 0, .int .i64 0]), 16, 152) := by kernel_rfl
theorem lcv_one (x : Lc) : ∀ u ∈ lcv x, u.oneCell' = true := by
  intro u hu
  simp only [lcv, List.mem_cons, List.mem_nil_iff, or_false] at hu
  rcases hu with rfl | rfl | rfl | rfl | rfl | rfl | rfl | rfl | rfl | rfl | rfl | rfl | rfl | rfl | rfl | rfl <;> rfl
/-- a frame of a wanted kind -/
def isw (zs : List Int) (x : Lc) : Bool := decide (x.2.2.kind ∈ zs)
noncomputable def recs (zs : List Int) (l : List Nat) : List Lc := (locs 0 l).filter (isw zs)
theorem rf_kind {f : Fr} (h : rf f = 0) : 1 ≤ f.kind ∧ f.kind ≤ 4 := by
  unfold rf at h
  split at h
  · omega
  · split at h
    · omega
    · split at h
      · omega
      · omega
theorem mks_at (zs : List Int) (j : Nat) (h1 : 1 ≤ j) (h4 : j ≤ 4) : (mks zs)[j]? = some (.bool (decide ((j : Int) ∈ zs))) := by
  obtain rfl | rfl | rfl | rfl : j = 1 ∨ j = 2 ∨ j = 3 ∨ j = 4 := by omega
  all_goals rfl
/-- between two rounds -/
def RcInv (N : Nat) (zs : List Int) (w4 : World) (pre : List Lc) (W : World) : Prop :=
  (∃ ve, Boxed W (N + 1) 49 ve ∧ Blk W N 103 (mks zs) ∧ JL W (N + 4) ve ((pre.filter (isw zs)).map lcv)) ∧ KeepS (SE N) w4 W
theorem blk_keptO {W W' : World} {row : Option Nat} {O : Nat} {t : TypeId} {cs : List Value} (h : Blk W O t cs) (hg : W.grownBy W' row) (hr : ∀ r, row = some r → ∃ o : Obj, W.heap[r]? = some o ∧ o.isCells = false) : Blk W' O t cs := by
  refine h.grown hg (fun e => ?_)
  obtain ⟨o, ho, hc⟩ := hr O e.symm
  have h2 : W.heap[O]? = _ := h
  rw [h2] at ho
  injection ho with ho
  rw [← ho] at hc
  cases hc
theorem rcInv_own {β : Type} {N : Nat} {zs : List Int} {w4 : World} (f : β → List Lc) (hs : N + 4 = w4.heap.size) : OwnFrom w4.heap.size (fun s W => RcInv N zs w4 (f s) W) := by
  intro s W W' row hs' hg hr
  obtain ⟨⟨ve, be, bn, j⟩, hS⟩ := hs'
  have hr' : ∀ r, row = some r → ∃ o : Obj, W.heap[r]? = some o ∧ o.isCells = false := fun r e => (hr r e).2
  exact ⟨⟨ve, Boxed.keptO be hg hr', blk_keptO bn hg hr', j.kept hg hr'⟩, hS.grown hg (se_lt (by have := hS.size; omega)) (fun g e h => by have := (hr g e).1; unfold SE at h; omega)⟩
theorem RcInv.alloc {N : Nat} {zs : List Int} {w4 W : World} {pre : List Lc} (h : RcInv N zs w4 pre W) (hs : N + 4 = w4.heap.size) (o : Obj) : RcInv N zs w4 pre (W.alloc o) := by
  obtain ⟨⟨ve, be, bn, j⟩, hS⟩ := h
  exact ⟨⟨ve, be.alloc o, bn.alloc o, j.alloc o⟩, hS.alloc (se_lt (by have := hS.size; omega)) o⟩
/-- the world behind a round that lays a frame down -/
theorem rc_step {N : Nat} {zs : List Int} {w4 W w3 : World} {pre : List Lc} {ve v3 : Value} {o : Obj} {x : Lc} (hs : N + 4 = w4.heap.size)
    (be : Boxed W (N + 1) 49 ve) (bm : Blk W N 103 (mks zs)) {L : List (List Value)} (j : JL W (N + 4) ve L) (hS : KeepS (SE N) w4 W)
    (g3 : (W.alloc o).grownBy w3 ve.ownBlock) (j3 : JL w3 (N + 4) v3 (((pre ++ [x]).filter (isw zs)).map lcv)) :
    KeepsOthers W (w3.setCell ⟨N + 1, 0, none⟩ v3) ∧ KeepS (SE N) W (w3.setCell ⟨N + 1, 0, none⟩ v3) ∧ RcInv N zs w4 (pre ++ [x]) (w3.setCell ⟨N + 1, 0, none⟩ v3) := by
  have hsW := hS.size
  have hs3 := g3.size
  rw [World.size_alloc] at hs3
  have nE : ∀ g, ve.ownBlock = some g → N + 4 ≤ g := j.blk_ge
  have n3 : ∀ g, v3.ownBlock = some g → N + 4 ≤ g := j3.blk_ge
  have be3 := Boxed.grownJ (be.alloc o) (j.alloc o) (by decide) g3
  have bm3 := Blk.grownJ (bm.alloc o) (j.alloc o) (by decide) g3
  have k3 : KeepS (SE N) W w3 := ((KeepS.refl W).alloc (se_lt (by omega)) o).grown g3 (se_lt (by rw [World.size_alloc]; omega)) (fun g e h => by have := nE g e; unfold SE at h; omega)
  have k4 : KeepS (SE N) W (w3.setCell ⟨N + 1, 0, none⟩ v3) := k3.setCell (p := ⟨N + 1, 0, none⟩) (fun h => by have h' : N + 1 < N ∨ N + 1 = N + 2 := h; omega) _
  refine ⟨?_, k4, ⟨v3, ?_, ?_, ?_⟩, hS.trans k4⟩
  · exact (KeepsOthers.alloc _ o).trans (((j.alloc o).others g3).trans (KeepsOthers.setCell _ _ _))
  · exact be3.set v3
  · exact bm3.other (p := ⟨N + 1, 0, none⟩) (by show N + 1 ≠ N; omega) _
  · exact j3.setO (p := ⟨N + 1, 0, none⟩) (fun g hg => by have := n3 g hg; show g ≠ N + 1; omega) _
attribute [local go_sem] Oper.semAt_some
set_option maxRecDepth 100000 in
set_option maxHeartbeats 2000000 in
theorem records_nil (v : Value) (l : List Nat) (w : World) (hI : IsB w v l) (hl : l.length ≤ 16777216) :
    Calls Try.prog 15 #[v, .slice none 0 0] w fun e w' => ∃ v', e = .returned v' ∧ JL w' w.heap.size v' ((recs [1, 2] l).map lcv) ∧ Below w.heap.size w w' := by
  obtain ⟨a, c, rfl⟩ := hI.shape
  have HI := hd hI
  clear hI
  refine (callsIn_wide (n := 8)).1 ?_
  refine callsIn_of_wp_marks Try.func15 rfl trivial (Code.wpIn_mono bodyPostF_M ?_) rfl
  simp only [Try.ntmps15, List.size_toArray, List.length_cons, List.length_nil, Nat.reduceAdd, Nat.reduceSub, Array.replicate_succ, Array.replicate_zero, List.push_toArray, List.append_toArray, List.nil_append, List.cons_append]
  gi_wp2
  refine ⟨trivial, CallsIn.mono (callsIn_wide.2 (marks_is w.heap.size 0 2 [1, 2] (w.alloc (.cells #[.int .i64 1, .int .i64 2] 29)) (by simp) (by
    intro i hi
    obtain rfl | rfl : i = 0 ∨ i = 1 := by simp at hi; omega
    · exact cell_lit w _ [.int .i64 1, .int .i64 2] 0 _ _ rfl rfl
    · exact cell_lit w _ [.int .i64 1, .int .i64 2] 1 _ _ rfl rfl) (by decide))) ?_⟩
  rintro e w1 ⟨rfl, hb1⟩
  have HB1 : Hid (Below w.heap.size w w1) := ((Below.refl _ w).alloc (Nat.le_refl _) _).trans (hb1.mono (by simp))
  clear hb1
  have hmk : mks [1, 2] = [.bool false, .bool true, .bool true, .bool false, .bool false] := by simp [mks]
  rw [hmk]
  have HMK := hd hmk
  clear hmk
  gi_wp2
  refine ⟨trivial, CallsIn.mono (callsIn_wide.2 (located_is _ _ _ _ _)) ?_⟩
  rintro e w4 ⟨rfl, hw4⟩
  obtain ⟨N, hN⟩ : ∃ N, N = w1.heap.size := ⟨_, rfl⟩
  have hn1 : w.heap.size ≤ N := by rw [hN]; exact HB1.out.size
  have hs4 : w4.heap.size = N + 4 := by rw [hw4, hN]; simp
  have hB4 : Hid (Below w.heap.size w w4) := by
    rw [hw4]; exact (((HB1.out.alloc (by omega) _).alloc (by simp; omega) _).alloc (by simp; omega) _).alloc (by simp; omega) _
  have BM4 : Hid (Blk w4 N 103 (mks [1, 2])) := by rw [hw4, hN, HMK.out]; exact (((Blk.new w1 103 _).alloc _).alloc _).alloc _
  have BE4 : Hid (Boxed w4 (N + 1) 49 (.slice none 0 0)) := by
    have := Boxed.new (w1.alloc (.cells #[.bool false, .bool true, .bool true, .bool false, .bool false] 103)) 49 (.slice none 0 0)
    rw [World.size_alloc, ← hN] at this
    rw [hw4]; exact (this.alloc _).alloc _
  have BB4 : Hid (Boxed w4 (N + 2) 22 (.slice a l.length c)) := by
    have := Boxed.new ((w1.alloc (.cells #[.bool false, .bool true, .bool true, .bool false, .bool false] 103)).alloc (.cells #[.slice none 0 0] 49)) 22 (.slice a l.length c)
    rw [World.size_alloc, World.size_alloc, ← hN] at this
    rw [hw4]; exact this.alloc _
  have BF4 : Hid (Boxed w4 (N + 3) 3 (.int .i64 0)) := by
    have := Boxed.new (((w1.alloc (.cells #[.bool false, .bool true, .bool true, .bool false, .bool false] 103)).alloc (.cells #[.slice none 0 0] 49)).alloc (.cells #[.slice a l.length c] 22)) 3 (.int .i64 0)
    rw [World.size_alloc, World.size_alloc, World.size_alloc, ← hN] at this
    rw [hw4]; exact this
  simp only [World.size_alloc]
  rw [← hN]
  have HN := hd hN
  have HN1 := hd hn1
  clear hw4 hN
  have hseq := located_stops 7 (by omega) l.length (SE N) (N + 1 + 1) (N + 1 + 1 + 1) (.slice a l.length c) 0 l w4 (Nat.le_refl _) (Or.inr rfl) (by omega) (by omega) (se_lt (by omega)) BB4.out.cell BF4.out.cell (HI.out.below hB4.out) (fun b off c' hne e => by
    obtain ⟨_, _, ⟨rfl, _⟩ | ⟨nb, no, nc, e1, _, _, hnb, hnr⟩⟩ := HI.out
    · exact absurd rfl hne
    · rw [e] at e1; injection e1 with e1 e2 e3; injection e1 with e1; injection e1 with e1 e4; left; omega)
  have hfrm : frm l.length 0 = 0 := by unfold frm; simp
  rw [hfrm, List.drop_zero] at hseq
  have HSQ := hd hseq
  clear hseq hfrm hn1
  gi_wp2
  rename_i K hK
  have HK := hd hK
  clear hK
  refine wpIn_rangeFunc_ownH rfl (by omega) (gf := 76) (lb := #[.pointer (some ⟨N + 1 + 1, 0, none⟩), .pointer (some ⟨N + 1 + 1 + 1, 0, none⟩)]) rfl trivial (enters_of Try.func76 (by kernel_rfl) rfl) HSQ.out keepS_t (keepS_b (se_lt (by omega))) (Below.refl _ _) (fun _ => rfl)
    (fun (pre : List (PL l.length)) (W : World) => RcInv N [1, 2] w4 (pre.map Subtype.val) W)
    (fun _ _ _ => False)
    (rcInv_own _ hs4.symm)
    (fun _ _ _ _ _ hs _ _ => hs)
    ⟨⟨_, BE4.out, BM4.out, jr_nil _ _⟩, KeepS.refl _⟩
    (fun (x : PL l.length) a' W => ∃ Bx, N + 4 ≤ Bx ∧ Blk W Bx 53 (lcv x.1) ∧ a' = { tmps := #[Value.slice a l.length c, Value.slice (some { block := w.heap.size, off := 0 }) 2 2, undef, undef, Value.slice none 0 0, Value.pointer (some { block := N, off := 0 }), Value.pointer (some { block := N + 1, off := 0 }), Value.pointer (some { block := Bx, off := 0 }), Value.slice none 0 0, Value.int IntKind.i64 0, Value.bool true, Value.slice (some { block := w.heap.size, off := 0 }) 2 2, Value.slice (some { block := w.heap.size, off := 0 }) 2 2, Value.agg #[Value.bool false, Value.bool true, Value.bool true, Value.bool false, Value.bool false], Value.slice a l.length c, Value.func (Fn.func 76) #[] #[Value.pointer (some { block := N + 1 + 1, off := 0 }), Value.pointer (some { block := N + 1 + 1 + 1, off := 0 })], .agg (lcv x.1).toArray, undef, undef, undef, undef, undef, undef, undef, undef, undef, undef], defers := [] })
    (fun x a' _ W W' row hs hg hr => by
      obtain ⟨Bx, h1, h2, h3⟩ := hs
      exact ⟨Bx, h1, blk_keptO h2 hg (fun r e => (hr r e).2), h3⟩)
    ?assign ?body ?done ?stop
  case assign =>
    rintro lk pre ⟨⟨x1, x2, k, ⟨rl, rk, rkey, rval⟩, ⟨pl, pk, pa, pn, pkey⟩, ⟨ec, eb, ef, es⟩⟩, hx⟩ W K hi hK
    simp only [encl, lcv]
    gi_wp2
    have hsW := hi.2.size
    exact hK _ _ ((KeepsOthers.alloc _ _).from _) ((KeepS.refl _).alloc (se_lt (by omega)) _) (hi.alloc hs4.symm _) ⟨W.heap.size, by omega, Blk.new W 53 (lcv (x1, x2, ⟨k, ⟨rl, rk, rkey, rval⟩, ⟨pl, pk, pa, pn, pkey⟩, ⟨ec, eb, ef, es⟩⟩)), rfl⟩
  case body =>
    rintro lk pre ⟨⟨x1, x2, f⟩, hx⟩ a' W hlk _ ⟨⟨ve, be, bm, j⟩, hS⟩ ⟨Bx, hBx, hblk, rfl⟩ hlen
    have hxl : x1 + x2 ≤ l.length := hx.1
    have hk := rf_kind hx.2.2.1
    obtain ⟨q, hq⟩ : ∃ q : Nat, f.kind = (q : Int) := ⟨f.kind.toNat, by simp only at hk; omega⟩
    have hq1 : 1 ≤ q ∧ q ≤ 4 := by simp only at hk; omega
    have HMP : Hid ((pre ++ [(⟨(x1, x2, f), hx⟩ : PL l.length)]).map Subtype.val = pre.map Subtype.val ++ [(x1, x2, f)]) := by
      show _ = _
      rw [List.map_append, List.map_singleton]
    have hpl : ((pre.map Subtype.val).filter (isw [1, 2])).length ≤ pre.length := by
      have := List.length_filter_le (isw [1, 2]) (pre.map Subtype.val)
      rw [List.length_map] at this; exact this
    obtain ⟨P, hP⟩ : ∃ P, P = pre.map Subtype.val := ⟨_, rfl⟩
    rw [← hP] at j hpl HMP
    have HSN : Hid ((P ++ [(x1, x2, f)]).filter (isw [1, 2]) = P.filter (isw [1, 2]) ++ (if (q : Int) ∈ [1, 2] then [(x1, x2, f)] else [])) := by
      show _ = _
      rw [List.filter_append, List.filter_cons, List.filter_nil]
      unfold isw
      rw [hq]
      simp only [decide_eq_true_eq]
    have HLQ : Hid (Blk W Bx 53 [.int .i64 (q : Int), .int .u64 (f.r.lsn : Int), .int .i64 f.r.kind, .string f.r.key, .string f.r.val, .int .u64 (f.p.lsn : Int), .int .i64 f.p.kind, .int .i64 f.p.at_, .int .i64 f.p.len, .string f.p.key, .int .i64 f.e.count, .int .i64 f.e.bytes, .int .i64 f.e.frames, .int .u32 (f.e.sum : Int), .int .i64 (x1 : Int), .int .i64 (x2 : Int)]) := by
      have h := hblk
      unfold lcv at h
      simp only [hq] at h
      exact h
    have HLE : Hid ([.int .i64 (q : Int), .int .u64 (f.r.lsn : Int), .int .i64 f.r.kind, .string f.r.key, .string f.r.val, .int .u64 (f.p.lsn : Int), .int .i64 f.p.kind, .int .i64 f.p.at_, .int .i64 f.p.len, .string f.p.key, .int .i64 f.e.count, .int .i64 f.e.bytes, .int .i64 f.e.frames, .int .u32 (f.e.sum : Int), .int .i64 (x1 : Int), .int .i64 (x2 : Int)] = lcv (x1, x2, f)) := by
      show _ = _
      unfold lcv
      rw [hq]
    have cM : W.cell? ⟨N, q, none⟩ = some (.bool (decide ((q : Int) ∈ [1, 2]))) := bm.cell q _ (mks_at _ q hq1.1 hq1.2)
    have BE := hd be
    have BM := hd bm
    have HS := hd hS
    have HJ := hd j
    have HP := hd hP
    have HQ := hd hq
    have cE := be.cell
    have c0 : W.cell? ⟨Bx, 0, none⟩ = some (.int .i64 (q : Int)) := HLQ.out.cell 0 _ rfl
    have c1 : W.cell? ⟨Bx, 1, none⟩ = some (.int .u64 (f.r.lsn : Int)) := HLQ.out.cell 1 _ rfl
    have c2 : W.cell? ⟨Bx, 2, none⟩ = some (.int .i64 f.r.kind) := HLQ.out.cell 2 _ rfl
    have c3 : W.cell? ⟨Bx, 3, none⟩ = some (.string f.r.key) := HLQ.out.cell 3 _ rfl
    have c4 : W.cell? ⟨Bx, 4, none⟩ = some (.string f.r.val) := HLQ.out.cell 4 _ rfl
    have c5 : W.cell? ⟨Bx, 5, none⟩ = some (.int .u64 (f.p.lsn : Int)) := HLQ.out.cell 5 _ rfl
    have c6 : W.cell? ⟨Bx, 6, none⟩ = some (.int .i64 f.p.kind) := HLQ.out.cell 6 _ rfl
    have c7 : W.cell? ⟨Bx, 7, none⟩ = some (.int .i64 f.p.at_) := HLQ.out.cell 7 _ rfl
    have c8 : W.cell? ⟨Bx, 8, none⟩ = some (.int .i64 f.p.len) := HLQ.out.cell 8 _ rfl
    have c9 : W.cell? ⟨Bx, 9, none⟩ = some (.string f.p.key) := HLQ.out.cell 9 _ rfl
    have c10 : W.cell? ⟨Bx, 10, none⟩ = some (.int .i64 f.e.count) := HLQ.out.cell 10 _ rfl
    have c11 : W.cell? ⟨Bx, 11, none⟩ = some (.int .i64 f.e.bytes) := HLQ.out.cell 11 _ rfl
    have c12 : W.cell? ⟨Bx, 12, none⟩ = some (.int .i64 f.e.frames) := HLQ.out.cell 12 _ rfl
    have c13 : W.cell? ⟨Bx, 13, none⟩ = some (.int .u32 (f.e.sum : Int)) := HLQ.out.cell 13 _ rfl
    have c14 : W.cell? ⟨Bx, 14, none⟩ = some (.int .i64 (x1 : Int)) := HLQ.out.cell 14 _ rfl
    have c15 : W.cell? ⟨Bx, 15, none⟩ = some (.int .i64 (x2 : Int)) := HLQ.out.cell 15 _ rfl
    clear be bm hS hblk hP hq hk
    obtain ⟨LP, hLP⟩ : ∃ LP, LP = P.filter (isw [1, 2]) := ⟨_, rfl⟩
    rw [← hLP] at HJ HSN j hpl
    clear hLP
    obtain ⟨av, cv, hve, hcv⟩ := j.shape
    rw [List.length_map] at hve hcv
    subst hve
    clear j
    have hsW := HS.out.size
    by_cases hw : (q : Int) ∈ ([1, 2] : List Int)
    · rw [decide_eq_true hw] at cM
      rw [if_pos hw] at HSN
      clear hw
      have hone : ∀ u ∈ ([.int .i64 (q : Int), .int .u64 (f.r.lsn : Int), .int .i64 f.r.kind, .string f.r.key, .string f.r.val, .int .u64 (f.p.lsn : Int), .int .i64 f.p.kind, .int .i64 f.p.at_, .int .i64 f.p.len, .string f.p.key, .int .i64 f.e.count, .int .i64 f.e.bytes, .int .i64 f.e.frames, .int .u32 (f.e.sum : Int), .int .i64 (x1 : Int), .int .i64 (x2 : Int)] : List Value), u.oneCell' = true := by rw [HLE.out]; exact lcv_one _
      have HONE := hd hone
      clear hone
      have fE := BE.out.frozen
      gi_wp2_with (gi_at_builtin; refine wpListIn_append_jr Try.underlying49 info_lc rfl (by decide) _ rfl _ _ rfl (N + 4) (.slice av LP.length cv) (LP.map lcv) W.heap.size 1 [.int .i64 (q : Int), .int .u64 (f.r.lsn : Int), .int .i64 f.r.kind, .string f.r.key, .string f.r.val, .int .u64 (f.p.lsn : Int), .int .i64 f.p.kind, .int .i64 f.p.at_, .int .i64 f.p.len, .string f.p.key, .int .i64 f.e.count, .int .i64 f.e.bytes, .int .i64 f.e.frames, .int .u32 (f.e.sum : Int), .int .i64 (x1 : Int), .int .i64 (x2 : Int)] rfl rfl (HJ.out.alloc _) rfl HONE.out (fun j u hu => cell_lit W _ _ j u _ rfl hu) (LP.length + 1) (by rw [List.length_map]) (by omega) (by unfold maxLen; omega) (by rw [World.size_alloc]; omega) ?_; intro g3 c3 w3 hj3 hg3 hw3; have be3 := Boxed.grownJ (BE.out.alloc _) (HJ.out.alloc _) (by decide) hg3; have p1 := be3.cell; have p2 := be3.frozen; have HJ3 := hd hj3; have HG3 := hd hg3; clear hj3 hg3 be3 hw3)
      have hfin := rc_step (x := (x1, x2, f)) (pre := P) (zs := [1, 2]) hs4.symm BE.out BM.out HJ.out HS.out HG3.out (by
        rw [HSN.out, List.map_append, List.map_singleton, ← HLE.out]
        exact HJ3.out)
      rw [← HMP.out] at hfin
      exact ⟨hfin.1.from _, hfin.2.1, hfin.2.2⟩
    · rw [decide_eq_false hw] at cM
      rw [if_neg hw, List.append_nil] at HSN
      clear hw
      gi_wp2
      refine ⟨(KeepsOthers.refl _).from _, KeepS.refl _, ?_⟩
      show RcInv N [1, 2] w4 ((pre ++ [(⟨(x1, x2, f), hx⟩ : PL l.length)]).map Subtype.val) W
      rw [HMP.out]
      refine ⟨⟨_, BE.out, BM.out, ?_⟩, HS.out⟩
      rw [HSN.out]
      exact HJ.out
  case done =>
    rintro D ys V hD hys ⟨⟨ve, be, bm, j⟩, hS⟩ hKD
    gi_wp2
    refine HK.out _ _ ?_
    clear HK
    have hex : (ys.map Subtype.val).filter (isw [1, 2]) = recs [1, 2] l := by rw [hys]; rfl
    rw [hex] at j
    have cE := be.cell
    have HJ := hd j
    have HS := hd hS
    have HKD := hd hKD
    clear be bm j hS hex hys hKD
    gi_wp2
    have hKD2 := HKD.out
    refine ⟨by simp, .inl ⟨_, _, rfl, run_takeDeferred hKD2, ?_⟩⟩
    have hN1 := HN1.out
    refine ⟨_, results_tmp rfl _ _ _, ve, rfl, ?_, ?_⟩
    · exact (HJ.out.kept (grownBy_putObj' V D _) (fun r e => by cases e; exact ⟨_, hKD2, rfl⟩)).lower (by omega)
    · have b1 : Below w.heap.size w V := hB4.out.trans (HS.out.below (fun g hg => Or.inl (by omega)))
      exact b1.trans (belowK_b (w := w) (by omega) V D _ _ (by have := hB4.out.size; omega) hKD2 rfl rfl)
  case stop =>
    rintro D c2 pre W hD hp h hK
    exact h.elim
end Vt
end Go.Proofs.Ytlddogigbodilaa
namespace Go.Proofs.Ytlddogigbodilaa
open Go Go.RowKit

theorem ready_spec {md : Region.Mode} {ops : Array Oper} {L : Array Bool} {i : Nat} (h : i ∈ Region.ready md ops L) :
    ∃ o, ops[i]? = some o ∧ i < ops.size ∧ L.getD i true = false ∧ ∀ e ∈ o.after, Region.binds md e = true → L.getD e.on false = true := by
  unfold Region.ready at h
  obtain ⟨h1, h2⟩ := List.mem_filter.1 h
  have hi : i < ops.size := by simpa using h1
  have ho : ops[i]? = some ops[i] := Array.getElem?_eq_getElem hi
  rw [ho] at h2
  simp only [Option.map_some, Option.getD_some, Bool.and_eq_true, Bool.not_eq_eq_eq_not, Bool.not_true, Array.all_eq_true'] at h2
  refine ⟨ops[i], ho, hi, h2.1, fun e he hb => ?_⟩
  have := h2.2 e he
  rw [hb] at this
  simpa using this
theorem ready_nil {md : Region.Mode} {ops : Array Oper} {L : Array Bool} (h : ∀ i, i < ops.size → L.getD i true = true) : Region.ready md ops L = [] := by
  unfold Region.ready
  rw [List.filter_eq_nil_iff]
  intro i hi
  rw [h i (by simpa using hi)]
  simp
/-- how many are not yet listed -/
def left (L : Array Bool) : Nat := L.toList.countP (fun b => !b)
theorem left_set {L : Array Bool} {i : Nat} (h : L.getD i true = false) : left (L.setIfInBounds i true) + 1 = left L := by
  have hi : i < L.size := by
    rcases Nat.lt_or_ge i L.size with h' | h'
    · exact h'
    · rw [Array.getD_eq_getD_getElem?, Array.getElem?_eq_none h'] at h; simp at h
  have hv : L.toList[i]'(by simpa using hi) = false := by
    rw [Array.getD_eq_getD_getElem?, Array.getElem?_eq_getElem hi] at h
    simpa using h
  unfold left
  rw [Array.toList_setIfInBounds, List.countP_set (by simpa using hi), hv]
  have hpos : 0 < L.toList.countP (fun b => !b) := List.countP_pos_iff.2 ⟨false, by rw [← hv]; exact List.getElem_mem _, rfl⟩
  rw [if_pos (by decide), if_neg (by decide)]
  omega
theorem left_zero {L : Array Bool} (h : left L = 0) (i : Nat) (hi : i < L.size) : L.getD i true = true := by
  unfold left at h
  rw [List.countP_eq_zero] at h
  have := h L[i] (by simp)
  rw [Array.getD_eq_getD_getElem?, Array.getElem?_eq_getElem hi]
  simpa using this
theorem wpAny_inv {P : Program} {md : Region.Mode} {ops : Array Oper} {Q : Exit → Act → World → Prop} (I : Array Bool → Act → World → Prop)
    (hsz : ∀ L a w, I L a w → L.size = ops.size)
    (hstep : ∀ L a w i, I L a w → i ∈ Region.ready md ops L → wpOp P ops Q i (fun a' w' => I (L.setIfInBounds i true) a' w') a w)
    (hdone : ∀ L a w, I L a w → Region.ready md ops L = [] → Q .normal a w) :
    ∀ fuel L a w, I L a w → left L ≤ fuel → wpAny P md ops Q fuel L a w := by
  intro fuel
  induction fuel with
  | zero =>
    intro L a w h hl
    have hr : Region.ready md ops L = [] := ready_nil fun i hi => left_zero (by omega) i (by rw [hsz L a w h]; exact hi)
    exact ⟨hr, hdone L a w h hr⟩
  | succ fuel ih =>
    intro L a w h hl
    refine ⟨fun hr => hdone L a w h hr, fun i hi => ?_⟩
    obtain ⟨o, ho, hlt, hL, _⟩ := ready_spec hi
    have := left_set hL
    exact wpOp_mono (fun a' w' h' => ih _ a' w' h' (by omega)) (hstep L a w i h hi)

/-- each operation's forerunners stand ahead of it -/
def aftersAhead (ops : Array Oper) : Bool := (List.range ops.size).all fun i => ((ops[i]?).map fun o => o.after.all fun e => decide (e.on < i)).getD true
theorem all_listed {md : Region.Mode} {ops : Array Oper} {L : Array Bool} (h : aftersAhead ops = true) (hs : L.size = ops.size) (hr : Region.ready md ops L = []) : ∀ i, i < ops.size → L.getD i false = true := by
  intro i
  induction i using Nat.strongRecOn with
  | _ i ih =>
    intro hi
    refine Classical.byContradiction fun hn => ?_
    have hL : L.getD i true = false := by
      rw [Array.getD_eq_getD_getElem?, Array.getElem?_eq_getElem (by omega)] at hn ⊢
      simpa using hn
    have ho : ops[i]? = some ops[i] := Array.getElem?_eq_getElem hi
    have hmem : i ∈ Region.ready md ops L := by
      unfold Region.ready
      refine List.mem_filter.2 ⟨by simpa using hi, ?_⟩
      rw [hL, ho]
      simp only [Option.map_some, Option.getD_some, Bool.not_false, Bool.true_and, Array.all_eq_true']
      intro e he
      have hlt : e.on < i := by
        unfold aftersAhead at h
        have := List.all_eq_true.1 h i (by simpa using hi)
        rw [ho] at this
        simp only [Option.map_some, Option.getD_some, Array.all_eq_true', decide_eq_true_eq] at this
        exact this e he
      rw [ih e.on hlt (by omega)]
      simp
    rw [hr] at hmem
    simp at hmem
/-- where an operation writes -/
def dstOf (ops : Array Oper) (i : Nat) : Option Nat := (ops[i]?).bind (·.dst)
def dstsApart (ops : Array Oper) (n : Nat) : Bool :=
  (List.range ops.size).all fun i => match dstOf ops i with
    | none => false
    | some d => decide (d < n) && (List.range ops.size).all fun j => decide (i = j) || !(dstOf ops j == some d)
theorem dsts_spec {ops : Array Oper} {n : Nat} (h : dstsApart ops n = true) {i : Nat} (hi : i < ops.size) : ∃ d, dstOf ops i = some d ∧ d < n ∧ ∀ j, j < ops.size → j ≠ i → dstOf ops j ≠ some d := by
  unfold dstsApart at h
  have := List.all_eq_true.1 h i (by simpa using hi)
  split at this
  · simp at this
  · rename_i d hd
    simp only [Bool.and_eq_true, decide_eq_true_eq, List.all_eq_true, List.mem_range, Bool.or_eq_true, Bool.not_eq_eq_eq_not, Bool.not_true, beq_eq_false_iff_ne] at this
    refine ⟨d, hd, this.1, fun j hj hne => ?_⟩
    rcases this.2 j hj with h' | h'
    · exact absurd h'.symm hne
    · exact h'
def notDst (ops : Array Oper) (k : Nat) : Bool := (List.range ops.size).all fun j => !(dstOf ops j == some k)
theorem notDst_spec {ops : Array Oper} {k : Nat} (h : notDst ops k = true) : ∀ j, j < ops.size → dstOf ops j ≠ some k := by
  intro j hj
  have := List.all_eq_true.1 h j (by simpa using hj)
  simpa using this
theorem yielded_of {ops : Array Oper} {a : Act} {j d : Nat} {b : Bool} (hd : dstOf ops j = some d) (hs : d < a.tmps.size) (hv : a.tmps.getD d undef = .bool b) : yielded ops a.tmps j = some b := by
  unfold yielded
  unfold dstOf at hd
  rw [hd, Option.bind_some]
  rw [Array.getD_eq_getD_getElem?, Array.getElem?_eq_getElem hs] at hv
  rw [Array.getElem?_eq_getElem hs]
  simp only [Option.getD_some] at hv
  rw [hv]
/-- the slot that operation i has filled -/
def slotOf (ops : Array Oper) (a : Act) (i : Nat) : Value := a.tmps.getD ((dstOf ops i).getD 0) undef
theorem getD_put (a : Act) (d k : Nat) (v : Value) (hd : d < a.tmps.size) : (a.put (some d) v).tmps.getD k undef = if k = d then v else a.tmps.getD k undef := by
  simp only [Act.put, Array.getD_eq_getD_getElem?, Array.getElem?_setIfInBounds]
  by_cases h : k = d
  · subst h; simp [hd]
  · rw [if_neg (by omega), if_neg h]

theorem getq {a : Act} {k : Nat} {v : Value} (h : a.tmps.getD k undef = v) : a.tmps[k]?.getD undef = v := by rwa [Array.getD_eq_getD_getElem?] at h
/-- an operation that is wanted and yields something good -/
theorem step_good {P : Program} {o : Oper} {a : Act} {w : World} {Q : Exit → Act → World → Prop} {ops : Array Oper} (good : Value → World → Prop) (hw : Region.wanted o (yielded ops a.tmps) = true)
    (h : ∀ K : Act → World → Prop, (∀ v w', good v w' → K (a.put o.dst v) w') → o.wp P a w K Q) :
    if Region.wanted o (yielded ops a.tmps) then o.wp P a w (fun a' w' => ∃ v, a' = a.put o.dst v ∧ good v w') Q else False := by
  rw [if_pos hw]
  exact h _ (fun v w' hg => ⟨v, rfl, hg⟩)
theorem wanted_none {o : Oper} {f : Nat → Option Bool} (h : o.guard = none) : Region.wanted o f = true := by
  unfold Region.wanted; rw [h]
theorem wanted_some {o : Oper} {f : Nat → Option Bool} {j : Nat} {b : Bool} (h : o.guard = some (j, b)) (hf : f j = some b) : Region.wanted o f = true := by
  unfold Region.wanted; rw [h]; simp [hf]
/-- THE REGION BY AN INVARIANT. 'G i v w': what operation i has yielded, v, is good in the world w; it stays so while the world grows ('W', 'stable'); each operation, its forerunners' yields being good, yields something good ('step'). -/
theorem region_inv {P : Program} {id : Nat} {ops : Array Oper} {Q : Exit → Act → World → Prop} {a0 : Act} {w0 : World} (G : Nat → Value → World → Prop) (W : World → Prop)
    (hm : P.follows .mixedOrders = true) (hd : dstsApart ops a0.tmps.size = true) (hah : aftersAhead ops = true) (hW0 : W w0.drew)
    (stable : ∀ i v w w', W w → W w' → Below w.heap.size w w' → G i v w → G i v w')
    (step : ∀ i o, ops[i]? = some o → ∀ a w, W w → a.defers = a0.defers → a.tmps.size = a0.tmps.size →
      (∀ k, (∀ j, j < ops.size → dstOf ops j ≠ some k) → a.tmps.getD k undef = a0.tmps.getD k undef) →
      (∀ e ∈ o.after, Region.binds .any e = true → G e.on (slotOf ops a e.on) w) →
      (if Region.wanted o (yielded ops a.tmps) then o.wp P a w (fun a' w' => ∃ v, a' = a.put o.dst v ∧ Below w.heap.size w w' ∧ W w' ∧ G i v w') Q else False))
    (done : ∀ a w, W w → a.defers = a0.defers → a.tmps.size = a0.tmps.size →
      (∀ k, (∀ j, j < ops.size → dstOf ops j ≠ some k) → a.tmps.getD k undef = a0.tmps.getD k undef) →
      (∀ i, i < ops.size → G i (slotOf ops a i) w) → Q .normal a w) :
    (Code.region id ops true).wp P Q a0 w0 := by
  refine wp_region_any hm ?_
  refine wpAny_inv (fun L a w => L.size = ops.size ∧ W w ∧ a.defers = a0.defers ∧ a.tmps.size = a0.tmps.size ∧
      (∀ k, (∀ j, j < ops.size → dstOf ops j ≠ some k) → a.tmps.getD k undef = a0.tmps.getD k undef) ∧
      (∀ i, i < ops.size → L.getD i false = true → G i (slotOf ops a i) w)) (fun L a w h => h.1) ?_ ?_ _ _ _ _ ?_ ?_
  · rintro L a w i ⟨h1, h2, h3, h4, h5, h6⟩ hi
    obtain ⟨o, ho, hlt, hL, haf⟩ := ready_spec hi
    obtain ⟨d, hdi, hdn, hdj⟩ := dsts_spec hd hlt
    have hod : o.dst = some d := by simpa [dstOf, ho] using hdi
    have hst := step i o ho a w h2 h3 h4 h5 (fun e he hb => h6 e.on (by
      have := haf e he hb
      rcases Nat.lt_or_ge e.on ops.size with h' | h'
      · exact h'
      · rw [Array.getD_eq_getD_getElem?, Array.getElem?_eq_none (by omega)] at this; simp at this) (haf e he hb))
    unfold wpOp
    rw [ho]
    split at hst
    · rename_i hw
      simp only [hw, if_true]
      refine .inl (Oper.wp_mono ?_ hst)
      rintro a' w' ⟨v, rfl, hb, hW', hG⟩
      have hda : d < a.tmps.size := by omega
      rw [hod]
      refine ⟨by rw [Array.size_setIfInBounds]; exact h1, hW', by simp only [Act.put]; exact h3, by simp only [Act.put, Array.size_setIfInBounds]; exact h4, ?_, ?_⟩
      · intro k hk
        rw [getD_put _ _ _ _ hda, if_neg (fun e => hk i hlt (by rw [e]; exact hdi))]
        exact h5 k hk
      · intro j hj hLj
        by_cases e : j = i
        · subst e
          unfold slotOf
          rw [hdi, Option.getD_some, getD_put _ _ _ _ hda, if_pos rfl]
          exact hG
        · obtain ⟨dj, hdj1, hdj2, hdj3⟩ := dsts_spec hd hj
          have hne : dj ≠ d := fun e2 => hdj j hj e (by rw [← e2]; exact hdj1)
          unfold slotOf
          rw [hdj1, Option.getD_some, getD_put _ _ _ _ hda, if_neg hne]
          have hLj' : L.getD j false = true := by
            rw [Array.getD_eq_getD_getElem?, Array.getElem?_setIfInBounds_ne (by omega)] at hLj
            rw [Array.getD_eq_getD_getElem?]; exact hLj
          have := h6 j hj hLj'
          unfold slotOf at this
          rw [hdj1, Option.getD_some] at this
          exact stable j _ w w' h2 hW' hb this
    · exact hst.elim
  · rintro L a w ⟨h1, h2, h3, h4, h5, h6⟩ hr
    exact done a w h2 h3 h4 h5 fun i hi => h6 i hi (all_listed hah h1 hr i hi)
  · refine ⟨by simp, hW0, rfl, rfl, fun _ _ => rfl, fun i hi h => ?_⟩
    rw [Array.getD_eq_getD_getElem?, Array.getElem?_replicate] at h
    simp [hi] at h
  · unfold left
    exact Nat.le_trans (List.countP_le_length) (by simp)
end Go.Proofs.Ytlddogigbodilaa
