/-
  small facts for ranges over located: boxes and blocks beside a row that grows; the set that a loop keeps.
  THE REFERENCE OF LAYER 5: All: every place is asked whether a frame begins there.
  scan.marks: of each kind that a frame may have, whether it is named.
-/
import Derived.Test.YtifjjoobbegpoaaMhbh
import Derived.Test.YtifjjoobbegpoaaMhbg
namespace Go.Proofs.Ytifjjoobbegpoaa
open Go.RowKit Go.Shelf
namespace Vt
theorem grown_alloc {w w' : World} {o : Obj} {row : Option Nat} (h : (w.alloc o).grownBy w' row) : w.grownBy w' row := by
  refine ⟨h.os, h.tape, h.output, by have := h.size; rw [World.size_alloc] at this; omega, fun k hk hr => ?_⟩
  rw [h.block k (by rw [World.size_alloc]; omega) hr, Below.heap_alloc w o k hk]
theorem cell_lit (w : World) (t : TypeId) (cs : List Value) (j : Nat) (u : Value) (g : Nat) (hg : g = w.heap.size) (h : cs[j]? = some u) : (w.alloc (.cells cs.toArray t)).cell? ⟨g, j, none⟩ = some u := by
  subst hg
  rw [World.cell?_alloc_new]
  simpa using h
theorem Boxed.grownJ {E : TypeId} {sz : Nat} {w w' : World} {B base : Nat} {t : TypeId} {u v : Value} {l : List (List Value)} (h : Boxed w B t u) (hr : JR E sz w base v l) (hte : t ≠ E) (hg : w.grownBy w' v.ownBlock) : Boxed w' B t u := h.kept hg (hr.not_box h hte)
theorem Blk.grownJ {E : TypeId} {sz : Nat} {w w' : World} {B base : Nat} {t : TypeId} {cs : List Value} {v : Value} {l : List (List Value)} (h : Blk w B t cs) (hr : JR E sz w base v l) (hte : t ≠ E) (hg : w.grownBy w' v.ownBlock) : Blk w' B t cs := h.grown hg (hr.not_blk h hte)
/-- the set that the loop keeps: all below N, and the box of the bytes -/
def SE (N : Nat) (g : Nat) : Prop := g < N ∨ g = N + 2
theorem se_lt {N : Nat} {W : World} (h : N + 4 ≤ W.heap.size) : ∀ g, SE N g → g < W.heap.size := by
  intro g hg
  unfold SE at hg
  omega
end Vt
end Go.Proofs.Ytifjjoobbegpoaa
namespace Go.Proofs.Ytifjjoobbegpoaa
open Go.RowKit Go.Shelf
namespace Vt
attribute [local go_sem] Oper.semAt_some
abbrev JFo := JR 75 16
/-- the cells of a frame that was found -/
def fov (x : Lc) : List Value := [.int .i64 (x.1 : Int), .int .i64 (x.2.1 : Int), .int .i64 x.2.2.kind, .int .u64 (x.2.2.r.lsn : Int), .int .i64 x.2.2.r.kind, .string x.2.2.r.key, .string x.2.2.r.val, .int .u64 (x.2.2.p.lsn : Int), .int .i64 x.2.2.p.kind, .int .i64 x.2.2.p.at_, .int .i64 x.2.2.p.len, .string x.2.2.p.key, .int .i64 x.2.2.e.count, .int .i64 x.2.2.e.bytes, .int .i64 x.2.2.e.frames, .int .u32 (x.2.2.e.sum : Int)]
theorem info_fo : (Try.prog.info? 75).map (fun i => (i.zero, i.size, i.bytes)) = some (some (.agg #[.int .i64 0, .int .i64 0, .int .i64 0, .int .u64 0, .int .i64 0, .string ⟨#[]⟩, .string ⟨#[]⟩, .int .u64 0, .int .i64 0, .int .i64 0, .int .i64 0, .string ⟨#[]⟩, .int .i64 0, .int .i64 0, .int .i64 0, .int .u32 0]), 16, 152) := by kernel_rfl
theorem fov_one (x : Lc) : ∀ u ∈ fov x, u.oneCell' = true := by
  intro u hu
  simp only [fov, List.mem_cons, List.mem_nil_iff, or_false] at hu
  rcases hu with rfl | rfl | rfl | rfl | rfl | rfl | rfl | rfl | rfl | rfl | rfl | rfl | rfl | rfl | rfl | rfl <;> rfl
theorem locs_step {l : List Nat} {k : Nat} (hk : k < l.length) : ((dcd (l.drop k)).2.2 = 0 → locs k (l.drop k) = (k, (dcd (l.drop k)).2.1, (dcd (l.drop k)).1) :: locs (k + 1) (l.drop (k + 1))) ∧ ((dcd (l.drop k)).2.2 ≠ 0 → locs k (l.drop k) = locs (k + 1) (l.drop (k + 1))) := by
  have e : l.drop k = l[k] :: l.drop (k + 1) := List.drop_eq_getElem_cons hk
  constructor
  · intro h
    rw [e] at h ⊢
    rw [locs, if_pos h]
  · intro h
    rw [e] at h ⊢
    rw [locs, if_neg h]
theorem decF_at {l : List Nat} {k : Nat} (hk : k < l.length) : decF l (k : Int) = dcd (l.drop k) := by
  unfold decF
  rw [if_neg (by omega), Int.toNat_natCast]
set_option maxRecDepth 100000 in
set_option maxHeartbeats 2000000 in
theorem r5_all (v : Value) (l : List Nat) (w : World) (hI : IsB w v l) (hl : l.length ≤ 16777216) :
    Calls Try.prog 33 #[v] w fun e w' => ∃ v', e = .returned v' ∧ JFo w' w.heap.size v' ((locs 0 l).map fov) ∧ Below w.heap.size w w' := by
  obtain ⟨a, c, rfl⟩ := hI.shape
  have HI := hd hI
  have hby := hI.1
  have HLL := hd (fun k => locs_len (byt_drop hby k) _ (Nat.le_refl _) k)
  clear hI hby
  go_enter Try.func33, Try.ntmps33
  go_wp2_with fail
  go_loopw [3, 4] (fun o i wr => ∃ (k : Nat) (pre : List Lc), k ≤ l.length ∧ i = .int .i64 (k : Int) ∧ JFo wr w.heap.size o (pre.map fov) ∧ pre ++ locs k (l.drop k) = locs 0 l ∧ Below w.heap.size w wr) (fun _ i _ => l.length - (intOf i).toNat)
  case atStart => exact ⟨0, [], by omega, rfl, jr_nil _ _, by simp, Below.refl _ _⟩
  case round =>
    obtain ⟨k, pre, hk, rfl, hj, hpre, hb⟩ := hrel
    obtain ⟨av, cv, rfl, hcv⟩ := hj.shape
    have hpl : (pre.map fov).length = pre.length := List.length_map _
    have hpn : 9 * pre.length ≤ l.length := by
      have h1 := HLL.out 0
      rw [List.drop_zero, ← hpre, List.length_append] at h1
      omega
    rw [hpl] at hcv hj ⊢
    have HJ := hd hj
    have HPRE := hd hpre
    have HB := hd hb
    have hsz := hb.size
    clear hj hpre hb
    by_cases hlt : k < l.length
    · have HST := hd (locs_step hlt)
      have HDE := hd (fun w' (h : Below w.heap.size w w') => r4_decode _ l (k : Int) w' (HI.out.below h) (by omega))
      rw [decF_at hlt] at HDE
      obtain ⟨f, q, er, hdd⟩ : ∃ f q er, dcd (l.drop k) = (f, q, er) := ⟨_, _, _, rfl⟩
      rw [hdd] at HDE HST
      clear hdd
      obtain ⟨fk, ⟨rl, rk, rkey, rval⟩, ⟨pl, pk, pa, pn, pkey⟩, ⟨ec, eb, ef, es⟩⟩ := f
      simp only [dval, fv] at HDE
      go_wp2_with fail
      refine Calls.mono (HDE.out _ HB.out) ?_
      rintro e w1 ⟨rfl, hb1⟩
      have HJ1 := hd (HJ.out.keepAll hb1)
      have HB1 := hd (HB.out.trans (hb1.mono hsz))
      have hs1 := hb1.size
      clear hb1 HDE HJ HB
      by_cases her : er = 0
      · subst her
        have HS1 := hd (HST.out.1 rfl)
        have HONE : Hid (∀ u ∈ ([.int .i64 (k : Int), .int .i64 (q : Int), .int .i64 fk, .int .u64 (rl : Int), .int .i64 rk, .string rkey, .string rval, .int .u64 (pl : Int), .int .i64 pk, .int .i64 pa, .int .i64 pn, .string pkey, .int .i64 ec, .int .i64 eb, .int .i64 ef, .int .u32 (es : Int)] : List Value), u.oneCell' = true) := hd (fov_one (k, q, ⟨fk, ⟨rl, rk, rkey, rval⟩, ⟨pl, pk, pa, pn, pkey⟩, ⟨ec, eb, ef, es⟩⟩))
        clear HST
        go_wp2_with (at_builtin; refine wpList_append_jr Try.underlying72 info_fo rfl (by decide) _ rfl _ _ rfl w.heap.size (.slice av pre.length cv) (pre.map fov) (w1.heap.size + 1) 1 [.int .i64 (k : Int), .int .i64 (q : Int), .int .i64 fk, .int .u64 (rl : Int), .int .i64 rk, .string rkey, .string rval, .int .u64 (pl : Int), .int .i64 pk, .int .i64 pa, .int .i64 pn, .string pkey, .int .i64 ec, .int .i64 eb, .int .i64 ef, .int .u32 (es : Int)] rfl rfl ((HJ1.out.alloc _).alloc _) rfl HONE.out (fun j u hu => cell_lit (w1.alloc _) _ _ j u _ (by simp) hu) (pre.length + 1) (by rw [hpl]) (by omega) (by unfold maxLen; omega) (by simp; omega) ?_; intro g3 c3 w3 hj3 hg3 hw3)
        have hb3 := (((HB1.out.alloc (by omega) _).alloc (by simp; omega) _).grown hg3 (by simp; omega) (fun g e => HJ1.out.blk_ge g e))
        go_roundw
        case rel => exact ⟨k + 1, pre ++ [(k, q, ⟨fk, ⟨rl, rk, rkey, rval⟩, ⟨pl, pk, pa, pn, pkey⟩, ⟨ec, eb, ef, es⟩⟩)], by omega, by go_num, by rw [List.map_append]; exact hj3, by rw [List.append_assoc, ← HPRE.out, HS1.out]; rfl, hb3⟩
        case measure => simp [intOf]; omega
      · have e1 : ((er : Int) == 0) = false := by rw [beq_eq_false_iff_ne]; omega
        have HS1 := hd (HST.out.2 her)
        clear HST her
        go_wp2_with fail
        go_roundw
        case rel => exact ⟨k + 1, pre, by omega, by go_num, HJ1.out.alloc _, by rw [← HPRE.out, HS1.out], HB1.out.alloc (by omega) _⟩
        case measure => simp [intOf]; omega
    · obtain rfl : k = l.length := by omega
      have HL2 : Hid (pre = locs 0 l) := hd (by
        have := HPRE.out
        rwa [List.drop_length, locs_nil, List.append_nil] at this)
      go_wp2_with fail
      go_ret
      exact ⟨_, rfl, by rw [← HL2.out]; exact HJ.out, HB.out⟩
end Vt
end Go.Proofs.Ytifjjoobbegpoaa
namespace Go.Proofs.Ytifjjoobbegpoaa
open Go.RowKit Go.Shelf
namespace Vt
/-- the five marks -/
def mks (zs : List Int) : List Value := [.bool false, .bool (decide (1 ∈ zs)), .bool (decide (2 ∈ zs)), .bool (decide (3 ∈ zs)), .bool (decide (4 ∈ zs))]
theorem mks_no {zs : List Int} {z : Int} (h : ¬ (1 ≤ z ∧ z ≤ 4)) : mks (zs ++ [z]) = mks zs := by
  have e : ∀ k : Int, 1 ≤ k → k ≤ 4 → decide (k ∈ zs ++ [z]) = decide (k ∈ zs) := by
    intro k h1 h2
    have hne : (z == k) = false := by rw [beq_eq_false_iff_ne]; omega
    have hne' : (k == z) = false := by rw [beq_eq_false_iff_ne]; omega
    have : ¬ k = z := by omega
    simp [this]
  unfold mks
  rw [e 1 (by omega) (by omega), e 2 (by omega) (by omega), e 3 (by omega) (by omega), e 4 (by omega) (by omega)]
theorem mks_1 {zs : List Int} : mks (zs ++ [1]) = (mks zs).set 1 (.bool true) := by simp [mks]
theorem mks_2 {zs : List Int} : mks (zs ++ [2]) = (mks zs).set 2 (.bool true) := by simp [mks]
theorem mks_3 {zs : List Int} : mks (zs ++ [3]) = (mks zs).set 3 (.bool true) := by simp [mks]
theorem mks_4 {zs : List Int} : mks (zs ++ [4]) = (mks zs).set 4 (.bool true) := by simp [mks]
theorem take_snoc {zs : List Int} {k : Nat} (h : k < zs.length) : zs.take (k + 1) = zs.take k ++ [zs.getD k 0] := by
  rw [List.take_add_one, List.getD_eq_getElem?_getD, List.getElem?_eq_getElem h]; rfl
set_option maxRecDepth 100000 in
set_option maxHeartbeats 1000000 in
theorem marks_is (b off c : Nat) (zs : List Int) (w : World) (hb : b < w.heap.size) (hz : ∀ i, i < zs.length → w.cell? ⟨b, off + i, none⟩ = some (.int .i64 (zs.getD i 0))) (hm : zs.length ≤ 4611686018427387904) :
    Calls Try.prog 31 #[.slice (some ⟨b, off, none⟩) zs.length c] w fun e w' => e = .returned (.agg (mks zs).toArray) ∧ Below w.heap.size w w' := by
  have HZ := hd hz
  clear hz
  go_enter Try.func31, Try.ntmps31
  go_wp2_with fail
  go_loopw [8] (fun i wr => ∃ k : Nat, k ≤ zs.length ∧ i = .int .i64 (k : Int) ∧ Blk wr (w.heap.size + 1) 67 (mks (zs.take k)) ∧ Blk wr w.heap.size 67 (mks []) ∧ Below w.heap.size w wr) (fun i _ => zs.length - (intOf i).toNat)
  case atStart =>
    refine ⟨0, by omega, rfl, ?_, ?_, ?_⟩
    · have := Blk.new (w.alloc (.cells (mks []).toArray 67)) 67 (mks [])
      rwa [World.size_alloc] at this
    · exact (Blk.new w 67 (mks [])).alloc _
    · exact ((Below.refl _ _).alloc (Nat.le_refl _) _).alloc (by simp) _
  case round =>
    obtain ⟨k, hk, rfl, hM, hR, hB⟩ := hrel
    by_cases hlt : k < zs.length
    · have hc : wr.cell? ⟨b, off + k, none⟩ = some (.int .i64 (zs.getD k 0)) := by rw [hB.cell hb]; exact HZ.out k hlt
      have hts := take_snoc hlt
      have HM := hd hM
      have HR := hd hR
      have HB := hd hB
      have fM := hM.frozen
      clear hM hR hB
      generalize zs.getD k 0 = z at *
      have HTS := hd hts
      clear hts
      by_cases h1 : z = 1
      · subst h1
        have cM := HM.out.cell 1 _ rfl
        have HM2 := hd (HM.out.set (j := 1) (.bool true))
        rw [← mks_1, ← HTS.out] at HM2
        have HR2 := hd (HR.out.other (p := ⟨w.heap.size + 1, 1, none⟩) (by simp) (.bool true))
        have HB2 := hd (HB.out.setCell (p := ⟨w.heap.size + 1, 1, none⟩) (by simp) (.bool true))
        go_wp2_with fail
        go_roundw
        case rel => exact ⟨k + 1, by omega, by go_num, HM2.out, HR2.out, HB2.out⟩
        case measure => simp [intOf]; omega
      by_cases h2 : z = 2
      · subst h2
        have cM := HM.out.cell 2 _ rfl
        have HM2 := hd (HM.out.set (j := 2) (.bool true))
        rw [← mks_2, ← HTS.out] at HM2
        have HR2 := hd (HR.out.other (p := ⟨w.heap.size + 1, 2, none⟩) (by simp) (.bool true))
        have HB2 := hd (HB.out.setCell (p := ⟨w.heap.size + 1, 2, none⟩) (by simp) (.bool true))
        go_wp2_with fail
        go_roundw
        case rel => exact ⟨k + 1, by omega, by go_num, HM2.out, HR2.out, HB2.out⟩
        case measure => simp [intOf]; omega
      by_cases h3 : z = 3
      · subst h3
        have cM := HM.out.cell 3 _ rfl
        have HM2 := hd (HM.out.set (j := 3) (.bool true))
        rw [← mks_3, ← HTS.out] at HM2
        have HR2 := hd (HR.out.other (p := ⟨w.heap.size + 1, 3, none⟩) (by simp) (.bool true))
        have HB2 := hd (HB.out.setCell (p := ⟨w.heap.size + 1, 3, none⟩) (by simp) (.bool true))
        go_wp2_with fail
        go_roundw
        case rel => exact ⟨k + 1, by omega, by go_num, HM2.out, HR2.out, HB2.out⟩
        case measure => simp [intOf]; omega
      by_cases h4 : z = 4
      · subst h4
        have cM := HM.out.cell 4 _ rfl
        have HM2 := hd (HM.out.set (j := 4) (.bool true))
        rw [← mks_4, ← HTS.out] at HM2
        have HR2 := hd (HR.out.other (p := ⟨w.heap.size + 1, 4, none⟩) (by simp) (.bool true))
        have HB2 := hd (HB.out.setCell (p := ⟨w.heap.size + 1, 4, none⟩) (by simp) (.bool true))
        go_wp2_with fail
        go_roundw
        case rel => exact ⟨k + 1, by omega, by go_num, HM2.out, HR2.out, HB2.out⟩
        case measure => simp [intOf]; omega
      have hno : ¬ (1 ≤ z ∧ z ≤ 4) := by omega
      have HN := hd (mks_no (zs := zs.take k) hno)
      rw [← HTS.out] at HN
      rw [← HN.out] at HM
      clear h1 h2 h3 h4
      by_cases h0 : 1 ≤ z
      · have h5 : ¬ z ≤ 4 := by omega
        clear hno
        go_wp2_with fail
        go_roundw
        case rel => exact ⟨k + 1, by omega, by go_num, HM.out, HR.out, HB.out⟩
        case measure => simp [intOf]; omega
      · clear hno
        go_wp2_with fail
        go_roundw
        case rel => exact ⟨k + 1, by omega, by go_num, HM.out, HR.out, HB.out⟩
        case measure => simp [intOf]; omega
    · obtain rfl : k = zs.length := by omega
      rw [List.take_length] at hM
      have m0 := hM.cell 0 _ rfl
      have m1 := hM.cell 1 _ rfl
      have m2 := hM.cell 2 _ rfl
      have m3 := hM.cell 3 _ rfl
      have m4 := hM.cell 4 _ rfl
      have r0 := hR.cell 0 (.bool false) rfl
      have r1 := hR.cell 1 (.bool false) rfl
      have r2 := hR.cell 2 (.bool false) rfl
      have r3 := hR.cell 3 (.bool false) rfl
      have r4 := hR.cell 4 (.bool false) rfl
      have rf := hR.frozen
      have HM := hd hM
      have HR := hd hR
      have HB := hd hB
      clear hM hR hB
      go_wp2_with fail
      refine bodyPost_ret (results_cell_row rfl _ _ w.heap.size 67 (mks zs).toArray (0, 0) _ rfl ?_ Try.underlying67 rfl (by kernel_rfl)) rfl ?_
      · exact (((((HR.out.set (j := 0) _).set (j := 1) _).set (j := 2) _).set (j := 3) _).set (j := 4) _)
      · exact ⟨rfl, ((((HB.out.setCell (p := ⟨w.heap.size, 0, none⟩) (Nat.le_refl _) _).setCell (p := ⟨w.heap.size, 1, none⟩) (Nat.le_refl _) _).setCell (p := ⟨w.heap.size, 2, none⟩) (Nat.le_refl _) _).setCell (p := ⟨w.heap.size, 3, none⟩) (Nat.le_refl _) _).setCell (p := ⟨w.heap.size, 4, none⟩) (Nat.le_refl _) _⟩
end Vt
end Go.Proofs.Ytifjjoobbegpoaa
