/-
  THE WALKS OF A WRITER'S fits, Put, Sync, Now; of Start.
  A WRITER ON A DISK WITHOUT FAULTS, PLAINLY: what its segments hold.
-/
import Derived.Test.YtolddolfpnkndaaGreatXuap
import Derived.Test.YtolddolfpnkndaaGreatXuba
import Derived.Test.YtolddolfpnkndaaGreatXube
namespace Go.Proofs.YtolddolfpnkndaaGreat
open Go.RowKit Go.Maps Go.Sort
namespace Sg
open Vt Dk
attribute [local go_sem ↓] append_hid
def fit (W : Ws) (n : Nat) : Bool := decide (W.num ≠ 0) && (decide (W.laid = 0) || decide (W.laid + n ≤ W.lim))
set_option maxRecDepth 100000 in
set_option maxHeartbeats 1000000 in
theorem fits_is (w : World) (b d : Nat) (O : Nat → Prop) (W : Ws) (S : Ds) (n : Nat) (h : WK w b d O W S) (hl1 : W.laid < 1000000000) (hl2 : n < 1000000000) :
    Calls Tryz.prog 28 #[.pointer (some ⟨b, 0, none⟩), .int .i64 (n : Int)] w fun e w' => e = .returned (.bool (fit W n)) ∧ Below w.heap.size w w' := by
  have hmx : Tryz.prog.follows .mixedOrders = true := by kernel_rfl
  obtain ⟨v0, hv0⟩ : ∃ v0, v0 = w.drew := ⟨_, rfl⟩
  have d1 : Hid (v0.cell? ⟨b, 1, none⟩ = some (.int .i64 (W.lim : Int))) := by rw [hv0]; exact h.2.1.cell 1 _ rfl
  have d4 : Hid (v0.cell? ⟨b, 4, none⟩ = some (.int .u32 (W.num : Int))) := by rw [hv0]; exact h.2.1.cell 4 _ rfl
  have d5 : Hid (v0.cell? ⟨b, 5, none⟩ = some (.int .i64 (W.laid : Int))) := by rw [hv0]; exact h.2.1.cell 5 _ rfl
  have HB : Hid (Below w.heap.size w v0) := by rw [hv0]; exact ⟨rfl, rfl, rfl, Nat.le_refl _, fun _ _ => rfl⟩
  have HV := hd hv0
  clear h hv0
  go_enter Tryz.func28, Tryz.ntmps28
  go_wp2_with fail
  --REGION fi
  by_cases hz : W.num = 0
  · have HE : Hid (fit W n = false) := by show fit W n = false; unfold fit; simp [hz]
    have c4 : Hid (v0.cell? ⟨b, 4, none⟩ = some (.int .u32 0)) := by have q := d4.out; rw [hz] at q; exact q
    clear hz
    refine region_skip (fun i9 v9 _ => match i9 with
      | 0 => v9 = Value.pointer (some { block := b, off := 0 })
      | 1 => v9 = Value.pointer (some { block := b, off := 0 })
      | 2 => v9 = .pointer (some ⟨b, 4, none⟩)
      | 3 => v9 = .int .u32 0
      | 4 => v9 = .bool false
      | 5 => v9 = .bool false
      | 6 => v9 = undef
      | 7 => v9 = undef
      | 8 => v9 = undef
      | 9 => v9 = undef
      | 10 => v9 = undef
      | 11 => v9 = undef
      | 12 => v9 = undef
      | 13 => v9 = undef
      | 14 => v9 = undef
      | 15 => v9 = undef
      | 16 => v9 = undef
      | 17 => v9 = undef
      | 18 => v9 = undef
      | 19 => v9 = undef
      | 20 => v9 = undef
      | 21 => v9 = undef
      | 22 => v9 = undef
      | 23 => v9 = undef
      | 24 => v9 = .bool false
      | _ => v9 = .bool false) (fun w => w = v0) hmx (by kernel_rfl) (by kernel_rfl) HV.out.symm ?_ ?_ ?_
    · intro i9 v9 w8 w9 _ _ hb hG
      match i9, hG with
      | 0, h => exact h
      | 1, h => exact h
      | 2, h => exact h
      | 3, h => exact h
      | 4, h => exact h
      | 5, h => exact h
      | 6, h => exact h
      | 7, h => exact h
      | 8, h => exact h
      | 9, h => exact h
      | 10, h => exact h
      | 11, h => exact h
      | 12, h => exact h
      | 13, h => exact h
      | 14, h => exact h
      | 15, h => exact h
      | 16, h => exact h
      | 17, h => exact h
      | 18, h => exact h
      | 19, h => exact h
      | 20, h => exact h
      | 21, h => exact h
      | 22, h => exact h
      | 23, h => exact h
      | 24, h => exact h
      | n + 25, h => exact h
    · intro i9 o9 ho a9 w9 hW hdf hsz hout haf
      have ee0 := getq (show a9.tmps.getD 0 undef = Value.pointer (some { block := b, off := 0 }) from hout 0 (notDst_spec (by kernel_rfl)))
      have hsz2 : a9.tmps.size = 30 := hsz
      clear hout hsz hdf
      match i9, ho, haf with
      | 0, ho, haf =>
        obtain rfl := Option.some.inj ho
        refine skip_good _ (wanted_none rfl) ?_
        clear haf ho hsz2
        intro K hK
        simp only [List.getElem_toArray, List.getElem_cons_zero] at hK ⊢
        subst hW
        go_simp
        exact hK _ _ ⟨Below.refl _ _, rfl, rfl⟩
      | 1, ho, haf =>
        obtain rfl := Option.some.inj ho
        have f0 := getq (show a9.tmps.getD 5 undef = Value.pointer (some { block := b, off := 0 }) from haf ⟨0, .data⟩ (by simp) rfl)
        refine skip_good _ (wanted_none rfl) ?_
        clear haf ho hsz2
        intro K hK
        simp only [List.getElem_toArray, List.getElem_cons_succ, List.getElem_cons_zero] at hK ⊢
        subst hW
        go_simp
        exact hK _ _ ⟨Below.refl _ _, rfl, rfl⟩
      | 2, ho, haf =>
        obtain rfl := Option.some.inj ho
        have f1 := getq (show a9.tmps.getD 6 undef = Value.pointer (some { block := b, off := 0 }) from haf ⟨1, .data⟩ (by simp) rfl)
        refine skip_good _ (wanted_none rfl) ?_
        clear haf ho hsz2
        intro K hK
        simp only [List.getElem_toArray, List.getElem_cons_succ, List.getElem_cons_zero] at hK ⊢
        subst hW
        go_simp
        exact hK _ _ ⟨Below.refl _ _, rfl, rfl⟩
      | 3, ho, haf =>
        obtain rfl := Option.some.inj ho
        have f2 := getq (show a9.tmps.getD 7 undef = .pointer (some ⟨b, 4, none⟩) from haf ⟨2, .data⟩ (by simp) rfl)
        refine skip_good _ (wanted_none rfl) ?_
        clear haf ho hsz2
        intro K hK
        simp only [List.getElem_toArray, List.getElem_cons_succ, List.getElem_cons_zero] at hK ⊢
        subst hW
        have hc := c4.out
        go_simp
        exact hK _ _ ⟨Below.refl _ _, rfl, rfl⟩
      | 4, ho, haf =>
        obtain rfl := Option.some.inj ho
        have f3 := getq (show a9.tmps.getD 8 undef = .int .u32 0 from haf ⟨3, .data⟩ (by simp) rfl)
        refine skip_good _ (wanted_none rfl) ?_
        clear haf ho hsz2
        intro K hK
        simp only [List.getElem_toArray, List.getElem_cons_succ, List.getElem_cons_zero] at hK ⊢
        subst hW
        go_simp
        exact hK _ _ ⟨Below.refl _ _, rfl, rfl⟩
      | 5, ho, haf =>
        obtain rfl := Option.some.inj ho
        have f4 := getq (show a9.tmps.getD 9 undef = .bool false from haf ⟨4, .data⟩ (by simp) rfl)
        refine skip_good _ (wanted_none rfl) ?_
        clear haf ho hsz2
        intro K hK
        simp only [List.getElem_toArray, List.getElem_cons_succ, List.getElem_cons_zero] at hK ⊢
        subst hW
        go_simp
        exact hK _ _ ⟨Below.refl _ _, rfl, rfl⟩
      | 6, ho, haf =>
        obtain rfl := Option.some.inj ho
        have gg : a9.tmps.getD 10 undef = .bool false := haf ⟨5, .guard⟩ (by simp) rfl
        exact skip_no (b := false) rfl (yielded_of (d := 10) rfl (by omega) gg) rfl
      | 7, ho, haf =>
        obtain rfl := Option.some.inj ho
        have gg : a9.tmps.getD 10 undef = .bool false := haf ⟨5, .guard⟩ (by simp) rfl
        exact skip_no (b := false) rfl (yielded_of (d := 10) rfl (by omega) gg) rfl
      | 8, ho, haf =>
        obtain rfl := Option.some.inj ho
        have gg : a9.tmps.getD 10 undef = .bool false := haf ⟨5, .guard⟩ (by simp) rfl
        exact skip_no (b := false) rfl (yielded_of (d := 10) rfl (by omega) gg) rfl
      | 9, ho, haf =>
        obtain rfl := Option.some.inj ho
        have gg : a9.tmps.getD 10 undef = .bool false := haf ⟨5, .guard⟩ (by simp) rfl
        exact skip_no (b := false) rfl (yielded_of (d := 10) rfl (by omega) gg) rfl
      | 10, ho, haf =>
        obtain rfl := Option.some.inj ho
        have gg : a9.tmps.getD 10 undef = .bool false := haf ⟨5, .guard⟩ (by simp) rfl
        exact skip_no (b := false) rfl (yielded_of (d := 10) rfl (by omega) gg) rfl
      | 11, ho, haf =>
        obtain rfl := Option.some.inj ho
        have gg : a9.tmps.getD 10 undef = .bool false := haf ⟨5, .guard⟩ (by simp) rfl
        exact skip_no (b := false) rfl (yielded_of (d := 10) rfl (by omega) gg) rfl
      | 12, ho, haf =>
        obtain rfl := Option.some.inj ho
        have gg : a9.tmps.getD 16 undef = undef := haf ⟨11, .guard⟩ (by simp) rfl
        exact skip_un rfl (yielded_un (d := 16) rfl gg) rfl
      | 13, ho, haf =>
        obtain rfl := Option.some.inj ho
        have gg : a9.tmps.getD 16 undef = undef := haf ⟨11, .guard⟩ (by simp) rfl
        exact skip_un rfl (yielded_un (d := 16) rfl gg) rfl
      | 14, ho, haf =>
        obtain rfl := Option.some.inj ho
        have gg : a9.tmps.getD 16 undef = undef := haf ⟨11, .guard⟩ (by simp) rfl
        exact skip_un rfl (yielded_un (d := 16) rfl gg) rfl
      | 15, ho, haf =>
        obtain rfl := Option.some.inj ho
        have gg : a9.tmps.getD 16 undef = undef := haf ⟨11, .guard⟩ (by simp) rfl
        exact skip_un rfl (yielded_un (d := 16) rfl gg) rfl
      | 16, ho, haf =>
        obtain rfl := Option.some.inj ho
        have gg : a9.tmps.getD 16 undef = undef := haf ⟨11, .guard⟩ (by simp) rfl
        exact skip_un rfl (yielded_un (d := 16) rfl gg) rfl
      | 17, ho, haf =>
        obtain rfl := Option.some.inj ho
        have gg : a9.tmps.getD 16 undef = undef := haf ⟨11, .guard⟩ (by simp) rfl
        exact skip_un rfl (yielded_un (d := 16) rfl gg) rfl
      | 18, ho, haf =>
        obtain rfl := Option.some.inj ho
        have gg : a9.tmps.getD 16 undef = undef := haf ⟨11, .guard⟩ (by simp) rfl
        exact skip_un rfl (yielded_un (d := 16) rfl gg) rfl
      | 19, ho, haf =>
        obtain rfl := Option.some.inj ho
        have gg : a9.tmps.getD 16 undef = undef := haf ⟨11, .guard⟩ (by simp) rfl
        exact skip_un rfl (yielded_un (d := 16) rfl gg) rfl
      | 20, ho, haf =>
        obtain rfl := Option.some.inj ho
        have gg : a9.tmps.getD 16 undef = undef := haf ⟨11, .guard⟩ (by simp) rfl
        exact skip_un rfl (yielded_un (d := 16) rfl gg) rfl
      | 21, ho, haf =>
        obtain rfl := Option.some.inj ho
        have gg : a9.tmps.getD 16 undef = undef := haf ⟨11, .guard⟩ (by simp) rfl
        exact skip_un rfl (yielded_un (d := 16) rfl gg) rfl
      | 22, ho, haf =>
        obtain rfl := Option.some.inj ho
        have gg : a9.tmps.getD 16 undef = undef := haf ⟨11, .guard⟩ (by simp) rfl
        exact skip_un rfl (yielded_un (d := 16) rfl gg) rfl
      | 23, ho, haf =>
        obtain rfl := Option.some.inj ho
        have gg : a9.tmps.getD 10 undef = .bool false := haf ⟨5, .guard⟩ (by simp) rfl
        exact skip_no (b := false) rfl (yielded_of (d := 10) rfl (by omega) gg) rfl
      | 24, ho, haf =>
        obtain rfl := Option.some.inj ho
        have f5 := getq (show a9.tmps.getD 10 undef = .bool false from haf ⟨5, .data⟩ (by simp) rfl)
        have f23 := getq (show a9.tmps.getD 28 undef = undef from haf ⟨23, .data⟩ (by simp) rfl)
        refine skip_good _ (wanted_none rfl) ?_
        clear haf ho hsz2
        intro K hK
        simp only [List.getElem_toArray, List.getElem_cons_succ, List.getElem_cons_zero] at hK ⊢
        subst hW
        go_simp
        exact hK _ _ ⟨Below.refl _ _, rfl, rfl⟩
      | 25, ho, haf =>
        obtain rfl := Option.some.inj ho
        have f24 := getq (show a9.tmps.getD 29 undef = .bool false from haf ⟨24, .data⟩ (by simp) rfl)
        refine skip_good _ (wanted_none rfl) ?_
        clear haf ho hsz2
        intro K hK
        simp only [List.getElem_toArray, List.getElem_cons_succ, List.getElem_cons_zero] at hK ⊢
        subst hW
        go_simp
        exact hK _ _ ⟨Below.refl _ _, rfl, rfl⟩
      | n + 26, ho, haf => simp at ho
    · intro aa w9 hW hdf hsz hout hall
      have hat : aa.tmps = #[Value.pointer (some { block := b, off := 0 }), Value.int IntKind.i64 (n : Int), undef, undef, .bool false, Value.pointer (some { block := b, off := 0 }), Value.pointer (some { block := b, off := 0 }), .pointer (some ⟨b, 4, none⟩), .int .u32 0, .bool false, .bool false, undef, undef, undef, undef, undef, undef, undef, undef, undef, undef, undef, undef, undef, undef, undef, undef, undef, undef, .bool false] := by
        refine arr_one (hsz.trans rfl) fun kk hkk => ?_
        match kk, hkk with
        | 0, _ => exact hout 0 (notDst_spec (by kernel_rfl))
        | 1, _ => exact hout 1 (notDst_spec (by kernel_rfl))
        | 2, _ => exact hout 2 (notDst_spec (by kernel_rfl))
        | 3, _ => exact hout 3 (notDst_spec (by kernel_rfl))
        | 4, _ => exact hall 25 (by decide)
        | 5, _ => exact hall 0 (by decide)
        | 6, _ => exact hall 1 (by decide)
        | 7, _ => exact hall 2 (by decide)
        | 8, _ => exact hall 3 (by decide)
        | 9, _ => exact hall 4 (by decide)
        | 10, _ => exact hall 5 (by decide)
        | 11, _ => exact hall 6 (by decide)
        | 12, _ => exact hall 7 (by decide)
        | 13, _ => exact hall 8 (by decide)
        | 14, _ => exact hall 9 (by decide)
        | 15, _ => exact hall 10 (by decide)
        | 16, _ => exact hall 11 (by decide)
        | 17, _ => exact hall 12 (by decide)
        | 18, _ => exact hall 13 (by decide)
        | 19, _ => exact hall 14 (by decide)
        | 20, _ => exact hall 15 (by decide)
        | 21, _ => exact hall 16 (by decide)
        | 22, _ => exact hall 17 (by decide)
        | 23, _ => exact hall 18 (by decide)
        | 24, _ => exact hall 19 (by decide)
        | 25, _ => exact hall 20 (by decide)
        | 26, _ => exact hall 21 (by decide)
        | 27, _ => exact hall 22 (by decide)
        | 28, _ => exact hall 23 (by decide)
        | 29, _ => exact hall 24 (by decide)
        | n + 30, h => exact absurd h (by simp)
      obtain ⟨tt, dd⟩ := aa
      simp only at hat hdf
      subst hat hdf
      clear hsz hout hall
      subst hW
      go_simp
      go_wp2_with fail
      go_ret
      exact ⟨by rw [HE.out]; rfl, HB.out⟩
  · have hnz : Hid (((W.num : Int) != 0) = true) := by show ((W.num : Int) != 0) = true; rw [bne_iff_ne]; omega
    have c4 := d4
    by_cases hy : W.laid = 0
    · have HE : Hid (fit W n = true) := by show fit W n = true; unfold fit; simp [hz, hy]
      have c5 : Hid (v0.cell? ⟨b, 5, none⟩ = some (.int .i64 0)) := by have q := d5.out; rw [hy] at q; exact q
      clear hz hy
      refine region_skip (fun i9 v9 _ => match i9 with
        | 0 => v9 = Value.pointer (some { block := b, off := 0 })
        | 1 => v9 = Value.pointer (some { block := b, off := 0 })
        | 2 => v9 = .pointer (some ⟨b, 4, none⟩)
        | 3 => v9 = .int .u32 (W.num : Int)
        | 4 => v9 = .bool true
        | 5 => v9 = .bool true
        | 6 => v9 = Value.pointer (some { block := b, off := 0 })
        | 7 => v9 = Value.pointer (some { block := b, off := 0 })
        | 8 => v9 = .pointer (some ⟨b, 5, none⟩)
        | 9 => v9 = .int .i64 0
        | 10 => v9 = .bool true
        | 11 => v9 = .bool true
        | 12 => v9 = undef
        | 13 => v9 = undef
        | 14 => v9 = undef
        | 15 => v9 = undef
        | 16 => v9 = undef
        | 17 => v9 = undef
        | 18 => v9 = undef
        | 19 => v9 = undef
        | 20 => v9 = undef
        | 21 => v9 = undef
        | 22 => v9 = undef
        | 23 => v9 = .bool true
        | 24 => v9 = .bool true
        | _ => v9 = .bool true) (fun w => w = v0) hmx (by kernel_rfl) (by kernel_rfl) HV.out.symm ?_ ?_ ?_
      · intro i9 v9 w8 w9 _ _ hb hG
        match i9, hG with
        | 0, h => exact h
        | 1, h => exact h
        | 2, h => exact h
        | 3, h => exact h
        | 4, h => exact h
        | 5, h => exact h
        | 6, h => exact h
        | 7, h => exact h
        | 8, h => exact h
        | 9, h => exact h
        | 10, h => exact h
        | 11, h => exact h
        | 12, h => exact h
        | 13, h => exact h
        | 14, h => exact h
        | 15, h => exact h
        | 16, h => exact h
        | 17, h => exact h
        | 18, h => exact h
        | 19, h => exact h
        | 20, h => exact h
        | 21, h => exact h
        | 22, h => exact h
        | 23, h => exact h
        | 24, h => exact h
        | n + 25, h => exact h
      · intro i9 o9 ho a9 w9 hW hdf hsz hout haf
        have ee0 := getq (show a9.tmps.getD 0 undef = Value.pointer (some { block := b, off := 0 }) from hout 0 (notDst_spec (by kernel_rfl)))
        have hsz2 : a9.tmps.size = 30 := hsz
        clear hout hsz hdf
        match i9, ho, haf with
        | 0, ho, haf =>
          obtain rfl := Option.some.inj ho
          refine skip_good _ (wanted_none rfl) ?_
          clear haf ho hsz2
          intro K hK
          simp only [List.getElem_toArray, List.getElem_cons_zero] at hK ⊢
          subst hW
          go_simp
          exact hK _ _ ⟨Below.refl _ _, rfl, rfl⟩
        | 1, ho, haf =>
          obtain rfl := Option.some.inj ho
          have f0 := getq (show a9.tmps.getD 5 undef = Value.pointer (some { block := b, off := 0 }) from haf ⟨0, .data⟩ (by simp) rfl)
          refine skip_good _ (wanted_none rfl) ?_
          clear haf ho hsz2
          intro K hK
          simp only [List.getElem_toArray, List.getElem_cons_succ, List.getElem_cons_zero] at hK ⊢
          subst hW
          go_simp
          exact hK _ _ ⟨Below.refl _ _, rfl, rfl⟩
        | 2, ho, haf =>
          obtain rfl := Option.some.inj ho
          have f1 := getq (show a9.tmps.getD 6 undef = Value.pointer (some { block := b, off := 0 }) from haf ⟨1, .data⟩ (by simp) rfl)
          refine skip_good _ (wanted_none rfl) ?_
          clear haf ho hsz2
          intro K hK
          simp only [List.getElem_toArray, List.getElem_cons_succ, List.getElem_cons_zero] at hK ⊢
          subst hW
          go_simp
          exact hK _ _ ⟨Below.refl _ _, rfl, rfl⟩
        | 3, ho, haf =>
          obtain rfl := Option.some.inj ho
          have f2 := getq (show a9.tmps.getD 7 undef = .pointer (some ⟨b, 4, none⟩) from haf ⟨2, .data⟩ (by simp) rfl)
          refine skip_good _ (wanted_none rfl) ?_
          clear haf ho hsz2
          intro K hK
          simp only [List.getElem_toArray, List.getElem_cons_succ, List.getElem_cons_zero] at hK ⊢
          subst hW
          have hc := c4.out
          go_simp
          exact hK _ _ ⟨Below.refl _ _, rfl, rfl⟩
        | 4, ho, haf =>
          obtain rfl := Option.some.inj ho
          have f3 := getq (show a9.tmps.getD 8 undef = .int .u32 (W.num : Int) from haf ⟨3, .data⟩ (by simp) rfl)
          refine skip_good _ (wanted_none rfl) ?_
          clear haf ho hsz2
          intro K hK
          simp only [List.getElem_toArray, List.getElem_cons_succ, List.getElem_cons_zero] at hK ⊢
          subst hW
          have hc := hnz.out
          go_simp
          exact hK _ _ ⟨Below.refl _ _, rfl, rfl⟩
        | 5, ho, haf =>
          obtain rfl := Option.some.inj ho
          have f4 := getq (show a9.tmps.getD 9 undef = .bool true from haf ⟨4, .data⟩ (by simp) rfl)
          refine skip_good _ (wanted_none rfl) ?_
          clear haf ho hsz2
          intro K hK
          simp only [List.getElem_toArray, List.getElem_cons_succ, List.getElem_cons_zero] at hK ⊢
          subst hW
          go_simp
          exact hK _ _ ⟨Below.refl _ _, rfl, rfl⟩
        | 6, ho, haf =>
          obtain rfl := Option.some.inj ho
          have gg : a9.tmps.getD 10 undef = .bool true := haf ⟨5, .guard⟩ (by simp) rfl
          refine skip_good _ (wanted_some rfl (yielded_of (d := 10) rfl (by omega) gg)) ?_
          clear haf ho hsz2 gg
          intro K hK
          simp only [List.getElem_toArray, List.getElem_cons_succ, List.getElem_cons_zero] at hK ⊢
          subst hW
          go_simp
          exact hK _ _ ⟨Below.refl _ _, rfl, rfl⟩
        | 7, ho, haf =>
          obtain rfl := Option.some.inj ho
          have gg : a9.tmps.getD 10 undef = .bool true := haf ⟨5, .guard⟩ (by simp) rfl
          have f6 := getq (show a9.tmps.getD 11 undef = Value.pointer (some { block := b, off := 0 }) from haf ⟨6, .data⟩ (by simp) rfl)
          refine skip_good _ (wanted_some rfl (yielded_of (d := 10) rfl (by omega) gg)) ?_
          clear haf ho hsz2 gg
          intro K hK
          simp only [List.getElem_toArray, List.getElem_cons_succ, List.getElem_cons_zero] at hK ⊢
          subst hW
          go_simp
          exact hK _ _ ⟨Below.refl _ _, rfl, rfl⟩
        | 8, ho, haf =>
          obtain rfl := Option.some.inj ho
          have gg : a9.tmps.getD 10 undef = .bool true := haf ⟨5, .guard⟩ (by simp) rfl
          have f7 := getq (show a9.tmps.getD 12 undef = Value.pointer (some { block := b, off := 0 }) from haf ⟨7, .data⟩ (by simp) rfl)
          refine skip_good _ (wanted_some rfl (yielded_of (d := 10) rfl (by omega) gg)) ?_
          clear haf ho hsz2 gg
          intro K hK
          simp only [List.getElem_toArray, List.getElem_cons_succ, List.getElem_cons_zero] at hK ⊢
          subst hW
          go_simp
          exact hK _ _ ⟨Below.refl _ _, rfl, rfl⟩
        | 9, ho, haf =>
          obtain rfl := Option.some.inj ho
          have gg : a9.tmps.getD 10 undef = .bool true := haf ⟨5, .guard⟩ (by simp) rfl
          have f8 := getq (show a9.tmps.getD 13 undef = .pointer (some ⟨b, 5, none⟩) from haf ⟨8, .data⟩ (by simp) rfl)
          refine skip_good _ (wanted_some rfl (yielded_of (d := 10) rfl (by omega) gg)) ?_
          clear haf ho hsz2 gg
          intro K hK
          simp only [List.getElem_toArray, List.getElem_cons_succ, List.getElem_cons_zero] at hK ⊢
          subst hW
          have hc := c5.out
          go_simp
          exact hK _ _ ⟨Below.refl _ _, rfl, rfl⟩
        | 10, ho, haf =>
          obtain rfl := Option.some.inj ho
          have gg : a9.tmps.getD 10 undef = .bool true := haf ⟨5, .guard⟩ (by simp) rfl
          have f9 := getq (show a9.tmps.getD 14 undef = .int .i64 0 from haf ⟨9, .data⟩ (by simp) rfl)
          refine skip_good _ (wanted_some rfl (yielded_of (d := 10) rfl (by omega) gg)) ?_
          clear haf ho hsz2 gg
          intro K hK
          simp only [List.getElem_toArray, List.getElem_cons_succ, List.getElem_cons_zero] at hK ⊢
          subst hW
          go_simp
          exact hK _ _ ⟨Below.refl _ _, rfl, rfl⟩
        | 11, ho, haf =>
          obtain rfl := Option.some.inj ho
          have gg : a9.tmps.getD 10 undef = .bool true := haf ⟨5, .guard⟩ (by simp) rfl
          have f10 := getq (show a9.tmps.getD 15 undef = .bool true from haf ⟨10, .data⟩ (by simp) rfl)
          refine skip_good _ (wanted_some rfl (yielded_of (d := 10) rfl (by omega) gg)) ?_
          clear haf ho hsz2 gg
          intro K hK
          simp only [List.getElem_toArray, List.getElem_cons_succ, List.getElem_cons_zero] at hK ⊢
          subst hW
          go_simp
          exact hK _ _ ⟨Below.refl _ _, rfl, rfl⟩
        | 12, ho, haf =>
          obtain rfl := Option.some.inj ho
          have gg : a9.tmps.getD 16 undef = .bool true := haf ⟨11, .guard⟩ (by simp) rfl
          exact skip_no (b := true) rfl (yielded_of (d := 16) rfl (by omega) gg) rfl
        | 13, ho, haf =>
          obtain rfl := Option.some.inj ho
          have gg : a9.tmps.getD 16 undef = .bool true := haf ⟨11, .guard⟩ (by simp) rfl
          exact skip_no (b := true) rfl (yielded_of (d := 16) rfl (by omega) gg) rfl
        | 14, ho, haf =>
          obtain rfl := Option.some.inj ho
          have gg : a9.tmps.getD 16 undef = .bool true := haf ⟨11, .guard⟩ (by simp) rfl
          exact skip_no (b := true) rfl (yielded_of (d := 16) rfl (by omega) gg) rfl
        | 15, ho, haf =>
          obtain rfl := Option.some.inj ho
          have gg : a9.tmps.getD 16 undef = .bool true := haf ⟨11, .guard⟩ (by simp) rfl
          exact skip_no (b := true) rfl (yielded_of (d := 16) rfl (by omega) gg) rfl
        | 16, ho, haf =>
          obtain rfl := Option.some.inj ho
          have gg : a9.tmps.getD 16 undef = .bool true := haf ⟨11, .guard⟩ (by simp) rfl
          exact skip_no (b := true) rfl (yielded_of (d := 16) rfl (by omega) gg) rfl
        | 17, ho, haf =>
          obtain rfl := Option.some.inj ho
          have gg : a9.tmps.getD 16 undef = .bool true := haf ⟨11, .guard⟩ (by simp) rfl
          exact skip_no (b := true) rfl (yielded_of (d := 16) rfl (by omega) gg) rfl
        | 18, ho, haf =>
          obtain rfl := Option.some.inj ho
          have gg : a9.tmps.getD 16 undef = .bool true := haf ⟨11, .guard⟩ (by simp) rfl
          exact skip_no (b := true) rfl (yielded_of (d := 16) rfl (by omega) gg) rfl
        | 19, ho, haf =>
          obtain rfl := Option.some.inj ho
          have gg : a9.tmps.getD 16 undef = .bool true := haf ⟨11, .guard⟩ (by simp) rfl
          exact skip_no (b := true) rfl (yielded_of (d := 16) rfl (by omega) gg) rfl
        | 20, ho, haf =>
          obtain rfl := Option.some.inj ho
          have gg : a9.tmps.getD 16 undef = .bool true := haf ⟨11, .guard⟩ (by simp) rfl
          exact skip_no (b := true) rfl (yielded_of (d := 16) rfl (by omega) gg) rfl
        | 21, ho, haf =>
          obtain rfl := Option.some.inj ho
          have gg : a9.tmps.getD 16 undef = .bool true := haf ⟨11, .guard⟩ (by simp) rfl
          exact skip_no (b := true) rfl (yielded_of (d := 16) rfl (by omega) gg) rfl
        | 22, ho, haf =>
          obtain rfl := Option.some.inj ho
          have gg : a9.tmps.getD 16 undef = .bool true := haf ⟨11, .guard⟩ (by simp) rfl
          exact skip_no (b := true) rfl (yielded_of (d := 16) rfl (by omega) gg) rfl
        | 23, ho, haf =>
          obtain rfl := Option.some.inj ho
          have gg : a9.tmps.getD 10 undef = .bool true := haf ⟨5, .guard⟩ (by simp) rfl
          have f11 := getq (show a9.tmps.getD 16 undef = .bool true from haf ⟨11, .data⟩ (by simp) rfl)
          have f22 := getq (show a9.tmps.getD 27 undef = undef from haf ⟨22, .data⟩ (by simp) rfl)
          refine skip_good _ (wanted_some rfl (yielded_of (d := 10) rfl (by omega) gg)) ?_
          clear haf ho hsz2 gg
          intro K hK
          simp only [List.getElem_toArray, List.getElem_cons_succ, List.getElem_cons_zero] at hK ⊢
          subst hW
          go_simp
          exact hK _ _ ⟨Below.refl _ _, rfl, rfl⟩
        | 24, ho, haf =>
          obtain rfl := Option.some.inj ho
          have f5 := getq (show a9.tmps.getD 10 undef = .bool true from haf ⟨5, .data⟩ (by simp) rfl)
          have f23 := getq (show a9.tmps.getD 28 undef = .bool true from haf ⟨23, .data⟩ (by simp) rfl)
          refine skip_good _ (wanted_none rfl) ?_
          clear haf ho hsz2
          intro K hK
          simp only [List.getElem_toArray, List.getElem_cons_succ, List.getElem_cons_zero] at hK ⊢
          subst hW
          go_simp
          exact hK _ _ ⟨Below.refl _ _, rfl, rfl⟩
        | 25, ho, haf =>
          obtain rfl := Option.some.inj ho
          have f24 := getq (show a9.tmps.getD 29 undef = .bool true from haf ⟨24, .data⟩ (by simp) rfl)
          refine skip_good _ (wanted_none rfl) ?_
          clear haf ho hsz2
          intro K hK
          simp only [List.getElem_toArray, List.getElem_cons_succ, List.getElem_cons_zero] at hK ⊢
          subst hW
          go_simp
          exact hK _ _ ⟨Below.refl _ _, rfl, rfl⟩
        | n + 26, ho, haf => simp at ho
      · intro aa w9 hW hdf hsz hout hall
        have hat : aa.tmps = #[Value.pointer (some { block := b, off := 0 }), Value.int IntKind.i64 (n : Int), undef, undef, .bool true, Value.pointer (some { block := b, off := 0 }), Value.pointer (some { block := b, off := 0 }), .pointer (some ⟨b, 4, none⟩), .int .u32 (W.num : Int), .bool true, .bool true, Value.pointer (some { block := b, off := 0 }), Value.pointer (some { block := b, off := 0 }), .pointer (some ⟨b, 5, none⟩), .int .i64 0, .bool true, .bool true, undef, undef, undef, undef, undef, undef, undef, undef, undef, undef, undef, .bool true, .bool true] := by
          refine arr_one (hsz.trans rfl) fun kk hkk => ?_
          match kk, hkk with
          | 0, _ => exact hout 0 (notDst_spec (by kernel_rfl))
          | 1, _ => exact hout 1 (notDst_spec (by kernel_rfl))
          | 2, _ => exact hout 2 (notDst_spec (by kernel_rfl))
          | 3, _ => exact hout 3 (notDst_spec (by kernel_rfl))
          | 4, _ => exact hall 25 (by decide)
          | 5, _ => exact hall 0 (by decide)
          | 6, _ => exact hall 1 (by decide)
          | 7, _ => exact hall 2 (by decide)
          | 8, _ => exact hall 3 (by decide)
          | 9, _ => exact hall 4 (by decide)
          | 10, _ => exact hall 5 (by decide)
          | 11, _ => exact hall 6 (by decide)
          | 12, _ => exact hall 7 (by decide)
          | 13, _ => exact hall 8 (by decide)
          | 14, _ => exact hall 9 (by decide)
          | 15, _ => exact hall 10 (by decide)
          | 16, _ => exact hall 11 (by decide)
          | 17, _ => exact hall 12 (by decide)
          | 18, _ => exact hall 13 (by decide)
          | 19, _ => exact hall 14 (by decide)
          | 20, _ => exact hall 15 (by decide)
          | 21, _ => exact hall 16 (by decide)
          | 22, _ => exact hall 17 (by decide)
          | 23, _ => exact hall 18 (by decide)
          | 24, _ => exact hall 19 (by decide)
          | 25, _ => exact hall 20 (by decide)
          | 26, _ => exact hall 21 (by decide)
          | 27, _ => exact hall 22 (by decide)
          | 28, _ => exact hall 23 (by decide)
          | 29, _ => exact hall 24 (by decide)
          | n + 30, h => exact absurd h (by simp)
        obtain ⟨tt, dd⟩ := aa
        simp only at hat hdf
        subst hat hdf
        clear hsz hout hall
        subst hW
        go_simp
        go_wp2_with fail
        go_ret
        exact ⟨by rw [HE.out]; rfl, HB.out⟩
    · have hlz : Hid (((W.laid : Int) == 0) = false) := by show ((W.laid : Int) == 0) = false; rw [beq_eq_false_iff_ne]; omega
      have c5 := d5
      have c1 := d1
      have HWR : Hid (IntKind.i64.wrap ((W.laid : Int) + (n : Int)) = (W.laid : Int) + (n : Int)) := by show IntKind.i64.wrap _ = _; rw [IntKind.wrap_i64]; omega
      have HE : Hid (fit W n = decide ((W.laid : Int) + (n : Int) ≤ (W.lim : Int))) := by
        show fit W n = _
        unfold fit
        simp only [hz, hy, ne_eq, not_false_eq_true, decide_true, decide_false, Bool.true_and, Bool.false_or]
        rw [decide_eq_decide]; omega
      clear hz hy
      refine region_skip (fun i9 v9 _ => match i9 with
        | 0 => v9 = Value.pointer (some { block := b, off := 0 })
        | 1 => v9 = Value.pointer (some { block := b, off := 0 })
        | 2 => v9 = .pointer (some ⟨b, 4, none⟩)
        | 3 => v9 = .int .u32 (W.num : Int)
        | 4 => v9 = .bool true
        | 5 => v9 = .bool true
        | 6 => v9 = Value.pointer (some { block := b, off := 0 })
        | 7 => v9 = Value.pointer (some { block := b, off := 0 })
        | 8 => v9 = .pointer (some ⟨b, 5, none⟩)
        | 9 => v9 = .int .i64 (W.laid : Int)
        | 10 => v9 = .bool false
        | 11 => v9 = .bool false
        | 12 => v9 = Value.pointer (some { block := b, off := 0 })
        | 13 => v9 = Value.pointer (some { block := b, off := 0 })
        | 14 => v9 = .pointer (some ⟨b, 5, none⟩)
        | 15 => v9 = .int .i64 (W.laid : Int)
        | 16 => v9 = Value.int IntKind.i64 (n : Int)
        | 17 => v9 = .int .i64 ((W.laid : Int) + (n : Int))
        | 18 => v9 = Value.pointer (some { block := b, off := 0 })
        | 19 => v9 = Value.pointer (some { block := b, off := 0 })
        | 20 => v9 = .pointer (some ⟨b, 1, none⟩)
        | 21 => v9 = .int .i64 (W.lim : Int)
        | 22 => v9 = .bool (decide ((W.laid : Int) + (n : Int) ≤ (W.lim : Int)))
        | 23 => v9 = .bool (decide ((W.laid : Int) + (n : Int) ≤ (W.lim : Int)))
        | 24 => v9 = .bool (decide ((W.laid : Int) + (n : Int) ≤ (W.lim : Int)))
        | _ => v9 = .bool (decide ((W.laid : Int) + (n : Int) ≤ (W.lim : Int)))) (fun w => w = v0) hmx (by kernel_rfl) (by kernel_rfl) HV.out.symm ?_ ?_ ?_
      · intro i9 v9 w8 w9 _ _ hb hG
        match i9, hG with
        | 0, h => exact h
        | 1, h => exact h
        | 2, h => exact h
        | 3, h => exact h
        | 4, h => exact h
        | 5, h => exact h
        | 6, h => exact h
        | 7, h => exact h
        | 8, h => exact h
        | 9, h => exact h
        | 10, h => exact h
        | 11, h => exact h
        | 12, h => exact h
        | 13, h => exact h
        | 14, h => exact h
        | 15, h => exact h
        | 16, h => exact h
        | 17, h => exact h
        | 18, h => exact h
        | 19, h => exact h
        | 20, h => exact h
        | 21, h => exact h
        | 22, h => exact h
        | 23, h => exact h
        | 24, h => exact h
        | n + 25, h => exact h
      · intro i9 o9 ho a9 w9 hW hdf hsz hout haf
        have ee0 := getq (show a9.tmps.getD 0 undef = Value.pointer (some { block := b, off := 0 }) from hout 0 (notDst_spec (by kernel_rfl)))
        have ee1 := getq (show a9.tmps.getD 1 undef = Value.int IntKind.i64 (n : Int) from hout 1 (notDst_spec (by kernel_rfl)))
        have hsz2 : a9.tmps.size = 30 := hsz
        clear hout hsz hdf
        match i9, ho, haf with
        | 0, ho, haf =>
          obtain rfl := Option.some.inj ho
          refine skip_good _ (wanted_none rfl) ?_
          clear haf ho hsz2
          intro K hK
          simp only [List.getElem_toArray, List.getElem_cons_zero] at hK ⊢
          subst hW
          go_simp
          exact hK _ _ ⟨Below.refl _ _, rfl, rfl⟩
        | 1, ho, haf =>
          obtain rfl := Option.some.inj ho
          have f0 := getq (show a9.tmps.getD 5 undef = Value.pointer (some { block := b, off := 0 }) from haf ⟨0, .data⟩ (by simp) rfl)
          refine skip_good _ (wanted_none rfl) ?_
          clear haf ho hsz2
          intro K hK
          simp only [List.getElem_toArray, List.getElem_cons_succ, List.getElem_cons_zero] at hK ⊢
          subst hW
          go_simp
          exact hK _ _ ⟨Below.refl _ _, rfl, rfl⟩
        | 2, ho, haf =>
          obtain rfl := Option.some.inj ho
          have f1 := getq (show a9.tmps.getD 6 undef = Value.pointer (some { block := b, off := 0 }) from haf ⟨1, .data⟩ (by simp) rfl)
          refine skip_good _ (wanted_none rfl) ?_
          clear haf ho hsz2
          intro K hK
          simp only [List.getElem_toArray, List.getElem_cons_succ, List.getElem_cons_zero] at hK ⊢
          subst hW
          go_simp
          exact hK _ _ ⟨Below.refl _ _, rfl, rfl⟩
        | 3, ho, haf =>
          obtain rfl := Option.some.inj ho
          have f2 := getq (show a9.tmps.getD 7 undef = .pointer (some ⟨b, 4, none⟩) from haf ⟨2, .data⟩ (by simp) rfl)
          refine skip_good _ (wanted_none rfl) ?_
          clear haf ho hsz2
          intro K hK
          simp only [List.getElem_toArray, List.getElem_cons_succ, List.getElem_cons_zero] at hK ⊢
          subst hW
          have hc := c4.out
          go_simp
          exact hK _ _ ⟨Below.refl _ _, rfl, rfl⟩
        | 4, ho, haf =>
          obtain rfl := Option.some.inj ho
          have f3 := getq (show a9.tmps.getD 8 undef = .int .u32 (W.num : Int) from haf ⟨3, .data⟩ (by simp) rfl)
          refine skip_good _ (wanted_none rfl) ?_
          clear haf ho hsz2
          intro K hK
          simp only [List.getElem_toArray, List.getElem_cons_succ, List.getElem_cons_zero] at hK ⊢
          subst hW
          have hc := hnz.out
          go_simp
          exact hK _ _ ⟨Below.refl _ _, rfl, rfl⟩
        | 5, ho, haf =>
          obtain rfl := Option.some.inj ho
          have f4 := getq (show a9.tmps.getD 9 undef = .bool true from haf ⟨4, .data⟩ (by simp) rfl)
          refine skip_good _ (wanted_none rfl) ?_
          clear haf ho hsz2
          intro K hK
          simp only [List.getElem_toArray, List.getElem_cons_succ, List.getElem_cons_zero] at hK ⊢
          subst hW
          go_simp
          exact hK _ _ ⟨Below.refl _ _, rfl, rfl⟩
        | 6, ho, haf =>
          obtain rfl := Option.some.inj ho
          have gg : a9.tmps.getD 10 undef = .bool true := haf ⟨5, .guard⟩ (by simp) rfl
          refine skip_good _ (wanted_some rfl (yielded_of (d := 10) rfl (by omega) gg)) ?_
          clear haf ho hsz2 gg
          intro K hK
          simp only [List.getElem_toArray, List.getElem_cons_succ, List.getElem_cons_zero] at hK ⊢
          subst hW
          go_simp
          exact hK _ _ ⟨Below.refl _ _, rfl, rfl⟩
        | 7, ho, haf =>
          obtain rfl := Option.some.inj ho
          have gg : a9.tmps.getD 10 undef = .bool true := haf ⟨5, .guard⟩ (by simp) rfl
          have f6 := getq (show a9.tmps.getD 11 undef = Value.pointer (some { block := b, off := 0 }) from haf ⟨6, .data⟩ (by simp) rfl)
          refine skip_good _ (wanted_some rfl (yielded_of (d := 10) rfl (by omega) gg)) ?_
          clear haf ho hsz2 gg
          intro K hK
          simp only [List.getElem_toArray, List.getElem_cons_succ, List.getElem_cons_zero] at hK ⊢
          subst hW
          go_simp
          exact hK _ _ ⟨Below.refl _ _, rfl, rfl⟩
        | 8, ho, haf =>
          obtain rfl := Option.some.inj ho
          have gg : a9.tmps.getD 10 undef = .bool true := haf ⟨5, .guard⟩ (by simp) rfl
          have f7 := getq (show a9.tmps.getD 12 undef = Value.pointer (some { block := b, off := 0 }) from haf ⟨7, .data⟩ (by simp) rfl)
          refine skip_good _ (wanted_some rfl (yielded_of (d := 10) rfl (by omega) gg)) ?_
          clear haf ho hsz2 gg
          intro K hK
          simp only [List.getElem_toArray, List.getElem_cons_succ, List.getElem_cons_zero] at hK ⊢
          subst hW
          go_simp
          exact hK _ _ ⟨Below.refl _ _, rfl, rfl⟩
        | 9, ho, haf =>
          obtain rfl := Option.some.inj ho
          have gg : a9.tmps.getD 10 undef = .bool true := haf ⟨5, .guard⟩ (by simp) rfl
          have f8 := getq (show a9.tmps.getD 13 undef = .pointer (some ⟨b, 5, none⟩) from haf ⟨8, .data⟩ (by simp) rfl)
          refine skip_good _ (wanted_some rfl (yielded_of (d := 10) rfl (by omega) gg)) ?_
          clear haf ho hsz2 gg
          intro K hK
          simp only [List.getElem_toArray, List.getElem_cons_succ, List.getElem_cons_zero] at hK ⊢
          subst hW
          have hc := c5.out
          go_simp
          exact hK _ _ ⟨Below.refl _ _, rfl, rfl⟩
        | 10, ho, haf =>
          obtain rfl := Option.some.inj ho
          have gg : a9.tmps.getD 10 undef = .bool true := haf ⟨5, .guard⟩ (by simp) rfl
          have f9 := getq (show a9.tmps.getD 14 undef = .int .i64 (W.laid : Int) from haf ⟨9, .data⟩ (by simp) rfl)
          refine skip_good _ (wanted_some rfl (yielded_of (d := 10) rfl (by omega) gg)) ?_
          clear haf ho hsz2 gg
          intro K hK
          simp only [List.getElem_toArray, List.getElem_cons_succ, List.getElem_cons_zero] at hK ⊢
          subst hW
          have hc := hlz.out
          go_simp
          exact hK _ _ ⟨Below.refl _ _, rfl, rfl⟩
        | 11, ho, haf =>
          obtain rfl := Option.some.inj ho
          have gg : a9.tmps.getD 10 undef = .bool true := haf ⟨5, .guard⟩ (by simp) rfl
          have f10 := getq (show a9.tmps.getD 15 undef = .bool false from haf ⟨10, .data⟩ (by simp) rfl)
          refine skip_good _ (wanted_some rfl (yielded_of (d := 10) rfl (by omega) gg)) ?_
          clear haf ho hsz2 gg
          intro K hK
          simp only [List.getElem_toArray, List.getElem_cons_succ, List.getElem_cons_zero] at hK ⊢
          subst hW
          go_simp
          exact hK _ _ ⟨Below.refl _ _, rfl, rfl⟩
        | 12, ho, haf =>
          obtain rfl := Option.some.inj ho
          have gg : a9.tmps.getD 16 undef = .bool false := haf ⟨11, .guard⟩ (by simp) rfl
          refine skip_good _ (wanted_some rfl (yielded_of (d := 16) rfl (by omega) gg)) ?_
          clear haf ho hsz2 gg
          intro K hK
          simp only [List.getElem_toArray, List.getElem_cons_succ, List.getElem_cons_zero] at hK ⊢
          subst hW
          go_simp
          exact hK _ _ ⟨Below.refl _ _, rfl, rfl⟩
        | 13, ho, haf =>
          obtain rfl := Option.some.inj ho
          have gg : a9.tmps.getD 16 undef = .bool false := haf ⟨11, .guard⟩ (by simp) rfl
          have f12 := getq (show a9.tmps.getD 17 undef = Value.pointer (some { block := b, off := 0 }) from haf ⟨12, .data⟩ (by simp) rfl)
          refine skip_good _ (wanted_some rfl (yielded_of (d := 16) rfl (by omega) gg)) ?_
          clear haf ho hsz2 gg
          intro K hK
          simp only [List.getElem_toArray, List.getElem_cons_succ, List.getElem_cons_zero] at hK ⊢
          subst hW
          go_simp
          exact hK _ _ ⟨Below.refl _ _, rfl, rfl⟩
        | 14, ho, haf =>
          obtain rfl := Option.some.inj ho
          have gg : a9.tmps.getD 16 undef = .bool false := haf ⟨11, .guard⟩ (by simp) rfl
          have f13 := getq (show a9.tmps.getD 18 undef = Value.pointer (some { block := b, off := 0 }) from haf ⟨13, .data⟩ (by simp) rfl)
          refine skip_good _ (wanted_some rfl (yielded_of (d := 16) rfl (by omega) gg)) ?_
          clear haf ho hsz2 gg
          intro K hK
          simp only [List.getElem_toArray, List.getElem_cons_succ, List.getElem_cons_zero] at hK ⊢
          subst hW
          go_simp
          exact hK _ _ ⟨Below.refl _ _, rfl, rfl⟩
        | 15, ho, haf =>
          obtain rfl := Option.some.inj ho
          have gg : a9.tmps.getD 16 undef = .bool false := haf ⟨11, .guard⟩ (by simp) rfl
          have f14 := getq (show a9.tmps.getD 19 undef = .pointer (some ⟨b, 5, none⟩) from haf ⟨14, .data⟩ (by simp) rfl)
          refine skip_good _ (wanted_some rfl (yielded_of (d := 16) rfl (by omega) gg)) ?_
          clear haf ho hsz2 gg
          intro K hK
          simp only [List.getElem_toArray, List.getElem_cons_succ, List.getElem_cons_zero] at hK ⊢
          subst hW
          have hc := c5.out
          go_simp
          exact hK _ _ ⟨Below.refl _ _, rfl, rfl⟩
        | 16, ho, haf =>
          obtain rfl := Option.some.inj ho
          have gg : a9.tmps.getD 16 undef = .bool false := haf ⟨11, .guard⟩ (by simp) rfl
          refine skip_good _ (wanted_some rfl (yielded_of (d := 16) rfl (by omega) gg)) ?_
          clear haf ho hsz2 gg
          intro K hK
          simp only [List.getElem_toArray, List.getElem_cons_succ, List.getElem_cons_zero] at hK ⊢
          subst hW
          go_simp
          exact hK _ _ ⟨Below.refl _ _, rfl, rfl⟩
        | 17, ho, haf =>
          obtain rfl := Option.some.inj ho
          have gg : a9.tmps.getD 16 undef = .bool false := haf ⟨11, .guard⟩ (by simp) rfl
          have f15 := getq (show a9.tmps.getD 20 undef = .int .i64 (W.laid : Int) from haf ⟨15, .data⟩ (by simp) rfl)
          have f16 := getq (show a9.tmps.getD 21 undef = Value.int IntKind.i64 (n : Int) from haf ⟨16, .data⟩ (by simp) rfl)
          refine skip_good _ (wanted_some rfl (yielded_of (d := 16) rfl (by omega) gg)) ?_
          clear haf ho hsz2 gg
          intro K hK
          simp only [List.getElem_toArray, List.getElem_cons_succ, List.getElem_cons_zero] at hK ⊢
          subst hW
          have hc := HWR.out
          go_simp
          exact hK _ _ ⟨Below.refl _ _, rfl, rfl⟩
        | 18, ho, haf =>
          obtain rfl := Option.some.inj ho
          have gg : a9.tmps.getD 16 undef = .bool false := haf ⟨11, .guard⟩ (by simp) rfl
          refine skip_good _ (wanted_some rfl (yielded_of (d := 16) rfl (by omega) gg)) ?_
          clear haf ho hsz2 gg
          intro K hK
          simp only [List.getElem_toArray, List.getElem_cons_succ, List.getElem_cons_zero] at hK ⊢
          subst hW
          go_simp
          exact hK _ _ ⟨Below.refl _ _, rfl, rfl⟩
        | 19, ho, haf =>
          obtain rfl := Option.some.inj ho
          have gg : a9.tmps.getD 16 undef = .bool false := haf ⟨11, .guard⟩ (by simp) rfl
          have f18 := getq (show a9.tmps.getD 23 undef = Value.pointer (some { block := b, off := 0 }) from haf ⟨18, .data⟩ (by simp) rfl)
          refine skip_good _ (wanted_some rfl (yielded_of (d := 16) rfl (by omega) gg)) ?_
          clear haf ho hsz2 gg
          intro K hK
          simp only [List.getElem_toArray, List.getElem_cons_succ, List.getElem_cons_zero] at hK ⊢
          subst hW
          go_simp
          exact hK _ _ ⟨Below.refl _ _, rfl, rfl⟩
        | 20, ho, haf =>
          obtain rfl := Option.some.inj ho
          have gg : a9.tmps.getD 16 undef = .bool false := haf ⟨11, .guard⟩ (by simp) rfl
          have f19 := getq (show a9.tmps.getD 24 undef = Value.pointer (some { block := b, off := 0 }) from haf ⟨19, .data⟩ (by simp) rfl)
          refine skip_good _ (wanted_some rfl (yielded_of (d := 16) rfl (by omega) gg)) ?_
          clear haf ho hsz2 gg
          intro K hK
          simp only [List.getElem_toArray, List.getElem_cons_succ, List.getElem_cons_zero] at hK ⊢
          subst hW
          go_simp
          exact hK _ _ ⟨Below.refl _ _, rfl, rfl⟩
        | 21, ho, haf =>
          obtain rfl := Option.some.inj ho
          have gg : a9.tmps.getD 16 undef = .bool false := haf ⟨11, .guard⟩ (by simp) rfl
          have f20 := getq (show a9.tmps.getD 25 undef = .pointer (some ⟨b, 1, none⟩) from haf ⟨20, .data⟩ (by simp) rfl)
          refine skip_good _ (wanted_some rfl (yielded_of (d := 16) rfl (by omega) gg)) ?_
          clear haf ho hsz2 gg
          intro K hK
          simp only [List.getElem_toArray, List.getElem_cons_succ, List.getElem_cons_zero] at hK ⊢
          subst hW
          have hc := c1.out
          go_simp
          exact hK _ _ ⟨Below.refl _ _, rfl, rfl⟩
        | 22, ho, haf =>
          obtain rfl := Option.some.inj ho
          have gg : a9.tmps.getD 16 undef = .bool false := haf ⟨11, .guard⟩ (by simp) rfl
          have f17 := getq (show a9.tmps.getD 22 undef = .int .i64 ((W.laid : Int) + (n : Int)) from haf ⟨17, .data⟩ (by simp) rfl)
          have f21 := getq (show a9.tmps.getD 26 undef = .int .i64 (W.lim : Int) from haf ⟨21, .data⟩ (by simp) rfl)
          refine skip_good _ (wanted_some rfl (yielded_of (d := 16) rfl (by omega) gg)) ?_
          clear haf ho hsz2 gg
          intro K hK
          simp only [List.getElem_toArray, List.getElem_cons_succ, List.getElem_cons_zero] at hK ⊢
          subst hW
          go_simp
          exact hK _ _ ⟨Below.refl _ _, rfl, rfl⟩
        | 23, ho, haf =>
          obtain rfl := Option.some.inj ho
          have gg : a9.tmps.getD 10 undef = .bool true := haf ⟨5, .guard⟩ (by simp) rfl
          have f11 := getq (show a9.tmps.getD 16 undef = .bool false from haf ⟨11, .data⟩ (by simp) rfl)
          have f22 := getq (show a9.tmps.getD 27 undef = .bool (decide ((W.laid : Int) + (n : Int) ≤ (W.lim : Int))) from haf ⟨22, .data⟩ (by simp) rfl)
          refine skip_good _ (wanted_some rfl (yielded_of (d := 10) rfl (by omega) gg)) ?_
          clear haf ho hsz2 gg
          intro K hK
          simp only [List.getElem_toArray, List.getElem_cons_succ, List.getElem_cons_zero] at hK ⊢
          subst hW
          go_simp
          exact hK _ _ ⟨Below.refl _ _, rfl, rfl⟩
        | 24, ho, haf =>
          obtain rfl := Option.some.inj ho
          have f5 := getq (show a9.tmps.getD 10 undef = .bool true from haf ⟨5, .data⟩ (by simp) rfl)
          have f23 := getq (show a9.tmps.getD 28 undef = .bool (decide ((W.laid : Int) + (n : Int) ≤ (W.lim : Int))) from haf ⟨23, .data⟩ (by simp) rfl)
          refine skip_good _ (wanted_none rfl) ?_
          clear haf ho hsz2
          intro K hK
          simp only [List.getElem_toArray, List.getElem_cons_succ, List.getElem_cons_zero] at hK ⊢
          subst hW
          go_simp
          exact hK _ _ ⟨Below.refl _ _, rfl, rfl⟩
        | 25, ho, haf =>
          obtain rfl := Option.some.inj ho
          have f24 := getq (show a9.tmps.getD 29 undef = .bool (decide ((W.laid : Int) + (n : Int) ≤ (W.lim : Int))) from haf ⟨24, .data⟩ (by simp) rfl)
          refine skip_good _ (wanted_none rfl) ?_
          clear haf ho hsz2
          intro K hK
          simp only [List.getElem_toArray, List.getElem_cons_succ, List.getElem_cons_zero] at hK ⊢
          subst hW
          go_simp
          exact hK _ _ ⟨Below.refl _ _, rfl, rfl⟩
        | n + 26, ho, haf => simp at ho
      · intro aa w9 hW hdf hsz hout hall
        have hat : aa.tmps = #[Value.pointer (some { block := b, off := 0 }), Value.int IntKind.i64 (n : Int), undef, undef, .bool (decide ((W.laid : Int) + (n : Int) ≤ (W.lim : Int))), Value.pointer (some { block := b, off := 0 }), Value.pointer (some { block := b, off := 0 }), .pointer (some ⟨b, 4, none⟩), .int .u32 (W.num : Int), .bool true, .bool true, Value.pointer (some { block := b, off := 0 }), Value.pointer (some { block := b, off := 0 }), .pointer (some ⟨b, 5, none⟩), .int .i64 (W.laid : Int), .bool false, .bool false, Value.pointer (some { block := b, off := 0 }), Value.pointer (some { block := b, off := 0 }), .pointer (some ⟨b, 5, none⟩), .int .i64 (W.laid : Int), Value.int IntKind.i64 (n : Int), .int .i64 ((W.laid : Int) + (n : Int)), Value.pointer (some { block := b, off := 0 }), Value.pointer (some { block := b, off := 0 }), .pointer (some ⟨b, 1, none⟩), .int .i64 (W.lim : Int), .bool (decide ((W.laid : Int) + (n : Int) ≤ (W.lim : Int))), .bool (decide ((W.laid : Int) + (n : Int) ≤ (W.lim : Int))), .bool (decide ((W.laid : Int) + (n : Int) ≤ (W.lim : Int)))] := by
          refine arr_one (hsz.trans rfl) fun kk hkk => ?_
          match kk, hkk with
          | 0, _ => exact hout 0 (notDst_spec (by kernel_rfl))
          | 1, _ => exact hout 1 (notDst_spec (by kernel_rfl))
          | 2, _ => exact hout 2 (notDst_spec (by kernel_rfl))
          | 3, _ => exact hout 3 (notDst_spec (by kernel_rfl))
          | 4, _ => exact hall 25 (by decide)
          | 5, _ => exact hall 0 (by decide)
          | 6, _ => exact hall 1 (by decide)
          | 7, _ => exact hall 2 (by decide)
          | 8, _ => exact hall 3 (by decide)
          | 9, _ => exact hall 4 (by decide)
          | 10, _ => exact hall 5 (by decide)
          | 11, _ => exact hall 6 (by decide)
          | 12, _ => exact hall 7 (by decide)
          | 13, _ => exact hall 8 (by decide)
          | 14, _ => exact hall 9 (by decide)
          | 15, _ => exact hall 10 (by decide)
          | 16, _ => exact hall 11 (by decide)
          | 17, _ => exact hall 12 (by decide)
          | 18, _ => exact hall 13 (by decide)
          | 19, _ => exact hall 14 (by decide)
          | 20, _ => exact hall 15 (by decide)
          | 21, _ => exact hall 16 (by decide)
          | 22, _ => exact hall 17 (by decide)
          | 23, _ => exact hall 18 (by decide)
          | 24, _ => exact hall 19 (by decide)
          | 25, _ => exact hall 20 (by decide)
          | 26, _ => exact hall 21 (by decide)
          | 27, _ => exact hall 22 (by decide)
          | 28, _ => exact hall 23 (by decide)
          | 29, _ => exact hall 24 (by decide)
          | n + 30, h => exact absurd h (by simp)
        obtain ⟨tt, dd⟩ := aa
        simp only at hat hdf
        subst hat hdf
        clear hsz hout hall
        subst hW
        go_simp
        go_wp2_with fail
        go_ret
        exact ⟨by rw [HE.out]; rfl, HB.out⟩
  --END fi
/-! ### Put, plainly; r: the frame of the record -/
def zpl : Value := .agg #[.int .u32 0, .int .i64 0, .int .i64 0]
def plv (n at_ len : Nat) : Value := .agg #[.int .u32 (n : Int), .int .i64 (at_ : Int), .int .i64 (len : Int)]
noncomputable def pre (W : Ws) (S : Ds) (n : Nat) : Nat × Ws × Ds := if fit W n then (0, W, S) else bgR W S
noncomputable def pt (W : Ws) (S : Ds) (l : List Nat) : Nat × Ws × Ds :=
  if (pre W S l.length).1 ≠ 0 then pre W S l.length else ly (pre W S l.length).2.1 (pre W S l.length).2.2 l
abbrev TPl : TypeId := 32
theorem Nw.out {O O1 : Nat → Prop} {w w5 w6 w7 : World} {b d x : Nat} {W' : Ws} {S' : Ds} (hT : Tr (fun y => O y ∨ y = b) w w5) (hO : ∀ y, O1 y → O y ∨ w.heap.size ≤ y) (hx : w.heap.size ≤ x) (hx5 : x < w5.heap.size) (hxO : ¬ O1 x) (hxb : x ≠ b) (h : Nw O1 w5 b d W' S' w6) (ht : Tr (fun y => y = x) w6 w7) : Nw O w b d W' S' w7 := by
  obtain ⟨O2, ⟨k1, k2, k3⟩, h2, h3⟩ := h
  have hx2 : ¬ O2 x := fun q => (h3 x q).elim hxO fun q => by omega
  refine ⟨O2, ⟨k1.aside ht (fun y q e => hx2 (e ▸ q)), (ht.block b k2.lt (fun e => hxb e.symm)).trans k2, k3⟩, ?_, fun y q => ?_⟩
  · refine (hT.trans h2 fun y q => ?_).trans ht fun y q => .inr (by omega)
    rcases q with q | q
    · exact (hO y q).imp .inl id
    · exact .inl (.inr q)
  · rcases h3 y q with q | q
    · exact hO y q
    · exact .inr (Nat.le_trans hT.size q)
theorem create_ok {S : Ds} {s : ByteArray} (h : (create S s).1 = 0) : (create S s).2 = gCreate s (tick S) ∧ rCreate S s = 0 := by
  unfold create actOf at h ⊢
  by_cases h0 : rCreate S s = 0
  · simp only [h0, ne_eq, not_true_eq_false, if_false] at h ⊢
    unfold run at h ⊢
    by_cases h1 : S.brk = 1
    · rw [if_pos h1] at h; cases h
    · rw [if_neg h1] at h ⊢
      by_cases h2 : S.fail = 1
      · rw [if_pos h2] at h; cases h
      · rw [if_neg h2]; exact ⟨rfl, trivial⟩
  · rw [if_pos h0] at h; exact absurd h h0
theorem bg_facts {W : Ws} {S : Ds} {r1 : Nat} {W1 : Ws} {S1 : Ds} (h : bgR W S = (r1, W1, S1)) (hl3 : W.uns < 1000000000) (hg : Dk.Good S1) (ha : S.acts < 1500000) : r1 = 0 → Nam.Nu W1.num ∧ W1.laid < 1000000000 ∧ W1.uns < 1000000000 ∧ S1.acts < 1900000 := by
  intro h0
  have hsa := syR_acts W S
  have hun : (syR W S).2.1.uns ≤ W.uns := by
    unfold syR shut
    split
    · exact Nat.le_refl _
    · split
      · exact Nat.zero_le _
      · split <;> exact Nat.le_refl _
  unfold bgR at h
  by_cases h1 : (syR W S).1 = 0
  · simp only [h1, ne_eq, not_true_eq_false, if_false] at h
    injection h with e1 e2
    injection e2 with e2 e3
    rw [h0] at e1
    obtain ⟨c1, c2⟩ := create_ok e1
    rw [if_pos e1] at e2
    rw [c1] at e3
    have hf := fr_ok (syR W S).2.2.fs
    have hl : S1.fs.length = (syR W S).2.2.fs.length + 1 := by rw [← e3]; simp [gCreate, tick]
    have hac : S1.acts = (syR W S).2.2.acts + 1 := by rw [← e3]; rfl
    have hc := hg.cnt
    subst e2
    refine ⟨⟨hf.1, ?_⟩, by show (0 : Nat) < _; omega, by show (syR W S).2.1.uns < _; omega, by omega⟩
    show fr (syR W S).2.2.fs < _
    have h2 := hf.2.1
    unfold nms at h2
    rw [List.length_map] at h2
    omega
  · rw [if_pos h1] at h
    rw [h] at h1
    exact absurd h0 h1
theorem place_box {w4 w5 : World} {x y z : Value} (hw5 : w5 = (w4.alloc (.cells #[x, y, z] TPl)).drew) : Below w4.heap.size w4 w5 ∧ Blk w5 w4.heap.size TPl [x, y, z] ∧ w5.heap.size = w4.heap.size + 1 := by
  have h0 := Blk.new w4 TPl [x, y, z]
  have hB : Below w4.heap.size w4 (w4.alloc (.cells #[x, y, z] TPl)) := (Below.refl _ w4).alloc (Nat.le_refl _) _
  rw [hw5]
  exact ⟨⟨hB.os, hB.tape, hB.output, hB.size, hB.block⟩, h0, by show (w4.alloc _).heap.size = _; rw [alloc_size]⟩
set_option maxRecDepth 100000 in
set_option maxHeartbeats 1000000 in
theorem put_is (w : World) (b d : Nat) (O : Nat → Prop) (W : Ws) (S : Ds) (r : Rec) (h : WK w b d O W S) (ho : W.op = true) (ha : S.acts < 1000000) (hn : W.num ≠ 0 → Nam.Nu W.num) (hu : W.uns ≠ 0 → W.num ≠ 0) (hw : (ofR r).Wf) (hrf : rf (ofR r) = 0) (hl1 : W.laid < 1000000000) (hl2 : (en (ofR r)).length < 1000000000) (hl3 : W.uns < 1000000000) :
    Calls Tryz.prog 9 #[.pointer (some ⟨b, 0, none⟩), .agg (rv r)] w fun e w' => e = .returned (.tuple #[if (pt W S (en (ofR r))).1 = 0 then plv (pre W S (en (ofR r)).length).2.1.num (pre W S (en (ofR r)).length).2.1.laid (en (ofR r)).length else zpl, .int .i64 ((pt W S (en (ofR r))).1 : Int)]) ∧ Nw O w b d (pt W S (en (ofR r))).2.1 (pt W S (en (ofR r))).2.2 w' := by
  have hmx : Tryz.prog.follows .mixedOrders = true := by kernel_rfl
  obtain ⟨pv, hpv⟩ : ∃ pv, pv = if (pt W S (en (ofR r))).1 = 0 then plv (pre W S (en (ofR r)).length).2.1.num (pre W S (en (ofR r)).length).2.1.laid (en (ofR r)).length else zpl := ⟨_, rfl⟩
  rw [← hpv]
  obtain ⟨lsn, kind, key, val⟩ := r
  obtain ⟨l, hl⟩ : ∃ l, l = en (ofR ⟨lsn, kind, key, val⟩) := ⟨_, rfl⟩
  obtain ⟨w0, hw0⟩ : ∃ w0, w0 = (w.alloc (.cells #[.int .u64 (lsn : Int), .int .i64 kind, .string key, .string val] 38)).alloc (.cells #[.int .u32 0, .int .i64 0, .int .i64 0] 32) := ⟨_, rfl⟩
  have hB0 : Below w.heap.size w w0 := by rw [hw0]; exact below_two w _ _
  have hK0 : WK w0 b d O W S := h.below hB0
  have hrb : Blk w0 w.heap.size 38 [.int .u64 (lsn : Int), .int .i64 kind, .string key, .string val] := by rw [hw0]; exact (Blk.new w _ [.int .u64 (lsn : Int), .int .i64 kind, .string key, .string val]).alloc _
  have hpb : Blk w0 (w.heap.size + 1) 32 [.int .u32 0, .int .i64 0, .int .i64 0] := by
    rw [hw0]
    have := Blk.new (w.alloc (.cells #[.int .u64 (lsn : Int), .int .i64 kind, .string key, .string val] 38)) 32 [.int .u32 0, .int .i64 0, .int .i64 0]
    rwa [alloc_size] at this
  have c3 : ((w.alloc (.cells #[.int .u64 (lsn : Int), .int .i64 kind, .string key, .string val] 38)).alloc (.cells #[.int .u32 0, .int .i64 0, .int .i64 0] 32)).cell? ⟨b, 3, none⟩ = some (.bool true) := by
    rw [← hw0, ← ho]; exact hK0.2.1.cell 3 _ rfl
  have HL : Hid (en (ofR ⟨lsn, kind, key, val⟩) = l) := hl.symm
  rw [← hl] at hl2 hpv ⊢
  have HPV := hd hpv
  have HOLT : Hid (∀ x, O x → x < w.heap.size) := h.1.olt
  have HBL : Hid (b < w.heap.size) := h.lt
  have HOD : Hid (O d) := by obtain ⟨⟨_, _, q⟩, _⟩ := h; exact q.own.1
  have HWF := hd hw
  have HRF := hd hrf
  have HH := hd hK0
  have HB0 := hd hB0
  have HRB := hd hrb
  have HPB := hd hpb
  have HW0 := hd hw0
  clear h hK0 hB0 hrb hpb hw0 hl hw hrf hpv
  go_enter Tryz.func9, Tryz.ntmps9
  simp only [rv]
  go_wp2_with fail
  rw [← HW0.out]
  refine Calls.mono (of_is ⟨lsn, kind, key, val⟩ w0) ?_
  rintro e w1 ⟨rfl, hw1⟩
  have hB1 : Below w0.heap.size w0 w1 := by rw [hw1]; exact below_two w0 _ _
  have HB1 := hd hB1
  clear hw1 hB1
  go_wp2_with fail
  refine Calls.mono (encF_all HWF.out HRF.out w1) ?_
  rintro e w2 ⟨u, rfl, hJ, hB2⟩
  rw [HL.out] at hJ
  obtain ⟨ua, uc, rfl, hlc⟩ := hJ.shape
  have hB02 : Below w0.heap.size w0 w2 := HB1.out.trans (hB2.mono HB1.out.size)
  have HB02 := hd hB02
  have HJ := hd hJ
  have hK2 := HH.out.below hB02
  have HK2 := hd hK2
  have hrb2 := hd (HRB.out.keep hB02)
  have hpb2 := hd (HPB.out.keep hB02)
  have HFI := hd (fits_is w2 b d O W S l.length hK2 hl1 hl2)
  clear hJ hB2 hB02 hK2
  go_wp2_with fail
  refine Calls.mono HFI.out ?_
  rintro e w3 ⟨rfl, hB3⟩
  have hB03 : Below w0.heap.size w0 w3 := HB02.out.trans (hB3.mono HB02.out.size)
  have HB03 := hd hB03
  have HK3 := hd (HK2.out.below hB3)
  have hrb3 := hd (hrb2.out.keep hB3)
  have hpb3 := hd (hpb2.out.keep hB3)
  have HB23 := hd hB3
  clear hB3 hB03
  have HJ3 : Hid (JB w3 w0.heap.size (.slice ua l.length uc) l) := (HJ.out.keepAll HB23.out).base HB1.out.size
  clear HJ
  have HNE : Hid (∀ (_ : World), l ≠ [] → ∀ g off n' c', Value.slice ua l.length uc = .slice (some ⟨g, off, none⟩) n' c' → g ≠ d) := by
    intro _ _ g off n' c' e
    have h1 := HJ3.out.blk_ge g off n' c' e
    have h2 := HOLT.out d HOD.out
    have h3 := HB0.out.size
    omega
  by_cases hf : fit W l.length = true
  · rw [hf]
    go_wp2_with fail
    obtain ⟨w4, hw4⟩ : ∃ w4, w4 = w3 := ⟨_, rfl⟩
    obtain ⟨W1, hW1⟩ : ∃ W1, W1 = W := ⟨_, rfl⟩
    obtain ⟨S1, hS1'⟩ : ∃ S1, S1 = S := ⟨_, rfl⟩
    obtain ⟨O1, hO1⟩ : ∃ O1, O1 = O := ⟨_, rfl⟩
    have hnz : W.num ≠ 0 := by
      intro e; unfold fit at hf; rw [e] at hf; simp at hf
    have HK4 : Hid (WK w4 b d O1 W1 S1) := by rw [hw4, hW1, hS1', hO1]; exact HK3.out
    have HNU : Hid (Nam.Nu W1.num) := by rw [hW1]; exact hn hnz
    have HLA : Hid (W1.laid < 1000000000) := by rw [hW1]; exact hl1
    have HUN : Hid (W1.uns < 1000000000) := by rw [hW1]; exact hl3
    have HJ4 : Hid (JB w4 w0.heap.size (.slice ua l.length uc) l) := by rw [hw4]; exact HJ3.out
    have HPB4 : Hid (Blk w4 (w.heap.size + 1) TPl [.int .u32 0, .int .i64 0, .int .i64 0]) := by rw [hw4]; exact hpb3.out
    have HXO : Hid (¬ O1 (w.heap.size + 1)) := by rw [hO1]; exact fun q => by have := HOLT.out _ q; omega
    have HTW : Hid (Tr (fun y => O y ∨ y = b) w w4) := by rw [hw4]; exact (Tr.ofB HB0.out _).trans (Tr.ofB HB03.out _) fun x q => .inl q
    have HOW : Hid (∀ y, O1 y → O y ∨ w.heap.size ≤ y) := by rw [hO1]; exact fun y q => .inl q
    have HPR : Hid (pre W S l.length = (0, W1, S1)) := by show pre W S l.length = _; unfold pre; rw [if_pos hf, hW1, hS1']
    have hac1 : S1.acts < 1900000 := by rw [hS1']; omega
    rw [← hw4]
    clear hw4 hW1 hS1' hO1 hf hnz
    --REGION p1
    obtain ⟨w5, hw5⟩ : ∃ w5, w5 = (w4.alloc (.cells #[.int .u32 (W1.num : Int), .int .i64 (W1.laid : Int), .int .i64 (l.length : Int)] TPl)).drew := ⟨_, rfl⟩
    obtain ⟨hB5, hX5, hs5⟩ := place_box hw5
    obtain ⟨SS, hS0, hS1, hS2⟩ : ∃ SS : Nat → World, SS 0 = w4.drew ∧ SS 1 = w4.drew.alloc (.cells #[.int .u32 0, .int .i64 0, .int .i64 0] TPl) ∧ SS 2 = w5 := ⟨fun s => match s with | 0 => w4.drew | 1 => w4.drew.alloc (.cells #[.int .u32 0, .int .i64 0, .int .i64 0] TPl) | _ => w5, rfl, rfl, rfl⟩
    have CC : ∀ j, j ≤ 1 → (SS j).cell? ⟨b, 4, none⟩ = some (.int .u32 (W1.num : Int)) ∧ (SS j).cell? ⟨b, 5, none⟩ = some (.int .i64 (W1.laid : Int)) := by
      intro j hj
      obtain rfl | rfl : j = 0 ∨ j = 1 := by omega
      · rw [hS0]; exact ⟨HK4.out.2.1.cell 4 _ rfl, HK4.out.2.1.cell 5 _ rfl⟩
      · rw [hS1]
        have q : Blk (w4.drew.alloc (.cells #[.int .u32 0, .int .i64 0, .int .i64 0] TPl)) b TW (wcs d W1) := Blk.alloc (W := w4.drew) HK4.out.2.1 _
        exact ⟨q.cell 4 _ rfl, q.cell 5 _ rfl⟩
    have hK5 := HK4.out.below hB5
    obtain ⟨r2, W2, S2, hly⟩ : ∃ r2 W2 S2, ly W1 S1 l = (r2, W2, S2) := ⟨_, _, _, rfl⟩
    have HLY := hd (lay_is w5 b d O1 W1 S1 ua uc l hK5 (by omega) HNU.out ((HJ4.out.keepAll hB5).isB) (HNE.out w5) HLA.out hl2 HUN.out)
    rw [hly] at HLY
    have HPT : Hid (pt W S l = (r2, W2, S2) ∧ (pre W S l.length).2.1 = W1) := ⟨by unfold pt; rw [HPR.out]; simp only [ne_eq, not_true_eq_false, if_false]; exact hly, by rw [HPR.out]⟩
    have HXX : Hid (∀ w6, Nw O1 w5 b d W2 S2 w6 → Blk w6 w4.heap.size TPl [.int .u32 (W1.num : Int), .int .i64 (W1.laid : Int), .int .i64 (l.length : Int)] ∧ Blk w6 (w.heap.size + 1) TPl [.int .u32 0, .int .i64 0, .int .i64 0] ∧ ∀ w7, Tr (fun y => y = w.heap.size + 1) w6 w7 → Nw O w b d W2 S2 w7) := by
      intro w6 q
      obtain ⟨O6, _, q2, _⟩ := id q
      have hlt4 : w.heap.size + 1 < w4.heap.size := HPB4.out.lt
      refine ⟨(q2.block _ (by omega) (fun e => e.elim (fun e => by have := HK4.out.1.olt _ e; omega) (fun e => by have := HK4.out.lt; omega))).trans hX5, (q2.block _ (by omega) (fun e => e.elim HXO.out (fun e => by have := HBL.out; omega))).trans (HPB4.out.keep hB5), fun w7 ht => ?_⟩
      exact Nw.out (HTW.out.trans (Tr.ofB hB5 _) fun x q => .inl q) HOW.out (Nat.le_succ _) (by omega) HXO.out (by have := HBL.out; omega) q ht
    have HS0 := hd hS0
    have HS1 := hd hS1
    have HS2 := hd hS2
    have HW5 := hd hw5
    clear hS0 hS1 hS2 hw5 hly hK5 hB5 hX5 hs5
    refine region_chain (fun i => match i with
      | 0 => Value.pointer (some { block := b, off := 0 })
      | 1 => Value.pointer (some { block := b, off := 0 })
      | 2 => .pointer (some ⟨b, 4, none⟩)
      | 3 => .int .u32 (W1.num : Int)
      | 4 => Value.pointer (some { block := b, off := 0 })
      | 5 => Value.pointer (some { block := b, off := 0 })
      | 6 => .pointer (some ⟨b, 5, none⟩)
      | 7 => .int .i64 (W1.laid : Int)
      | 8 => Value.slice ua l.length uc
      | 9 => .int .i64 (l.length : Int)
      | 10 => .agg #[.int .u32 (W1.num : Int), .int .i64 (W1.laid : Int), .int .i64 (l.length : Int)]
      | 11 => .pointer (some ⟨w4.heap.size, 0, none⟩)
      | 12 => undef
      | _ => undef) [11, 12] SS hmx (by kernel_rfl) (by kernel_rfl) (by kernel_rfl) (by kernel_rfl) HS0.out ?_ ?_ (by decide)
    · intro i o ho s a hsr hlo hhi hout haf hun
      have ee0 := getq (show a.tmps.getD 0 undef = Value.pointer (some { block := b, off := 0 }) from hout 0 (notDst_spec (by kernel_rfl)))
      have ee6 := getq (show a.tmps.getD 6 undef = Value.slice ua l.length uc from hout 6 (notDst_spec (by kernel_rfl)))
      clear hout
      match i, ho, hlo, hhi, haf, hun with
      | 0, ho, hlo, hhi, haf, hun =>
        obtain rfl := Option.some.inj ho
        refine step_c (w' := SS s) rfl fun K hK => ?_
        simp only [List.getElem_toArray, List.getElem_cons_zero] at hK ⊢
        clear haf hlo hhi hun ho hsr
        go_simp
        exact hK
      | 1, ho, hlo, hhi, haf, hun =>
        obtain rfl := Option.some.inj ho
        have f0 := getq (show a.tmps.getD 38 undef = Value.pointer (some { block := b, off := 0 }) from haf ⟨0, .data⟩ (by simp) rfl 38 rfl)
        refine step_c (w' := SS s) rfl fun K hK => ?_
        simp only [List.getElem_toArray, List.getElem_cons_succ, List.getElem_cons_zero] at hK ⊢
        clear haf hlo hhi hun ho hsr
        go_simp
        exact hK
      | 2, ho, hlo, hhi, haf, hun =>
        obtain rfl := Option.some.inj ho
        have f1 := getq (show a.tmps.getD 39 undef = Value.pointer (some { block := b, off := 0 }) from haf ⟨1, .data⟩ (by simp) rfl 39 rfl)
        refine step_c (w' := SS s) rfl fun K hK => ?_
        simp only [List.getElem_toArray, List.getElem_cons_succ, List.getElem_cons_zero] at hK ⊢
        clear haf hlo hhi hun ho hsr
        go_simp
        exact hK
      | 3, ho, hlo, hhi, haf, hun =>
        obtain rfl := Option.some.inj ho
        have f2 := getq (show a.tmps.getD 40 undef = .pointer (some ⟨b, 4, none⟩) from haf ⟨2, .data⟩ (by simp) rfl 40 rfl)
        have hst : s = 0 ∨ s = 1 := by have := hhi 1 (by decide) (.inr (by kernel_rfl)); simp at hsr; omega
        refine step_c (w' := SS s) rfl fun K hK => ?_
        simp only [List.getElem_toArray, List.getElem_cons_succ, List.getElem_cons_zero] at hK ⊢
        clear haf hlo hhi hun ho hsr
        have hc := (CC s (by omega)).1
        go_simp
        exact hK
      | 4, ho, hlo, hhi, haf, hun =>
        obtain rfl := Option.some.inj ho
        refine step_c (w' := SS s) rfl fun K hK => ?_
        simp only [List.getElem_toArray, List.getElem_cons_succ, List.getElem_cons_zero] at hK ⊢
        clear haf hlo hhi hun ho hsr
        go_simp
        exact hK
      | 5, ho, hlo, hhi, haf, hun =>
        obtain rfl := Option.some.inj ho
        have f4 := getq (show a.tmps.getD 42 undef = Value.pointer (some { block := b, off := 0 }) from haf ⟨4, .data⟩ (by simp) rfl 42 rfl)
        refine step_c (w' := SS s) rfl fun K hK => ?_
        simp only [List.getElem_toArray, List.getElem_cons_succ, List.getElem_cons_zero] at hK ⊢
        clear haf hlo hhi hun ho hsr
        go_simp
        exact hK
      | 6, ho, hlo, hhi, haf, hun =>
        obtain rfl := Option.some.inj ho
        have f5 := getq (show a.tmps.getD 43 undef = Value.pointer (some { block := b, off := 0 }) from haf ⟨5, .data⟩ (by simp) rfl 43 rfl)
        refine step_c (w' := SS s) rfl fun K hK => ?_
        simp only [List.getElem_toArray, List.getElem_cons_succ, List.getElem_cons_zero] at hK ⊢
        clear haf hlo hhi hun ho hsr
        go_simp
        exact hK
      | 7, ho, hlo, hhi, haf, hun =>
        obtain rfl := Option.some.inj ho
        have f6 := getq (show a.tmps.getD 44 undef = .pointer (some ⟨b, 5, none⟩) from haf ⟨6, .data⟩ (by simp) rfl 44 rfl)
        have hst : s = 0 ∨ s = 1 := by have := hhi 1 (by decide) (.inr (by kernel_rfl)); simp at hsr; omega
        refine step_c (w' := SS s) rfl fun K hK => ?_
        simp only [List.getElem_toArray, List.getElem_cons_succ, List.getElem_cons_zero] at hK ⊢
        clear haf hlo hhi hun ho hsr
        have hc := (CC s (by omega)).2
        go_simp
        exact hK
      | 8, ho, hlo, hhi, haf, hun =>
        obtain rfl := Option.some.inj ho
        refine step_c (w' := SS s) rfl fun K hK => ?_
        simp only [List.getElem_toArray, List.getElem_cons_succ, List.getElem_cons_zero] at hK ⊢
        clear haf hlo hhi hun ho hsr
        go_simp
        exact hK
      | 9, ho, hlo, hhi, haf, hun =>
        obtain rfl := Option.some.inj ho
        have f8 := getq (show a.tmps.getD 46 undef = Value.slice ua l.length uc from haf ⟨8, .data⟩ (by simp) rfl 46 rfl)
        have hst : s = 0 ∨ s = 1 := by have := hhi 1 (by decide) (.inr (by kernel_rfl)); simp at hsr; omega
        refine step_c (w' := SS s) rfl fun K hK => ?_
        simp only [List.getElem_toArray, List.getElem_cons_succ, List.getElem_cons_zero] at hK ⊢
        clear haf hlo hhi hun ho hsr
        go_simp
        exact hK
      | 10, ho, hlo, hhi, haf, hun =>
        obtain rfl := Option.some.inj ho
        have f3 := getq (show a.tmps.getD 41 undef = .int .u32 (W1.num : Int) from haf ⟨3, .data⟩ (by simp) rfl 41 rfl)
        have f7 := getq (show a.tmps.getD 45 undef = .int .i64 (W1.laid : Int) from haf ⟨7, .data⟩ (by simp) rfl 45 rfl)
        have f9 := getq (show a.tmps.getD 47 undef = .int .i64 (l.length : Int) from haf ⟨9, .data⟩ (by simp) rfl 47 rfl)
        refine step_c (w' := SS s) rfl fun K hK => ?_
        simp only [List.getElem_toArray, List.getElem_cons_succ, List.getElem_cons_zero] at hK ⊢
        clear haf hlo hhi hun ho hsr
        go_simp
        exact hK
      | 11, ho, hlo, hhi, haf, hun =>
        obtain rfl := Option.some.inj ho
        obtain rfl : s = 0 := by have := hhi 0 (by decide) (.inl (by kernel_rfl)); omega
        refine step_c (w' := SS 1) rfl fun K hK => ?_
        simp only [List.getElem_toArray, List.getElem_cons_succ, List.getElem_cons_zero] at hK ⊢
        clear haf hlo hhi hun ho hsr
        rw [HS1.out] at hK
        rw [HS0.out]
        go_simp
        exact hK
      | 12, ho, hlo, hhi, haf, hun =>
        obtain rfl := Option.some.inj ho
        have f11 := getq (show a.tmps.getD 9 undef = .pointer (some ⟨w4.heap.size, 0, none⟩) from haf ⟨11, .data⟩ (by simp) rfl 9 rfl)
        have f10 := getq (show a.tmps.getD 48 undef = .agg #[.int .u32 (W1.num : Int), .int .i64 (W1.laid : Int), .int .i64 (l.length : Int)] from haf ⟨10, .data⟩ (by simp) rfl 48 rfl)
        obtain rfl : s = 1 := by have := hlo 0 (by decide) (by kernel_rfl); have := hhi 1 (by decide) (.inl (by kernel_rfl)); omega
        refine step_c (w' := SS 2) rfl fun K hK => ?_
        simp only [List.getElem_toArray, List.getElem_cons_succ, List.getElem_cons_zero] at hK ⊢
        clear haf hlo hhi hun ho hsr
        rw [HS2.out, HW5.out] at hK
        rw [HS1.out]
        go_simp
        exact hK
      | n + 13, ho, _, _, _, _ => simp at ho
    · intro aa hdf hsz hout hval
      have hat : aa.tmps = #[Value.pointer (some { block := b, off := 0 }), Value.agg #[Value.int IntKind.u64 (lsn : Int), Value.int IntKind.i64 kind, Value.string key, Value.string val], undef, Value.pointer (some { block := w.heap.size, off := 0 }), Value.pointer (some { block := w.heap.size + 1, off := 0 }), Value.int IntKind.i64 0, Value.slice ua l.length uc, Value.int IntKind.i64 0, undef, .pointer (some ⟨w4.heap.size, 0, none⟩), undef, Value.pointer (some { block := b, off := 0 }), Value.pointer (some { block := b, off := 0 }), Value.pointer (some { block := b, off := 3 }), Value.bool true, Value.bool false, undef, Value.tuple #[Value.slice ua l.length uc, Value.int IntKind.i64 0], Value.agg #[Value.int IntKind.u64 (lsn : Int), Value.int IntKind.i64 kind, Value.string key, Value.string val], Value.agg (fv (ofR { lsn := lsn, kind := kind, key := key, val := val })), Value.tuple #[Value.slice ua l.length uc, Value.int IntKind.i64 0], Value.slice ua l.length uc, Value.int IntKind.i64 0, Value.int IntKind.i64 0, Value.bool false, undef, undef, Value.pointer (some { block := b, off := 0 }), Value.slice ua l.length uc, Value.int IntKind.i64 (l.length : Int), Value.bool true, Value.bool false, undef, undef, undef, undef, undef, undef, Value.pointer (some { block := b, off := 0 }), Value.pointer (some { block := b, off := 0 }), .pointer (some ⟨b, 4, none⟩), .int .u32 (W1.num : Int), Value.pointer (some { block := b, off := 0 }), Value.pointer (some { block := b, off := 0 }), .pointer (some ⟨b, 5, none⟩), .int .i64 (W1.laid : Int), Value.slice ua l.length uc, .int .i64 (l.length : Int), .agg #[.int .u32 (W1.num : Int), .int .i64 (W1.laid : Int), .int .i64 (l.length : Int)], undef, undef, undef, undef, undef, undef, undef, undef] := by
        refine arr_one (hsz.trans rfl) fun kk hkk => ?_
        match kk, hkk with
        | 0, _ => exact hout 0 (notDst_spec (by kernel_rfl))
        | 1, _ => exact hout 1 (notDst_spec (by kernel_rfl))
        | 2, _ => exact hout 2 (notDst_spec (by kernel_rfl))
        | 3, _ => exact hout 3 (notDst_spec (by kernel_rfl))
        | 4, _ => exact hout 4 (notDst_spec (by kernel_rfl))
        | 5, _ => exact hout 5 (notDst_spec (by kernel_rfl))
        | 6, _ => exact hout 6 (notDst_spec (by kernel_rfl))
        | 7, _ => exact hout 7 (notDst_spec (by kernel_rfl))
        | 8, _ => exact hout 8 (notDst_spec (by kernel_rfl))
        | 9, _ => exact hval 11 9 (by decide) rfl
        | 10, _ => exact hout 10 (notDst_spec (by kernel_rfl))
        | 11, _ => exact hout 11 (notDst_spec (by kernel_rfl))
        | 12, _ => exact hout 12 (notDst_spec (by kernel_rfl))
        | 13, _ => exact hout 13 (notDst_spec (by kernel_rfl))
        | 14, _ => exact hout 14 (notDst_spec (by kernel_rfl))
        | 15, _ => exact hout 15 (notDst_spec (by kernel_rfl))
        | 16, _ => exact hout 16 (notDst_spec (by kernel_rfl))
        | 17, _ => exact hout 17 (notDst_spec (by kernel_rfl))
        | 18, _ => exact hout 18 (notDst_spec (by kernel_rfl))
        | 19, _ => exact hout 19 (notDst_spec (by kernel_rfl))
        | 20, _ => exact hout 20 (notDst_spec (by kernel_rfl))
        | 21, _ => exact hout 21 (notDst_spec (by kernel_rfl))
        | 22, _ => exact hout 22 (notDst_spec (by kernel_rfl))
        | 23, _ => exact hout 23 (notDst_spec (by kernel_rfl))
        | 24, _ => exact hout 24 (notDst_spec (by kernel_rfl))
        | 25, _ => exact hout 25 (notDst_spec (by kernel_rfl))
        | 26, _ => exact hout 26 (notDst_spec (by kernel_rfl))
        | 27, _ => exact hout 27 (notDst_spec (by kernel_rfl))
        | 28, _ => exact hout 28 (notDst_spec (by kernel_rfl))
        | 29, _ => exact hout 29 (notDst_spec (by kernel_rfl))
        | 30, _ => exact hout 30 (notDst_spec (by kernel_rfl))
        | 31, _ => exact hout 31 (notDst_spec (by kernel_rfl))
        | 32, _ => exact hout 32 (notDst_spec (by kernel_rfl))
        | 33, _ => exact hout 33 (notDst_spec (by kernel_rfl))
        | 34, _ => exact hout 34 (notDst_spec (by kernel_rfl))
        | 35, _ => exact hout 35 (notDst_spec (by kernel_rfl))
        | 36, _ => exact hout 36 (notDst_spec (by kernel_rfl))
        | 37, _ => exact hout 37 (notDst_spec (by kernel_rfl))
        | 38, _ => exact hval 0 38 (by decide) rfl
        | 39, _ => exact hval 1 39 (by decide) rfl
        | 40, _ => exact hval 2 40 (by decide) rfl
        | 41, _ => exact hval 3 41 (by decide) rfl
        | 42, _ => exact hval 4 42 (by decide) rfl
        | 43, _ => exact hval 5 43 (by decide) rfl
        | 44, _ => exact hval 6 44 (by decide) rfl
        | 45, _ => exact hval 7 45 (by decide) rfl
        | 46, _ => exact hval 8 46 (by decide) rfl
        | 47, _ => exact hval 9 47 (by decide) rfl
        | 48, _ => exact hval 10 48 (by decide) rfl
        | 49, _ => exact hout 49 (notDst_spec (by kernel_rfl))
        | 50, _ => exact hout 50 (notDst_spec (by kernel_rfl))
        | 51, _ => exact hout 51 (notDst_spec (by kernel_rfl))
        | 52, _ => exact hout 52 (notDst_spec (by kernel_rfl))
        | 53, _ => exact hout 53 (notDst_spec (by kernel_rfl))
        | 54, _ => exact hout 54 (notDst_spec (by kernel_rfl))
        | 55, _ => exact hout 55 (notDst_spec (by kernel_rfl))
        | 56, _ => exact hout 56 (notDst_spec (by kernel_rfl))
        | n + 57, h => exact absurd h (by simp)
      obtain ⟨tt, dd⟩ := aa
      simp only at hat hdf
      subst hat hdf
      clear hsz hout hval
      rw [show SS [11, 12].length = w5 from HS2.out]
      go_wp2_with fail
      refine Calls.mono HLY.out ?_
      rintro e w6 ⟨rfl, hN6⟩
      obtain ⟨hX6, hP6, hE6⟩ := HXX.out w6 hN6
      have x0 := hX6.cell 0 _ rfl
      have x1 := hX6.cell 1 _ rfl
      have x2 := hX6.cell 2 _ rfl
      have p0 := hP6.cell 0 _ rfl
      have p1 := hP6.cell 1 _ rfl
      have p2 := hP6.cell 2 _ rfl
      have f0 := hP6.frozen 0
      have f1 := hP6.frozen 1
      have f2 := hP6.frozen 2
      have HP6 := hd hP6
      have HE6 := hd hE6
      have hpl := hP6.lt
      clear hN6 hX6 hP6 hE6 HXX
      by_cases hz : r2 = 0
      · subst hz
        go_wp2_with fail
        have HF : Hid (Blk (((w6.setCell ⟨w.heap.size + 1, 0, none⟩ (.int .u32 (W1.num : Int))).setCell ⟨w.heap.size + 1, 1, none⟩ (.int .i64 (W1.laid : Int))).setCell ⟨w.heap.size + 1, 2, none⟩ (.int .i64 (l.length : Int))) (w.heap.size + 1) TPl [.int .u32 (W1.num : Int), .int .i64 (W1.laid : Int), .int .i64 (l.length : Int)]) := Blk.set (j := 2) (Blk.set (j := 1) (Blk.set (j := 0) HP6.out _) _) _
        refine bodyPost_ret (results_cell2 rfl _ _ (w.heap.size + 1) TPl #[.int .u32 (W1.num : Int), .int .i64 (W1.laid : Int), .int .i64 (l.length : Int)] (0, 0) _ rfl HF.out Tryz.underlying32 rfl (by kernel_rfl)) rfl ?_
        rw [HPV.out, HPT.out.1, HPT.out.2]
        refine ⟨by rw [if_pos rfl]; rfl, HE6.out _ (((Tr.set (O := fun y => y = w.heap.size + 1) rfl _).trans (Tr.set (O := fun y => y = w.heap.size + 1) rfl _) fun x q => .inl q).trans (Tr.set (O := fun y => y = w.heap.size + 1) rfl _) fun x q => .inl q)⟩
      · have z1 : ¬ ((r2 : Int) = 0) := by omega
        have HZ1 := hd hz
        clear hz
        go_wp2_with fail
        have HF : Hid (Blk (((w6.setCell ⟨w.heap.size + 1, 0, none⟩ (.int .u32 0)).setCell ⟨w.heap.size + 1, 1, none⟩ (.int .i64 0)).setCell ⟨w.heap.size + 1, 2, none⟩ (.int .i64 0)) (w.heap.size + 1) TPl [.int .u32 0, .int .i64 0, .int .i64 0]) := Blk.set (j := 2) (Blk.set (j := 1) (Blk.set (j := 0) HP6.out _) _) _
        refine bodyPost_ret (results_cell2 rfl _ _ (w.heap.size + 1) TPl #[.int .u32 0, .int .i64 0, .int .i64 0] (0, 0) _ rfl HF.out Tryz.underlying32 rfl (by kernel_rfl)) rfl ?_
        rw [HPV.out, HPT.out.1]
        refine ⟨by rw [if_neg HZ1.out]; rfl, HE6.out _ (((Tr.set (O := fun y => y = w.heap.size + 1) rfl _).trans (Tr.set (O := fun y => y = w.heap.size + 1) rfl _) fun x q => .inl q).trans (Tr.set (O := fun y => y = w.heap.size + 1) rfl _) fun x q => .inl q)⟩
    --END p1
  · have hff : fit W l.length = false := by simpa using hf
    rw [hff]
    obtain ⟨r1, W1, S1, hbg⟩ : ∃ r1 W1 S1, bgR W S = (r1, W1, S1) := ⟨_, _, _, rfl⟩
    have HBG := hd (begin_is w3 b d O W S HK3.out (by omega) (fun q => hn (hu q)))
    rw [hbg] at HBG
    have hprr : pre W S l.length = (r1, W1, S1) := by unfold pre; rw [if_neg hf, hbg]
    go_wp2_with fail
    refine Calls.mono HBG.out ?_
    rintro e w4 ⟨rfl, hN4⟩
    obtain ⟨O1, hK4, hT4, hO4⟩ := id hN4
    have hfac := bg_facts hbg hl3 hK4.1.good (by omega)
    have hlt3 : w.heap.size + 1 < w3.heap.size := hpb3.out.lt
    have hxo : ¬ O (w.heap.size + 1) := fun q => by have := HOLT.out _ q; omega
    have HPB4 : Hid (Blk w4 (w.heap.size + 1) TPl [.int .u32 0, .int .i64 0, .int .i64 0]) := (hT4.block _ hlt3 (fun e => e.elim hxo (fun e => by have := HBL.out; omega))).trans hpb3.out
    have HXO : Hid (¬ O1 (w.heap.size + 1)) := fun q => (hO4 _ q).elim hxo (fun q => by omega)
    have HTW0 : Hid (Tr (fun y => O y ∨ y = b) w w3) := (Tr.ofB HB0.out _).trans (Tr.ofB HB03.out _) fun x q => .inl q
    by_cases hz : r1 = 0
    · subst hz
      obtain ⟨hnu1, hla1, hun1, hac1⟩ := hfac rfl
      have HK4 := hd hK4
      have HNU := hd hnu1
      have HLA := hd hla1
      have HUN := hd hun1
      have HJ4 : Hid (JB w4 w0.heap.size (.slice ua l.length uc) l) := by
        refine JB.same HJ3.out fun g hg => hT4.block g (HJ3.out.blk_lt g hg) ?_
        obtain ⟨a9, rfl⟩ : ∃ a9 : Addr, ua = some a9 := by
          cases ua with
          | none => cases hg
          | some a9 => exact ⟨a9, rfl⟩
        obtain ⟨q0, q1⟩ := HJ3.out
        have hge : w0.heap.size ≤ g := by
          rcases q1.2 with ⟨q2, _⟩ | ⟨g', cap, cur, q2, q3, _⟩
          · cases q2
          · injection q2 with q2 _ _
            injection q2 with q2
            subst q2
            injection hg with hg
            have hg' : g' = g := hg
            omega
        have h3 := HB0.out.size
        rintro (e | e)
        · have := HOLT.out _ e; omega
        · have := HBL.out; omega
      have HTW : Hid (Tr (fun y => O y ∨ y = b) w w4) := HTW0.out.trans hT4 fun x q => .inl q
      have HOW : Hid (∀ y, O1 y → O y ∨ w.heap.size ≤ y) := fun y q => (hO4 y q).imp id fun q => Nat.le_trans HTW0.out.size q
      have HPR := hd hprr
      clear hK4 hT4 hO4 hnu1 hla1 hun1 hprr hbg hN4 hfac hf hff
      go_wp2_with fail
      --REGION p2
      obtain ⟨w5, hw5⟩ : ∃ w5, w5 = (w4.alloc (.cells #[.int .u32 (W1.num : Int), .int .i64 (W1.laid : Int), .int .i64 (l.length : Int)] TPl)).drew := ⟨_, rfl⟩
      obtain ⟨hB5, hX5, hs5⟩ := place_box hw5
      obtain ⟨SS, hS0, hS1, hS2⟩ : ∃ SS : Nat → World, SS 0 = w4.drew ∧ SS 1 = w4.drew.alloc (.cells #[.int .u32 0, .int .i64 0, .int .i64 0] TPl) ∧ SS 2 = w5 := ⟨fun s => match s with | 0 => w4.drew | 1 => w4.drew.alloc (.cells #[.int .u32 0, .int .i64 0, .int .i64 0] TPl) | _ => w5, rfl, rfl, rfl⟩
      have CC : ∀ j, j ≤ 1 → (SS j).cell? ⟨b, 4, none⟩ = some (.int .u32 (W1.num : Int)) ∧ (SS j).cell? ⟨b, 5, none⟩ = some (.int .i64 (W1.laid : Int)) := by
        intro j hj
        obtain rfl | rfl : j = 0 ∨ j = 1 := by omega
        · rw [hS0]; exact ⟨HK4.out.2.1.cell 4 _ rfl, HK4.out.2.1.cell 5 _ rfl⟩
        · rw [hS1]
          have q : Blk (w4.drew.alloc (.cells #[.int .u32 0, .int .i64 0, .int .i64 0] TPl)) b TW (wcs d W1) := Blk.alloc (W := w4.drew) HK4.out.2.1 _
          exact ⟨q.cell 4 _ rfl, q.cell 5 _ rfl⟩
      have hK5 := HK4.out.below hB5
      obtain ⟨r2, W2, S2, hly⟩ : ∃ r2 W2 S2, ly W1 S1 l = (r2, W2, S2) := ⟨_, _, _, rfl⟩
      have HLY := hd (lay_is w5 b d O1 W1 S1 ua uc l hK5 (by omega) HNU.out ((HJ4.out.keepAll hB5).isB) (HNE.out w5) HLA.out hl2 HUN.out)
      rw [hly] at HLY
      have HPT : Hid (pt W S l = (r2, W2, S2) ∧ (pre W S l.length).2.1 = W1) := ⟨by unfold pt; rw [HPR.out]; simp only [ne_eq, not_true_eq_false, if_false]; exact hly, by rw [HPR.out]⟩
      have HXX : Hid (∀ w6, Nw O1 w5 b d W2 S2 w6 → Blk w6 w4.heap.size TPl [.int .u32 (W1.num : Int), .int .i64 (W1.laid : Int), .int .i64 (l.length : Int)] ∧ Blk w6 (w.heap.size + 1) TPl [.int .u32 0, .int .i64 0, .int .i64 0] ∧ ∀ w7, Tr (fun y => y = w.heap.size + 1) w6 w7 → Nw O w b d W2 S2 w7) := by
        intro w6 q
        obtain ⟨O6, _, q2, _⟩ := id q
        have hlt4 : w.heap.size + 1 < w4.heap.size := HPB4.out.lt
        refine ⟨(q2.block _ (by omega) (fun e => e.elim (fun e => by have := HK4.out.1.olt _ e; omega) (fun e => by have := HK4.out.lt; omega))).trans hX5, (q2.block _ (by omega) (fun e => e.elim HXO.out (fun e => by have := HBL.out; omega))).trans (HPB4.out.keep hB5), fun w7 ht => ?_⟩
        exact Nw.out (HTW.out.trans (Tr.ofB hB5 _) fun x q => .inl q) HOW.out (Nat.le_succ _) (by omega) HXO.out (by have := HBL.out; omega) q ht
      have HS0 := hd hS0
      have HS1 := hd hS1
      have HS2 := hd hS2
      have HW5 := hd hw5
      clear hS0 hS1 hS2 hw5 hly hK5 hB5 hX5 hs5
      refine region_chain (fun i => match i with
        | 0 => Value.pointer (some { block := b, off := 0 })
        | 1 => Value.pointer (some { block := b, off := 0 })
        | 2 => .pointer (some ⟨b, 4, none⟩)
        | 3 => .int .u32 (W1.num : Int)
        | 4 => Value.pointer (some { block := b, off := 0 })
        | 5 => Value.pointer (some { block := b, off := 0 })
        | 6 => .pointer (some ⟨b, 5, none⟩)
        | 7 => .int .i64 (W1.laid : Int)
        | 8 => Value.slice ua l.length uc
        | 9 => .int .i64 (l.length : Int)
        | 10 => .agg #[.int .u32 (W1.num : Int), .int .i64 (W1.laid : Int), .int .i64 (l.length : Int)]
        | 11 => .pointer (some ⟨w4.heap.size, 0, none⟩)
        | 12 => undef
        | _ => undef) [11, 12] SS hmx (by kernel_rfl) (by kernel_rfl) (by kernel_rfl) (by kernel_rfl) HS0.out ?_ ?_ (by decide)
      · intro i o ho s a hsr hlo hhi hout haf hun
        have ee0 := getq (show a.tmps.getD 0 undef = Value.pointer (some { block := b, off := 0 }) from hout 0 (notDst_spec (by kernel_rfl)))
        have ee6 := getq (show a.tmps.getD 6 undef = Value.slice ua l.length uc from hout 6 (notDst_spec (by kernel_rfl)))
        clear hout
        match i, ho, hlo, hhi, haf, hun with
        | 0, ho, hlo, hhi, haf, hun =>
          obtain rfl := Option.some.inj ho
          refine step_c (w' := SS s) rfl fun K hK => ?_
          simp only [List.getElem_toArray, List.getElem_cons_zero] at hK ⊢
          clear haf hlo hhi hun ho hsr
          go_simp
          exact hK
        | 1, ho, hlo, hhi, haf, hun =>
          obtain rfl := Option.some.inj ho
          have f0 := getq (show a.tmps.getD 38 undef = Value.pointer (some { block := b, off := 0 }) from haf ⟨0, .data⟩ (by simp) rfl 38 rfl)
          refine step_c (w' := SS s) rfl fun K hK => ?_
          simp only [List.getElem_toArray, List.getElem_cons_succ, List.getElem_cons_zero] at hK ⊢
          clear haf hlo hhi hun ho hsr
          go_simp
          exact hK
        | 2, ho, hlo, hhi, haf, hun =>
          obtain rfl := Option.some.inj ho
          have f1 := getq (show a.tmps.getD 39 undef = Value.pointer (some { block := b, off := 0 }) from haf ⟨1, .data⟩ (by simp) rfl 39 rfl)
          refine step_c (w' := SS s) rfl fun K hK => ?_
          simp only [List.getElem_toArray, List.getElem_cons_succ, List.getElem_cons_zero] at hK ⊢
          clear haf hlo hhi hun ho hsr
          go_simp
          exact hK
        | 3, ho, hlo, hhi, haf, hun =>
          obtain rfl := Option.some.inj ho
          have f2 := getq (show a.tmps.getD 40 undef = .pointer (some ⟨b, 4, none⟩) from haf ⟨2, .data⟩ (by simp) rfl 40 rfl)
          have hst : s = 0 ∨ s = 1 := by have := hhi 1 (by decide) (.inr (by kernel_rfl)); simp at hsr; omega
          refine step_c (w' := SS s) rfl fun K hK => ?_
          simp only [List.getElem_toArray, List.getElem_cons_succ, List.getElem_cons_zero] at hK ⊢
          clear haf hlo hhi hun ho hsr
          have hc := (CC s (by omega)).1
          go_simp
          exact hK
        | 4, ho, hlo, hhi, haf, hun =>
          obtain rfl := Option.some.inj ho
          refine step_c (w' := SS s) rfl fun K hK => ?_
          simp only [List.getElem_toArray, List.getElem_cons_succ, List.getElem_cons_zero] at hK ⊢
          clear haf hlo hhi hun ho hsr
          go_simp
          exact hK
        | 5, ho, hlo, hhi, haf, hun =>
          obtain rfl := Option.some.inj ho
          have f4 := getq (show a.tmps.getD 42 undef = Value.pointer (some { block := b, off := 0 }) from haf ⟨4, .data⟩ (by simp) rfl 42 rfl)
          refine step_c (w' := SS s) rfl fun K hK => ?_
          simp only [List.getElem_toArray, List.getElem_cons_succ, List.getElem_cons_zero] at hK ⊢
          clear haf hlo hhi hun ho hsr
          go_simp
          exact hK
        | 6, ho, hlo, hhi, haf, hun =>
          obtain rfl := Option.some.inj ho
          have f5 := getq (show a.tmps.getD 43 undef = Value.pointer (some { block := b, off := 0 }) from haf ⟨5, .data⟩ (by simp) rfl 43 rfl)
          refine step_c (w' := SS s) rfl fun K hK => ?_
          simp only [List.getElem_toArray, List.getElem_cons_succ, List.getElem_cons_zero] at hK ⊢
          clear haf hlo hhi hun ho hsr
          go_simp
          exact hK
        | 7, ho, hlo, hhi, haf, hun =>
          obtain rfl := Option.some.inj ho
          have f6 := getq (show a.tmps.getD 44 undef = .pointer (some ⟨b, 5, none⟩) from haf ⟨6, .data⟩ (by simp) rfl 44 rfl)
          have hst : s = 0 ∨ s = 1 := by have := hhi 1 (by decide) (.inr (by kernel_rfl)); simp at hsr; omega
          refine step_c (w' := SS s) rfl fun K hK => ?_
          simp only [List.getElem_toArray, List.getElem_cons_succ, List.getElem_cons_zero] at hK ⊢
          clear haf hlo hhi hun ho hsr
          have hc := (CC s (by omega)).2
          go_simp
          exact hK
        | 8, ho, hlo, hhi, haf, hun =>
          obtain rfl := Option.some.inj ho
          refine step_c (w' := SS s) rfl fun K hK => ?_
          simp only [List.getElem_toArray, List.getElem_cons_succ, List.getElem_cons_zero] at hK ⊢
          clear haf hlo hhi hun ho hsr
          go_simp
          exact hK
        | 9, ho, hlo, hhi, haf, hun =>
          obtain rfl := Option.some.inj ho
          have f8 := getq (show a.tmps.getD 46 undef = Value.slice ua l.length uc from haf ⟨8, .data⟩ (by simp) rfl 46 rfl)
          have hst : s = 0 ∨ s = 1 := by have := hhi 1 (by decide) (.inr (by kernel_rfl)); simp at hsr; omega
          refine step_c (w' := SS s) rfl fun K hK => ?_
          simp only [List.getElem_toArray, List.getElem_cons_succ, List.getElem_cons_zero] at hK ⊢
          clear haf hlo hhi hun ho hsr
          go_simp
          exact hK
        | 10, ho, hlo, hhi, haf, hun =>
          obtain rfl := Option.some.inj ho
          have f3 := getq (show a.tmps.getD 41 undef = .int .u32 (W1.num : Int) from haf ⟨3, .data⟩ (by simp) rfl 41 rfl)
          have f7 := getq (show a.tmps.getD 45 undef = .int .i64 (W1.laid : Int) from haf ⟨7, .data⟩ (by simp) rfl 45 rfl)
          have f9 := getq (show a.tmps.getD 47 undef = .int .i64 (l.length : Int) from haf ⟨9, .data⟩ (by simp) rfl 47 rfl)
          refine step_c (w' := SS s) rfl fun K hK => ?_
          simp only [List.getElem_toArray, List.getElem_cons_succ, List.getElem_cons_zero] at hK ⊢
          clear haf hlo hhi hun ho hsr
          go_simp
          exact hK
        | 11, ho, hlo, hhi, haf, hun =>
          obtain rfl := Option.some.inj ho
          obtain rfl : s = 0 := by have := hhi 0 (by decide) (.inl (by kernel_rfl)); omega
          refine step_c (w' := SS 1) rfl fun K hK => ?_
          simp only [List.getElem_toArray, List.getElem_cons_succ, List.getElem_cons_zero] at hK ⊢
          clear haf hlo hhi hun ho hsr
          rw [HS1.out] at hK
          rw [HS0.out]
          go_simp
          exact hK
        | 12, ho, hlo, hhi, haf, hun =>
          obtain rfl := Option.some.inj ho
          have f11 := getq (show a.tmps.getD 9 undef = .pointer (some ⟨w4.heap.size, 0, none⟩) from haf ⟨11, .data⟩ (by simp) rfl 9 rfl)
          have f10 := getq (show a.tmps.getD 48 undef = .agg #[.int .u32 (W1.num : Int), .int .i64 (W1.laid : Int), .int .i64 (l.length : Int)] from haf ⟨10, .data⟩ (by simp) rfl 48 rfl)
          obtain rfl : s = 1 := by have := hlo 0 (by decide) (by kernel_rfl); have := hhi 1 (by decide) (.inl (by kernel_rfl)); omega
          refine step_c (w' := SS 2) rfl fun K hK => ?_
          simp only [List.getElem_toArray, List.getElem_cons_succ, List.getElem_cons_zero] at hK ⊢
          clear haf hlo hhi hun ho hsr
          rw [HS2.out, HW5.out] at hK
          rw [HS1.out]
          go_simp
          exact hK
        | n + 13, ho, _, _, _, _ => simp at ho
      · intro aa hdf hsz hout hval
        have hat : aa.tmps = #[Value.pointer (some { block := b, off := 0 }), Value.agg #[Value.int IntKind.u64 (lsn : Int), Value.int IntKind.i64 kind, Value.string key, Value.string val], undef, Value.pointer (some { block := w.heap.size, off := 0 }), Value.pointer (some { block := w.heap.size + 1, off := 0 }), Value.int IntKind.i64 0, Value.slice ua l.length uc, Value.int IntKind.i64 0, Value.int IntKind.i64 0, .pointer (some ⟨w4.heap.size, 0, none⟩), undef, Value.pointer (some { block := b, off := 0 }), Value.pointer (some { block := b, off := 0 }), Value.pointer (some { block := b, off := 3 }), Value.bool true, Value.bool false, undef, Value.tuple #[Value.slice ua l.length uc, Value.int IntKind.i64 0], Value.agg #[Value.int IntKind.u64 (lsn : Int), Value.int IntKind.i64 kind, Value.string key, Value.string val], Value.agg (fv (ofR { lsn := lsn, kind := kind, key := key, val := val })), Value.tuple #[Value.slice ua l.length uc, Value.int IntKind.i64 0], Value.slice ua l.length uc, Value.int IntKind.i64 0, Value.int IntKind.i64 0, Value.bool false, undef, undef, Value.pointer (some { block := b, off := 0 }), Value.slice ua l.length uc, Value.int IntKind.i64 (l.length : Int), Value.bool false, Value.bool true, Value.pointer (some { block := b, off := 0 }), Value.int IntKind.i64 0, Value.int IntKind.i64 0, Value.bool false, undef, undef, Value.pointer (some { block := b, off := 0 }), Value.pointer (some { block := b, off := 0 }), .pointer (some ⟨b, 4, none⟩), .int .u32 (W1.num : Int), Value.pointer (some { block := b, off := 0 }), Value.pointer (some { block := b, off := 0 }), .pointer (some ⟨b, 5, none⟩), .int .i64 (W1.laid : Int), Value.slice ua l.length uc, .int .i64 (l.length : Int), .agg #[.int .u32 (W1.num : Int), .int .i64 (W1.laid : Int), .int .i64 (l.length : Int)], undef, undef, undef, undef, undef, undef, undef, undef] := by
          refine arr_one (hsz.trans rfl) fun kk hkk => ?_
          match kk, hkk with
          | 0, _ => exact hout 0 (notDst_spec (by kernel_rfl))
          | 1, _ => exact hout 1 (notDst_spec (by kernel_rfl))
          | 2, _ => exact hout 2 (notDst_spec (by kernel_rfl))
          | 3, _ => exact hout 3 (notDst_spec (by kernel_rfl))
          | 4, _ => exact hout 4 (notDst_spec (by kernel_rfl))
          | 5, _ => exact hout 5 (notDst_spec (by kernel_rfl))
          | 6, _ => exact hout 6 (notDst_spec (by kernel_rfl))
          | 7, _ => exact hout 7 (notDst_spec (by kernel_rfl))
          | 8, _ => exact hout 8 (notDst_spec (by kernel_rfl))
          | 9, _ => exact hval 11 9 (by decide) rfl
          | 10, _ => exact hout 10 (notDst_spec (by kernel_rfl))
          | 11, _ => exact hout 11 (notDst_spec (by kernel_rfl))
          | 12, _ => exact hout 12 (notDst_spec (by kernel_rfl))
          | 13, _ => exact hout 13 (notDst_spec (by kernel_rfl))
          | 14, _ => exact hout 14 (notDst_spec (by kernel_rfl))
          | 15, _ => exact hout 15 (notDst_spec (by kernel_rfl))
          | 16, _ => exact hout 16 (notDst_spec (by kernel_rfl))
          | 17, _ => exact hout 17 (notDst_spec (by kernel_rfl))
          | 18, _ => exact hout 18 (notDst_spec (by kernel_rfl))
          | 19, _ => exact hout 19 (notDst_spec (by kernel_rfl))
          | 20, _ => exact hout 20 (notDst_spec (by kernel_rfl))
          | 21, _ => exact hout 21 (notDst_spec (by kernel_rfl))
          | 22, _ => exact hout 22 (notDst_spec (by kernel_rfl))
          | 23, _ => exact hout 23 (notDst_spec (by kernel_rfl))
          | 24, _ => exact hout 24 (notDst_spec (by kernel_rfl))
          | 25, _ => exact hout 25 (notDst_spec (by kernel_rfl))
          | 26, _ => exact hout 26 (notDst_spec (by kernel_rfl))
          | 27, _ => exact hout 27 (notDst_spec (by kernel_rfl))
          | 28, _ => exact hout 28 (notDst_spec (by kernel_rfl))
          | 29, _ => exact hout 29 (notDst_spec (by kernel_rfl))
          | 30, _ => exact hout 30 (notDst_spec (by kernel_rfl))
          | 31, _ => exact hout 31 (notDst_spec (by kernel_rfl))
          | 32, _ => exact hout 32 (notDst_spec (by kernel_rfl))
          | 33, _ => exact hout 33 (notDst_spec (by kernel_rfl))
          | 34, _ => exact hout 34 (notDst_spec (by kernel_rfl))
          | 35, _ => exact hout 35 (notDst_spec (by kernel_rfl))
          | 36, _ => exact hout 36 (notDst_spec (by kernel_rfl))
          | 37, _ => exact hout 37 (notDst_spec (by kernel_rfl))
          | 38, _ => exact hval 0 38 (by decide) rfl
          | 39, _ => exact hval 1 39 (by decide) rfl
          | 40, _ => exact hval 2 40 (by decide) rfl
          | 41, _ => exact hval 3 41 (by decide) rfl
          | 42, _ => exact hval 4 42 (by decide) rfl
          | 43, _ => exact hval 5 43 (by decide) rfl
          | 44, _ => exact hval 6 44 (by decide) rfl
          | 45, _ => exact hval 7 45 (by decide) rfl
          | 46, _ => exact hval 8 46 (by decide) rfl
          | 47, _ => exact hval 9 47 (by decide) rfl
          | 48, _ => exact hval 10 48 (by decide) rfl
          | 49, _ => exact hout 49 (notDst_spec (by kernel_rfl))
          | 50, _ => exact hout 50 (notDst_spec (by kernel_rfl))
          | 51, _ => exact hout 51 (notDst_spec (by kernel_rfl))
          | 52, _ => exact hout 52 (notDst_spec (by kernel_rfl))
          | 53, _ => exact hout 53 (notDst_spec (by kernel_rfl))
          | 54, _ => exact hout 54 (notDst_spec (by kernel_rfl))
          | 55, _ => exact hout 55 (notDst_spec (by kernel_rfl))
          | 56, _ => exact hout 56 (notDst_spec (by kernel_rfl))
          | n + 57, h => exact absurd h (by simp)
        obtain ⟨tt, dd⟩ := aa
        simp only at hat hdf
        subst hat hdf
        clear hsz hout hval
        rw [show SS [11, 12].length = w5 from HS2.out]
        go_wp2_with fail
        refine Calls.mono HLY.out ?_
        rintro e w6 ⟨rfl, hN6⟩
        obtain ⟨hX6, hP6, hE6⟩ := HXX.out w6 hN6
        have x0 := hX6.cell 0 _ rfl
        have x1 := hX6.cell 1 _ rfl
        have x2 := hX6.cell 2 _ rfl
        have p0 := hP6.cell 0 _ rfl
        have p1 := hP6.cell 1 _ rfl
        have p2 := hP6.cell 2 _ rfl
        have f0 := hP6.frozen 0
        have f1 := hP6.frozen 1
        have f2 := hP6.frozen 2
        have HP6 := hd hP6
        have HE6 := hd hE6
        have hpl := hP6.lt
        clear hN6 hX6 hP6 hE6 HXX
        by_cases hz : r2 = 0
        · subst hz
          go_wp2_with fail
          have HF : Hid (Blk (((w6.setCell ⟨w.heap.size + 1, 0, none⟩ (.int .u32 (W1.num : Int))).setCell ⟨w.heap.size + 1, 1, none⟩ (.int .i64 (W1.laid : Int))).setCell ⟨w.heap.size + 1, 2, none⟩ (.int .i64 (l.length : Int))) (w.heap.size + 1) TPl [.int .u32 (W1.num : Int), .int .i64 (W1.laid : Int), .int .i64 (l.length : Int)]) := Blk.set (j := 2) (Blk.set (j := 1) (Blk.set (j := 0) HP6.out _) _) _
          refine bodyPost_ret (results_cell2 rfl _ _ (w.heap.size + 1) TPl #[.int .u32 (W1.num : Int), .int .i64 (W1.laid : Int), .int .i64 (l.length : Int)] (0, 0) _ rfl HF.out Tryz.underlying32 rfl (by kernel_rfl)) rfl ?_
          rw [HPV.out, HPT.out.1, HPT.out.2]
          refine ⟨by rw [if_pos rfl]; rfl, HE6.out _ (((Tr.set (O := fun y => y = w.heap.size + 1) rfl _).trans (Tr.set (O := fun y => y = w.heap.size + 1) rfl _) fun x q => .inl q).trans (Tr.set (O := fun y => y = w.heap.size + 1) rfl _) fun x q => .inl q)⟩
        · have z1 : ¬ ((r2 : Int) = 0) := by omega
          have HZ1 := hd hz
          clear hz
          go_wp2_with fail
          have HF : Hid (Blk (((w6.setCell ⟨w.heap.size + 1, 0, none⟩ (.int .u32 0)).setCell ⟨w.heap.size + 1, 1, none⟩ (.int .i64 0)).setCell ⟨w.heap.size + 1, 2, none⟩ (.int .i64 0)) (w.heap.size + 1) TPl [.int .u32 0, .int .i64 0, .int .i64 0]) := Blk.set (j := 2) (Blk.set (j := 1) (Blk.set (j := 0) HP6.out _) _) _
          refine bodyPost_ret (results_cell2 rfl _ _ (w.heap.size + 1) TPl #[.int .u32 0, .int .i64 0, .int .i64 0] (0, 0) _ rfl HF.out Tryz.underlying32 rfl (by kernel_rfl)) rfl ?_
          rw [HPV.out, HPT.out.1]
          refine ⟨by rw [if_neg HZ1.out]; rfl, HE6.out _ (((Tr.set (O := fun y => y = w.heap.size + 1) rfl _).trans (Tr.set (O := fun y => y = w.heap.size + 1) rfl _) fun x q => .inl q).trans (Tr.set (O := fun y => y = w.heap.size + 1) rfl _) fun x q => .inl q)⟩
      --END p2
    · have z1 : ¬ ((r1 : Int) = 0) := by omega
      have HPT : Hid (pt W S l = (r1, W1, S1)) := by show pt W S l = _; unfold pt; rw [hprr]; exact if_pos hz
      have HN4 := hd hN4
      have p0 := HPB4.out.cell 0 _ rfl
      have p1 := HPB4.out.cell 1 _ rfl
      have p2 := HPB4.out.cell 2 _ rfl
      have f0 := HPB4.out.frozen 0
      have f1 := HPB4.out.frozen 1
      have f2 := HPB4.out.frozen 2
      have hpl := HPB4.out.lt
      have HZ1 := hd hz
      have HLT3 := hd hlt3
      have HXO0 := hd hxo
      clear hlt3 hxo hK4 hT4 hO4 hprr hbg hN4 hfac hf hff hz
      go_wp2_with fail
      have HF : Hid (Blk (((w4.setCell ⟨w.heap.size + 1, 0, none⟩ (.int .u32 0)).setCell ⟨w.heap.size + 1, 1, none⟩ (.int .i64 0)).setCell ⟨w.heap.size + 1, 2, none⟩ (.int .i64 0)) (w.heap.size + 1) TPl [.int .u32 0, .int .i64 0, .int .i64 0]) := Blk.set (j := 2) (Blk.set (j := 1) (Blk.set (j := 0) HPB4.out _) _) _
      refine bodyPost_ret (results_cell2 rfl _ _ (w.heap.size + 1) TPl #[.int .u32 0, .int .i64 0, .int .i64 0] (0, 0) _ rfl HF.out Tryz.underlying32 rfl (by kernel_rfl)) rfl ?_
      rw [HPV.out, HPT.out]
      refine ⟨by rw [if_neg HZ1.out]; rfl, Nw.out HTW0.out (fun y q => .inl q) (Nat.le_succ _) HLT3.out HXO0.out (by have := HBL.out; omega) HN4.out (((Tr.set (O := fun y => y = w.heap.size + 1) rfl _).trans (Tr.set (O := fun y => y = w.heap.size + 1) rfl _) fun x q => .inl q).trans (Tr.set (O := fun y => y = w.heap.size + 1) rfl _) fun x q => .inl q)⟩
set_option maxRecDepth 100000 in
theorem wsync_is (w : World) (b d : Nat) (O : Nat → Prop) (W : Ws) (S : Ds) (h : WK w b d O W S) (ho : W.op = true) (ha : S.acts < 1000000) (hn : W.uns ≠ 0 → Nam.Nu W.num) :
    Calls Tryz.prog 12 #[.pointer (some ⟨b, 0, none⟩)] w fun e w' => e = .returned (.int .i64 ((syR W S).1 : Int)) ∧ Nw O w b d (syR W S).2.1 (syR W S).2.2 w' := by
  have c3 := h.2.1.cell 3 _ rfl
  rw [ho] at c3
  have HS := hd (asyR_is w b d O W S h (by omega) hn)
  clear h hn
  go_enter Tryz.func12, Tryz.ntmps12
  go_wp2_with fail
  refine Calls.mono HS.out ?_
  rintro e w1 ⟨rfl, hN⟩
  have HN := hd hN
  clear hN
  go_wp2_with fail
  go_ret
  exact ⟨rfl, HN.out⟩
set_option maxRecDepth 100000 in
theorem start_is (w : World) (d : Nat) (lim evy : Nat) (h1 : 64 ≤ lim) (h2 : lim ≤ 1048576) (h3 : evy ≤ 1000) :
    Calls Tryz.prog 25 #[.pointer (some ⟨d, 0, none⟩), .int .i64 (lim : Int), .int .i64 (evy : Int)] w fun e w' => e = .returned (.tuple #[.pointer (some ⟨w.heap.size, 0, none⟩), .int .i64 0]) ∧ Blk w' w.heap.size TW (wcs d ⟨lim, evy, true, 0, 0, 0⟩) ∧ Below w.heap.size w w' := by
  go_enter Tryz.func25, Tryz.ntmps25
  go_wp2_with fail
  go_ret2
  exact ⟨rfl, Blk.new w TW (wcs d ⟨lim, evy, true, 0, 0, 0⟩), (Below.refl _ w).alloc (Nat.le_refl _) _⟩
end Sg
end Go.Proofs.YtolddolfpnkndaaGreat
namespace Go.Proofs.YtolddolfpnkndaaGreat
open Go.RowKit
namespace Sg
open Vt Dk
def files (k : Nat) : List (List Nat) → List Fi
  | [] => []
  | x :: r => ⟨nmS k, x, x.length⟩ :: files (k + 1) r
theorem files_snoc (k : Nat) (a : List (List Nat)) (x : List Nat) : files k (a ++ [x]) = files k a ++ [⟨nmS (k + a.length), x, x.length⟩] := by
  induction a generalizing k with
  | nil => rfl
  | cons y r ih => show _ :: files (k + 1) (r ++ [x]) = _ :: _; rw [ih, List.length_cons, show k + 1 + r.length = k + (r.length + 1) by omega]; rfl
theorem files_nm {k : Nat} {a : List (List Nat)} {f : Fi} (h : f ∈ files k a) : ∃ j, k ≤ j ∧ j < k + a.length ∧ f.nm = nmS j := by
  induction a generalizing k with
  | nil => cases h
  | cons y r ih =>
    rcases List.mem_cons.1 h with rfl | h
    · exact ⟨k, Nat.le_refl _, by simp, rfl⟩
    · obtain ⟨j, h1, h2, h3⟩ := ih h
      exact ⟨j, by omega, by rw [List.length_cons]; omega, h3⟩
theorem files_has {k j : Nat} {a : List (List Nat)} (h1 : k ≤ j) (h2 : j < k + a.length) : ∃ f ∈ files k a, f.nm = nmS j := by
  induction a generalizing k with
  | nil => simp at h2; omega
  | cons y r ih =>
    by_cases e : j = k
    · exact ⟨_, List.mem_cons_self, by rw [e]⟩
    · obtain ⟨f, hf, hn⟩ := ih (k := k + 1) (by omega) (by rw [List.length_cons] at h2; omega)
      exact ⟨f, List.mem_cons_of_mem _ hf, hn⟩
theorem files_len (k : Nat) (a : List (List Nat)) : (files k a).length = a.length := by
  induction a generalizing k with
  | nil => rfl
  | cons y r ih => show (_ :: _).length = _; rw [List.length_cons, ih, List.length_cons]
theorem nmS_bl (n : Nat) : bl (nmS n) = Nam.mk 1 n := by
  unfold nmS; exact bl_str (Nam.mk_byt 1 n)
theorem nmS_isNm (n : Nat) : isNm (nmS n) = true := by
  have h : (nmS n).size = 16 := by unfold nmS; rw [str_size (Nam.mk_byt 1 n), Nam.mk_len]; rfl
  unfold isNm; rw [h]; rfl
theorem nmS_tk {n : Nat} (h : Nam.Nu n) : Nam.tk 1 (bl (nmS n)) = n := by
  rw [nmS_bl]; exact (Nam.tk_mk (.inl rfl) h rfl).1
/-- files 1 to m: the fresh number is m + 1 -/
theorem fr_files (a : List (List Nat)) (ha : a.length + 1 < 4294967296) : fr (files 1 a) = a.length + 1 := by
  refine Nam.FrOk.one (fr_ok _) ⟨by omega, by unfold nms; rw [List.length_map, files_len]; exact Nat.le_refl _, ?_, ?_⟩
  · intro l hl
    obtain ⟨f, hf, rfl⟩ := List.mem_map.1 hl
    obtain ⟨j, h1, h2, h3⟩ := files_nm hf
    rw [h3, nmS_tk ⟨by omega, by omega⟩]; omega
  · intro m m1 m2
    obtain ⟨f, hf, hn⟩ := files_has (a := a) m1 (by omega)
    exact ⟨_, List.mem_map_of_mem hf, by rw [hn, nmS_tk ⟨by omega, by omega⟩]⟩
theorem upd_last {A : List Fi} {x : Fi} (hn : (A ++ [x]).Pairwise fun a b => a.nm ≠ b.nm) (g : Fi → Fi) : upd (A ++ [x]) x.nm g = A ++ [g x] := by
  unfold upd
  rw [List.map_append, List.map_singleton, if_pos rfl]
  congr 1
  conv => rhs; rw [← List.map_id A]
  refine List.map_congr_left fun f hf => ?_
  rw [if_neg ((List.pairwise_append.1 hn).2.2 f hf x (List.mem_singleton.2 rfl))]; rfl
/-- no fault is to come -/
structure Nf (S : Ds) : Prop where
  down : S.down = false
  fail : S.fail = 0
  brk : S.brk = 0
theorem Nf.tick {S : Ds} (h : Nf S) : Nf (tick S) := ⟨h.down, by show S.fail - 1 = 0; rw [h.fail], by show S.brk - 1 = 0; rw [h.brk]⟩
theorem run_nf {S : Ds} (h : Nf S) (g : Ds → Ds) : run S g = (0, g (tick S)) := by
  unfold run; rw [if_neg (by rw [h.brk]; omega), if_neg (by rw [h.fail]; omega)]
theorem act_nf {S : Ds} (h : Nf S) (g : Ds → Ds) : actOf S 0 g = (0, g (tick S)) := by unfold actOf; rw [if_neg (by omega)]; exact run_nf h g
theorem look_nf {S : Ds} (h : Nf S) {s : ByteArray} {f : Fi} (hs : isNm s = true) (hg : get S.fs s = some f) : Dk.look S s true = 0 := by
  unfold Dk.look bar; rw [h.down, hs, hg]; rfl
/-- what a writer with a segment at hand has made of a disk -/
structure Iv (W : Ws) (S : Ds) (old : List (List Nat)) (cur : List Nat) (las : Nat) : Prop where
  num : W.num = old.length + 1
  laid : W.laid = cur.length
  fs : S.fs = files 1 old ++ [⟨nmS (old.length + 1), cur, las⟩]
  uns : W.uns = 0 → las = cur.length
  op : W.op = true
  nf : Nf S
  good : Dk.Good S
structure Iv0 (W : Ws) (S : Ds) : Prop where
  num : W.num = 0
  laid : W.laid = 0
  fs : S.fs = []
  uns : W.uns = 0
  op : W.op = true
  nf : Nf S
  good : Dk.Good S
theorem Iv.get {W : Ws} {S : Ds} {old : List (List Nat)} {cur : List Nat} {las : Nat} (h : Iv W S old cur las) : get S.fs (nmS W.num) = some ⟨nmS (old.length + 1), cur, las⟩ := by
  have := get_of_mem h.good.names (f := ⟨nmS (old.length + 1), cur, las⟩) (by rw [h.fs]; exact List.mem_append_right _ (List.mem_singleton.2 rfl))
  rw [h.num]; exact this
theorem Iv.upd {W : Ws} {S : Ds} {old : List (List Nat)} {cur : List Nat} {las : Nat} (h : Iv W S old cur las) (g : Fi → Fi) : upd S.fs (nmS W.num) g = files 1 old ++ [g ⟨nmS (old.length + 1), cur, las⟩] := by
  have hn := h.good.names
  rw [h.fs] at hn ⊢
  rw [h.num]
  exact upd_last hn g
/-- what stays of a disk's numbers -/
structure St (S S' : Ds) (u k : Nat) : Prop where
  cap : S'.cap = S.cap
  used : S'.used = S.used + u
  acts : S'.acts ≤ S.acts + k
theorem St.trans {a b c : Ds} {u v k l : Nat} (h : St a b u k) (g : St b c v l) : St a c (u + v) (k + l) := ⟨g.cap.trans h.cap, by rw [g.used, h.used]; omega, by have := g.acts; have := h.acts; omega⟩
theorem sync_iv {W : Ws} {S : Ds} {old : List (List Nat)} {cur : List Nat} {las : Nat} (h : Iv W S old cur las) : (sync S (nmS W.num)).1 = 0 ∧ Iv { W with uns := 0 } (sync S (nmS W.num)).2 old cur cur.length ∧ St S (sync S (nmS W.num)).2 0 1 := by
  have hl := look_nf h.nf (nmS_isNm W.num) h.get
  unfold sync
  rw [hl, act_nf h.nf]
  refine ⟨rfl, ⟨h.num, h.laid, ?_, fun _ => rfl, h.op, ⟨h.nf.tick.down, h.nf.tick.fail, h.nf.tick.brk⟩, ?_⟩, ⟨rfl, rfl, Nat.le_refl _⟩⟩
  · show Dk.upd S.fs (nmS W.num) _ = _
    rw [h.upd]
  · have hg := h.good.tick
    exact Good.upd (S := Dk.tick S) hg (s := nmS W.num) (g := fun f => { f with las := f.dat.length }) (u := S.used) (f := ⟨nmS (old.length + 1), cur, las⟩) h.get (fun _ => rfl) (fun _ _ => Nat.le_refl _) rfl hg.room
theorem sy_iv {W : Ws} {S : Ds} {old : List (List Nat)} {cur : List Nat} {las : Nat} (h : Iv W S old cur las) : (syR W S).1 = 0 ∧ (syR W S).2.1 = { W with uns := 0 } ∧ Iv { W with uns := 0 } (syR W S).2.2 old cur cur.length ∧ St S (syR W S).2.2 0 1 := by
  unfold syR
  by_cases h0 : W.uns = 0
  · rw [if_pos h0]
    have e : ({ W with uns := 0 } : Ws) = W := by rw [← h0]
    refine ⟨rfl, e.symm, ?_, ⟨rfl, rfl, Nat.le_succ _⟩⟩
    have := h.uns h0
    rw [e, ← this]; exact h
  · rw [if_neg h0]
    obtain ⟨h1, h2, h3⟩ := sync_iv h
    simp only [h1, if_true]
    exact ⟨trivial, trivial, h2, h3⟩
theorem create_nf {S : Ds} (h : Nf S) (hg : Dk.Good S) {a : List (List Nat)} (hfs : S.fs = files 1 a) (ha : a.length + 1 < 4294967296) : (create S (nmS (fr S.fs))).1 = 0 ∧ fr S.fs = a.length + 1 ∧ (create S (nmS (fr S.fs))).2.fs = files 1 a ++ [⟨nmS (a.length + 1), [], 0⟩] ∧ Nf (create S (nmS (fr S.fs))).2 ∧ Dk.Good (create S (nmS (fr S.fs))).2 ∧ St S (create S (nmS (fr S.fs))).2 0 1 := by
  have hf : fr S.fs = a.length + 1 := by rw [hfs]; exact fr_files a ha
  have hn : Dk.get S.fs (nmS (fr S.fs)) = none := by
    rw [get_none]
    intro f hm e
    rw [hfs] at hm
    obtain ⟨j, h1, h2, h3⟩ := files_nm hm
    have := congrArg (fun s => Nam.tk 1 (bl s)) (h3.symm.trans e)
    rw [hf] at this
    change Nam.tk 1 (bl (nmS j)) = Nam.tk 1 (bl (nmS (a.length + 1))) at this
    rw [nmS_tk ⟨by omega, by omega⟩, nmS_tk ⟨by omega, by omega⟩] at this
    omega
  have hr : rCreate S (nmS (fr S.fs)) = 0 := by
    unfold rCreate bar; rw [h.down, nmS_isNm, hn]; rfl
  unfold create
  rw [hr, act_nf h]
  refine ⟨rfl, hf, ?_, ⟨h.tick.down, h.tick.fail, h.tick.brk⟩, ?_, ⟨rfl, rfl, Nat.le_refl _⟩⟩
  · show S.fs ++ [_] = _
    rw [hf, hfs]
  · exact Good.create hg.tick (nmS_isNm _) hn (by have := hg.cnt; show S.fs.length + 1 ≤ S.acts + 1 + 200; omega)
theorem bg_iv {W : Ws} {S : Ds} {old : List (List Nat)} {cur : List Nat} {las : Nat} (h : Iv W S old cur las) (hl : old.length + 2 < 4294967296) : (bgR W S).1 = 0 ∧ (bgR W S).2.1 = { W with uns := 0, num := old.length + 2, laid := 0 } ∧ Iv { W with uns := 0, num := old.length + 2, laid := 0 } (bgR W S).2.2 (old ++ [cur]) [] 0 ∧ St S (bgR W S).2.2 0 2 := by
  obtain ⟨h1, h2, h3, h4⟩ := sy_iv h
  have hfs : (syR W S).2.2.fs = files 1 (old ++ [cur]) := by rw [h3.fs, files_snoc, Nat.add_comm 1]
  have hla : (old ++ [cur]).length = old.length + 1 := by simp
  obtain ⟨c1, c2, c3, c4, c5, c6⟩ := create_nf h3.nf h3.good hfs (by rw [hla]; omega)
  unfold bgR
  rw [if_neg (by rw [h1]; omega)]
  simp only [c1, if_true, h2]
  rw [hla] at c2 c3
  refine ⟨trivial, by rw [c2], ⟨by rw [hla], rfl, ?_, fun _ => rfl, h.op, c4, c5⟩, h4.trans c6⟩
  rw [c3, hla]
theorem bg_iv0 {W : Ws} {S : Ds} (h : Iv0 W S) : (bgR W S).1 = 0 ∧ (bgR W S).2.1 = { W with num := 1, laid := 0 } ∧ Iv { W with num := 1, laid := 0 } (bgR W S).2.2 [] [] 0 ∧ St S (bgR W S).2.2 0 2 := by
  have h1 : syR W S = (0, W, S) := by unfold syR; rw [if_pos h.uns]
  obtain ⟨c1, c2, c3, c4, c5, c6⟩ := create_nf (a := []) h.nf h.good h.fs (by simp)
  unfold bgR
  rw [h1, if_neg (by simp)]
  simp only [c1, if_true]
  refine ⟨trivial, by rw [c2]; rfl, ⟨rfl, rfl, ?_, fun _ => rfl, h.op, c4, c5⟩, ⟨c6.cap, c6.used, Nat.le_succ_of_le c6.acts⟩⟩
  rw [c3]
theorem append_iv {W : Ws} {S : Ds} {old : List (List Nat)} {cur : List Nat} {las : Nat} (h : Iv W S old cur las) (l : List Nat) (hroom : S.used + l.length ≤ S.cap) (k : Nat) : (append S (nmS W.num) l).1 = 0 ∧ Iv { W with laid := W.laid + l.length, uns := k + 1 } (append S (nmS W.num) l).2 old (cur ++ l) las ∧ St S (append S (nmS W.num) l).2 l.length 1 := by
  have hl := look_nf h.nf (nmS_isNm W.num) h.get
  have hr : rAppend S (nmS W.num) l = 0 := by
    unfold rAppend; rw [hl]; simp only [ne_eq, not_true_eq_false, if_false]
    rw [if_neg (by omega)]
  unfold append
  rw [hr, act_nf h.nf]
  refine ⟨rfl, ⟨h.num, by show W.laid + l.length = _; rw [h.laid, List.length_append], ?_, fun q => (by cases q), h.op, ⟨h.nf.tick.down, h.nf.tick.fail, h.nf.tick.brk⟩, ?_⟩, ⟨rfl, rfl, Nat.le_refl _⟩⟩
  · show Dk.upd S.fs (nmS W.num) _ = _
    rw [h.upd]
  · have hg := h.good.tick
    exact Good.upd (S := Dk.tick S) hg (s := nmS W.num) (g := fun f => { f with dat := f.dat ++ l }) (u := S.used + l.length) (f := ⟨nmS (old.length + 1), cur, las⟩) h.get (fun _ => rfl) (fun f hf => by show f.las ≤ (f.dat ++ l).length; rw [List.length_append]; omega) (by show S.used + l.length + cur.length = S.used + (cur ++ l).length; rw [List.length_append]; omega) hroom
theorem ly_iv {W : Ws} {S : Ds} {old : List (List Nat)} {cur : List Nat} {las : Nat} (h : Iv W S old cur las) (l : List Nat) (hroom : S.used + l.length ≤ S.cap) : (ly W S l).1 = 0 ∧ ∃ las' uns', (ly W S l).2.1 = { W with laid := W.laid + l.length, uns := uns' } ∧ Iv { W with laid := W.laid + l.length, uns := uns' } (ly W S l).2.2 old (cur ++ l) las' ∧ St S (ly W S l).2.2 l.length 2 ∧ ((las' = las ∧ uns' = W.uns + 1 ∧ (W.evy = 0 ∨ W.uns + 1 < W.evy)) ∨ (las' = (cur ++ l).length ∧ uns' = 0 ∧ ¬ (W.evy = 0 ∨ W.uns + 1 < W.evy))) := by
  obtain ⟨a1, a2, a3⟩ := append_iv h l hroom W.uns
  unfold ly
  rw [if_neg (by rw [a1]; omega)]
  by_cases he : W.evy = 0 ∨ W.uns + 1 < W.evy
  · rw [if_pos he]
    exact ⟨rfl, las, W.uns + 1, rfl, a2, ⟨a3.cap, a3.used, Nat.le_succ_of_le a3.acts⟩, .inl ⟨rfl, rfl, he⟩⟩
  · rw [if_neg he]
    obtain ⟨s1, s2, s3, s4⟩ := sy_iv a2
    exact ⟨s1, _, 0, s2, s3, a3.trans s4, .inr ⟨rfl, rfl, he⟩⟩
/-- what a Put makes of it: of what was at hand, or of a new one -/
structure Pu (W W' : Ws) (S S' : Ds) (old' : List (List Nat)) (cur0 l : List Nat) (las0 uns0 las' : Nat) : Prop where
  iv : Iv W' S' old' (cur0 ++ l) las'
  lim : W'.lim = W.lim
  evy : W'.evy = W.evy
  st : St S S' l.length 4
  las : (las' = las0 ∧ W'.uns = uns0 + 1 ∧ (W.evy = 0 ∨ uns0 + 1 < W.evy)) ∨ (las' = (cur0 ++ l).length ∧ W'.uns = 0)
theorem pt_new {W W1 : Ws} {S S1 : Ds} {old' : List (List Nat)} {l cur0 : List Nat} {las0 : Nat} (hp : pre W S l.length = (0, W1, S1)) (h : Iv W1 S1 old' cur0 las0) (hlim : W1.lim = W.lim) (hevy : W1.evy = W.evy) (hs : St S S1 0 2) (hroom : S.used + l.length ≤ S.cap) :
    (pt W S l).1 = 0 ∧ (pre W S l.length).2.1.num = old'.length + 1 ∧ (pre W S l.length).2.1.laid = cur0.length ∧ ∃ las', Pu W (pt W S l).2.1 S (pt W S l).2.2 old' cur0 l las0 W1.uns las' := by
  obtain ⟨h1, las', uns', h2, h3, h4, h5⟩ := ly_iv h l (by rw [hs.cap, hs.used]; exact hroom)
  unfold pt
  rw [hp]
  simp only [ne_eq, not_true_eq_false, if_false]
  refine ⟨h1, h.num, h.laid, las', ?_⟩
  rw [h2]
  have h6 := hs.trans h4
  rw [Nat.zero_add] at h6
  refine ⟨h3, hlim, hevy, h6, ?_⟩
  rcases h5 with ⟨a, b, c⟩ | ⟨a, b, c⟩
  · exact .inl ⟨a, b, by rw [← hevy]; exact c⟩
  · exact .inr ⟨a, b⟩
theorem pt_iv {W : Ws} {S : Ds} {old : List (List Nat)} {cur : List Nat} {las : Nat} (h : Iv W S old cur las) (l : List Nat) (hroom : S.used + l.length ≤ S.cap) (hl : old.length + 2 < 4294967296) :
    (pt W S l).1 = 0 ∧ ∃ las', (fit W l.length = true ∧ (pre W S l.length).2.1.num = old.length + 1 ∧ (pre W S l.length).2.1.laid = cur.length ∧ Pu W (pt W S l).2.1 S (pt W S l).2.2 old cur l las W.uns las') ∨ (fit W l.length = false ∧ (pre W S l.length).2.1.num = old.length + 2 ∧ (pre W S l.length).2.1.laid = 0 ∧ Pu W (pt W S l).2.1 S (pt W S l).2.2 (old ++ [cur]) [] l 0 0 las') := by
  by_cases hf : fit W l.length = true
  · obtain ⟨h1, h2, h3, las', h4⟩ := pt_new (l := l) (W1 := W) (S1 := S) (by unfold pre; rw [if_pos hf]) h rfl rfl ⟨rfl, rfl, Nat.le_add_right _ _⟩ hroom
    exact ⟨h1, las', .inl ⟨hf, h2, h3, h4⟩⟩
  · obtain ⟨b1, b2, b3, b4⟩ := bg_iv h hl
    have hp : pre W S l.length = (0, { W with uns := 0, num := old.length + 2, laid := 0 }, (bgR W S).2.2) := by
      unfold pre; rw [if_neg hf]
      rw [← b2, ← b1]
    obtain ⟨h1, h2, h3, las', h4⟩ := pt_new hp b3 rfl rfl b4 hroom
    refine ⟨h1, las', .inr ⟨by simpa using hf, ?_, h3, h4⟩⟩
    rw [h2]; simp
theorem pt_iv0 {W : Ws} {S : Ds} (h : Iv0 W S) (l : List Nat) (hroom : S.used + l.length ≤ S.cap) :
    (pt W S l).1 = 0 ∧ (pre W S l.length).2.1.num = 1 ∧ (pre W S l.length).2.1.laid = 0 ∧ ∃ las', Pu W (pt W S l).2.1 S (pt W S l).2.2 [] [] l 0 0 las' := by
  obtain ⟨b1, b2, b3, b4⟩ := bg_iv0 h
  have hf : ¬ fit W l.length = true := by unfold fit; rw [h.num]; simp
  have hp : pre W S l.length = (0, { W with num := 1, laid := 0 }, (bgR W S).2.2) := by
    unfold pre; rw [if_neg hf]
    rw [← b2, ← b1]
  obtain ⟨h1, h2, h3, las', h4⟩ := pt_new hp b3 rfl rfl b4 hroom
  have hu : W.uns = 0 := h.uns
  rw [show ({ W with num := 1, laid := 0 } : Ws).uns = 0 from hu] at h4
  exact ⟨h1, h2, h3, las', h4⟩
end Sg
end Go.Proofs.YtolddolfpnkndaaGreat
