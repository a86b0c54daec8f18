/-
  THE WALK OF segment.Read, once more: the disk behind it.
-/
import Derived.Test.YtolddolfpnkndaaGreatXsbn
namespace Go.Proofs.YtolddolfpnkndaaGreat
open Go.RowKit Go.Maps Go.Sort
namespace Sg
open Vt Dk
set_option maxRecDepth 100000 in
set_option maxHeartbeats 2000000 in
theorem read_nx (w : World) (d : Nat) (O : Nat → Prop) (S : Ds) (sg : Nat) (at_ ln : Int) (hsg : Nam.Nu sg) (hat : 0 ≤ at_) (hln : 1 ≤ ln) (h : DK w d O S) (ha : S.acts < 1000000) (hr : (Dk.read S (nmS sg) at_ ln).1 = 0) :
    Calls Tryz.prog 16 #[.pointer (some ⟨d, 0, none⟩), .agg #[.int .u32 (sg : Int), .int .i64 at_, .int .i64 ln]] w fun e w' => e = .returned (rdT (rdX S sg at_ ln).1 (rdX S sg at_ ln).2) ∧ DK w' d O (Dk.read S (nmS sg) at_ ln).2 ∧ Tr O w w' := by
  have z0 : ¬ ((sg : Int) = 0) := by have := hsg.1; omega
  have z1 : ¬ at_ < 0 := by omega
  have z2 : ¬ ln < 1 := by omega
  have hmx : Tryz.prog.follows .mixedOrders = true := by kernel_rfl
  obtain ⟨W0, hW0⟩ : ∃ W0, W0 = (w.alloc (.cells #[.int .u32 (sg : Int), .int .i64 at_, .int .i64 ln] TPl)).alloc (.cells #[.int .u64 0, .int .i64 0, .string ⟨#[]⟩, .string ⟨#[]⟩] 38) := ⟨_, rfl⟩
  have hB0 : Below w.heap.size w W0 := by rw [hW0]; exact below_two w _ _
  have hs0 : W0.heap.size = w.heap.size + 2 := by rw [hW0, alloc_size, alloc_size]
  have hpb : Blk W0 w.heap.size TPl [.int .u32 (sg : Int), .int .i64 at_, .int .i64 ln] := by rw [hW0]; exact (Blk.new w _ [.int .u32 (sg : Int), .int .i64 at_, .int .i64 ln]).alloc _
  have hrb : Blk W0 (w.heap.size + 1) 38 [.int .u64 0, .int .i64 0, .string ⟨#[]⟩, .string ⟨#[]⟩] := by
    rw [hW0]
    have := Blk.new (w.alloc (.cells #[.int .u32 (sg : Int), .int .i64 at_, .int .i64 ln] TPl)) 38 [.int .u64 0, .int .i64 0, .string ⟨#[]⟩, .string ⟨#[]⟩]
    rwa [alloc_size] at this
  have hK0 : DK W0 d O S := h.aside (Tr.ofB hB0 (fun _ => False)) (fun _ _ q => q)
  have hOlt : ∀ x, O x → x < w.heap.size := h.olt
  obtain ⟨S1, hS1⟩ : ∃ S1, S1 = (Dk.read S (nmS sg) at_ ln).2 := ⟨_, rfl⟩
  rw [← hS1]
  obtain ⟨bs, hbs⟩ : ∃ bs, bs = Dk.bytes S (nmS sg) at_ ln := ⟨_, rfl⟩
  have HRD : Hid (∀ q, Below W0.heap.size W0 q → Calls Tryz.prog 37 #[.pointer (some ⟨d, 0, none⟩), .string (nmS sg), .int .i64 at_, .int .i64 ln] q fun e w' => ∃ x, e = .returned (.tuple #[x, .int .i64 0]) ∧ (JB w' 0 x bs ∧ Tr O W0 w' ∧ DK w' d O S1)) := by
    intro q hq
    refine (read_is q d O S (nmS sg) at_ ln (hK0.aside (Tr.ofB hq (fun _ => False)) (fun _ _ q => q)) (by omega)).mono ?_
    rintro e w' ⟨x, rfl, hdk, h2, h3, _⟩
    rw [← hS1] at hdk
    rw [hr] at h3 ⊢
    exact ⟨x, rfl, by rw [hbs]; exact h3 rfl, (Tr.ofB hq _).trans h2 (fun x q => .inl q), hdk⟩
  have HC : Hid (∀ q, Tr O W0 q → Blk q w.heap.size TPl [.int .u32 (sg : Int), .int .i64 at_, .int .i64 ln] ∧ Blk q (w.heap.size + 1) 38 [.int .u64 0, .int .i64 0, .string ⟨#[]⟩, .string ⟨#[]⟩] ∧ Tr O w q) := by
    intro q hq
    exact ⟨(hq.block _ (by omega) (fun e => by have := hOlt _ e; omega)).trans hpb, (hq.block _ (by omega) (fun e => by have := hOlt _ e; omega)).trans hrb, (Tr.ofB hB0 _).trans hq fun x q => .inl q⟩
  have HOL := hd hOlt
  have HN := hd hsg
  have HW0 := hd hW0
  have HX : Hid (rdX S sg at_ ln = if (decF bs 0).2.2 ≠ 0 ∨ (((decF bs 0).2.1 : Nat) : Int) ≠ ln ∨ ((decF bs 0).1.kind ≠ 1 ∧ (decF bs 0).1.kind ≠ 2) then (zr, 91) else ((decF bs 0).1.r, 0)) := by rw [hbs]; rfl
  generalize rdX S sg at_ ln = rx at *
  clear h hK0 hpb hrb hB0 hs0 hOlt hbs hr hW0 hsg hat hln ha hS1
  go_enter Tryz.func16, Tryz.ntmps16
  go_wp2_with fail
  rw [← HW0.out]
  --REGION r
  refine region_pivot (fun v9 i => match i with
    | 0 => Value.pointer (some { block := d, off := 0 })
    | 1 => .pointer (some ⟨w.heap.size, 0, none⟩)
    | 2 => .int .u32 (sg : Int)
    | 3 => .string (nmS sg)
    | 4 => .pointer (some ⟨w.heap.size, 1, none⟩)
    | 5 => .int .i64 at_
    | 6 => .pointer (some ⟨w.heap.size, 2, none⟩)
    | 7 => .int .i64 ln
    | 8 => v9
    | 9 => v9
    | 10 => tupAt v9 0
    | 11 => tupAt v9 1
    | 12 => tupAt v9 0
    | 13 => tupAt v9 1
    | _ => undef) 8 (fun q => Below W0.heap.size W0 q) (fun v9 w9 => ∃ x, v9 = .tuple #[x, .int .i64 0] ∧ (JB w9 0 x bs ∧ Tr O W0 w9 ∧ DK w9 d O S1)) hmx (by kernel_rfl) (by kernel_rfl) (by kernel_rfl) (by kernel_rfl) (by decide) (fun _ => rfl) ?_ ⟨rfl, rfl, rfl, Nat.le_refl _, fun _ _ => rfl⟩ ?_ ?_ ?_ ?_
  · intro v9 i hi h
    match i, hi, h with
    | 0, _, h => exact rfl
    | 1, _, h => exact rfl
    | 2, _, h => exact rfl
    | 3, _, h => exact rfl
    | 4, _, h => exact rfl
    | 5, _, h => exact rfl
    | 6, _, h => exact rfl
    | 7, _, h => exact rfl
    | 8, _, h => exact Bool.noConfusion (h.symm.trans (show _ = false by kernel_rfl))
    | 9, _, h => exact Bool.noConfusion (h.symm.trans (show _ = false by kernel_rfl))
    | 10, _, h => exact Bool.noConfusion (h.symm.trans (show _ = false by kernel_rfl))
    | 11, _, h => exact Bool.noConfusion (h.symm.trans (show _ = false by kernel_rfl))
    | 12, _, h => exact Bool.noConfusion (h.symm.trans (show _ = false by kernel_rfl))
    | 13, _, h => exact Bool.noConfusion (h.symm.trans (show _ = false by kernel_rfl))
    | k + 14, hi, _ => exact absurd hi (by simp)
  · intro i o ho h a w9 hW9 hout haf
    have ee0 := getq (show a.tmps.getD 0 undef = Value.pointer (some { block := d, off := 0 }) from hout 0 (notDst_spec (by kernel_rfl)))
    have ee3 := getq (show a.tmps.getD 3 undef = Value.pointer (some { block := w.heap.size, off := 0 }) from hout 3 (notDst_spec (by kernel_rfl)))
    clear hout
    match i, ho, h, haf with
    | 0, ho, _, haf =>
      obtain rfl := Option.some.inj ho
      refine step_q (w' := w9) hW9 fun K hK => ?_
      simp only [List.getElem_toArray, List.getElem_cons_zero] at hK ⊢
      clear haf ho
      go_simp
      exact hK
    | 1, ho, _, haf =>
      obtain rfl := Option.some.inj ho
      refine step_q (w' := w9) hW9 fun K hK => ?_
      simp only [List.getElem_toArray, List.getElem_cons_succ, List.getElem_cons_zero] at hK ⊢
      clear haf ho
      go_simp
      exact hK
    | 2, ho, _, haf =>
      obtain rfl := Option.some.inj ho
      have f1 := getq (show a.tmps.getD 26 undef = .pointer (some ⟨w.heap.size, 0, none⟩) from haf ⟨1, .data⟩ (by simp) rfl 26 rfl)
      refine step_q (w' := w9) hW9 fun K hK => ?_
      simp only [List.getElem_toArray, List.getElem_cons_succ, List.getElem_cons_zero] at hK ⊢
      clear haf ho
      have hc := (HC.out w9 (Tr.ofB hW9 O)).1.cell 0 _ rfl
      go_simp
      exact hK
    | 3, ho, _, haf =>
      obtain rfl := Option.some.inj ho
      have f2 := getq (show a.tmps.getD 27 undef = .int .u32 (sg : Int) from haf ⟨2, .data⟩ (by simp) rfl 27 rfl)
      clear haf ho
      simp only [List.getElem_toArray, List.getElem_cons_succ, List.getElem_cons_zero]
      go_simp
      refine Calls.mono (nameOf_is sg HN.out w9) ?_
      rintro e8 w8 ⟨rfl, hb8⟩
      exact ⟨rfl, hW9.trans (hb8.mono hW9.size)⟩
    | 4, ho, _, haf =>
      obtain rfl := Option.some.inj ho
      refine step_q (w' := w9) hW9 fun K hK => ?_
      simp only [List.getElem_toArray, List.getElem_cons_succ, List.getElem_cons_zero] at hK ⊢
      clear haf ho
      go_simp
      exact hK
    | 5, ho, _, haf =>
      obtain rfl := Option.some.inj ho
      have f4 := getq (show a.tmps.getD 29 undef = .pointer (some ⟨w.heap.size, 1, none⟩) from haf ⟨4, .data⟩ (by simp) rfl 29 rfl)
      refine step_q (w' := w9) hW9 fun K hK => ?_
      simp only [List.getElem_toArray, List.getElem_cons_succ, List.getElem_cons_zero] at hK ⊢
      clear haf ho
      have hc := (HC.out w9 (Tr.ofB hW9 O)).1.cell 1 _ rfl
      go_simp
      exact hK
    | 6, ho, _, haf =>
      obtain rfl := Option.some.inj ho
      refine step_q (w' := w9) hW9 fun K hK => ?_
      simp only [List.getElem_toArray, List.getElem_cons_succ, List.getElem_cons_zero] at hK ⊢
      clear haf ho
      go_simp
      exact hK
    | 7, ho, _, haf =>
      obtain rfl := Option.some.inj ho
      have f6 := getq (show a.tmps.getD 31 undef = .pointer (some ⟨w.heap.size, 2, none⟩) from haf ⟨6, .data⟩ (by simp) rfl 31 rfl)
      refine step_q (w' := w9) hW9 fun K hK => ?_
      simp only [List.getElem_toArray, List.getElem_cons_succ, List.getElem_cons_zero] at hK ⊢
      clear haf ho
      have hc := (HC.out w9 (Tr.ofB hW9 O)).1.cell 2 _ rfl
      go_simp
      exact hK
    | 8, _, h, _ => exact Bool.noConfusion (h.symm.trans (show _ = false by kernel_rfl))
    | 9, _, h, _ => exact Bool.noConfusion (h.symm.trans (show _ = false by kernel_rfl))
    | 10, _, h, _ => exact Bool.noConfusion (h.symm.trans (show _ = false by kernel_rfl))
    | 11, _, h, _ => exact Bool.noConfusion (h.symm.trans (show _ = false by kernel_rfl))
    | 12, _, h, _ => exact Bool.noConfusion (h.symm.trans (show _ = false by kernel_rfl))
    | 13, _, h, _ => exact Bool.noConfusion (h.symm.trans (show _ = false by kernel_rfl))
    | n + 14, ho, _, _ => simp at ho
  · intro o ho a w9 hW9 hout haf
    have ee0 := getq (show a.tmps.getD 0 undef = Value.pointer (some { block := d, off := 0 }) from hout 0 (notDst_spec (by kernel_rfl)))
    have ee3 := getq (show a.tmps.getD 3 undef = Value.pointer (some { block := w.heap.size, off := 0 }) from hout 3 (notDst_spec (by kernel_rfl)))
    obtain rfl := Option.some.inj ho
    have f0 := getq (show a.tmps.getD 25 undef = Value.pointer (some { block := d, off := 0 }) from haf ⟨0, .data⟩ (by simp) rfl 25 rfl)
    have f3 := getq (show a.tmps.getD 28 undef = .string (nmS sg) from haf ⟨3, .data⟩ (by simp) rfl 28 rfl)
    have f5 := getq (show a.tmps.getD 30 undef = .int .i64 at_ from haf ⟨5, .data⟩ (by simp) rfl 30 rfl)
    have f7 := getq (show a.tmps.getD 32 undef = .int .i64 ln from haf ⟨7, .data⟩ (by simp) rfl 32 rfl)
    clear haf ho hout
    simp only [List.getElem_toArray, List.getElem_cons_succ, List.getElem_cons_zero]
    go_simp
    refine Calls.mono (HRD.out w9 hW9) ?_
    rintro e8 w8 ⟨x8, rfl, h8⟩
    exact ⟨_, rfl, x8, rfl, h8⟩
  · intro i o ho hne h v9 a w9 hR9 hout haf
    have ee0 := getq (show a.tmps.getD 0 undef = Value.pointer (some { block := d, off := 0 }) from hout 0 (notDst_spec (by kernel_rfl)))
    have ee3 := getq (show a.tmps.getD 3 undef = Value.pointer (some { block := w.heap.size, off := 0 }) from hout 3 (notDst_spec (by kernel_rfl)))
    clear hout
    obtain ⟨x9, hv9, hRR⟩ := hR9
    match i, ho, hne, h, haf with
    | 0, _, _, h, _ => exact Bool.noConfusion (h.symm.trans (show _ = true by kernel_rfl))
    | 1, _, _, h, _ => exact Bool.noConfusion (h.symm.trans (show _ = true by kernel_rfl))
    | 2, _, _, h, _ => exact Bool.noConfusion (h.symm.trans (show _ = true by kernel_rfl))
    | 3, _, _, h, _ => exact Bool.noConfusion (h.symm.trans (show _ = true by kernel_rfl))
    | 4, _, _, h, _ => exact Bool.noConfusion (h.symm.trans (show _ = true by kernel_rfl))
    | 5, _, _, h, _ => exact Bool.noConfusion (h.symm.trans (show _ = true by kernel_rfl))
    | 6, _, _, h, _ => exact Bool.noConfusion (h.symm.trans (show _ = true by kernel_rfl))
    | 7, _, _, h, _ => exact Bool.noConfusion (h.symm.trans (show _ = true by kernel_rfl))
    | 8, _, hne, _, _ => exact absurd rfl hne
    | 9, ho, _, _, haf =>
      obtain rfl := Option.some.inj ho
      have f8 := getq (show a.tmps.getD 33 undef = v9 from haf ⟨8, .data⟩ (by simp) rfl 33 rfl)
      refine step_c (w' := w9) rfl fun K hK => ?_
      simp only [List.getElem_toArray, List.getElem_cons_succ, List.getElem_cons_zero] at hK ⊢
      clear haf ho
      subst hv9
      go_simp
      exact hK
    | 10, ho, _, _, haf =>
      obtain rfl := Option.some.inj ho
      have f9 := getq (show a.tmps.getD 24 undef = v9 from haf ⟨9, .data⟩ (by simp) rfl 24 rfl)
      refine step_c (w' := w9) rfl fun K hK => ?_
      simp only [List.getElem_toArray, List.getElem_cons_succ, List.getElem_cons_zero] at hK ⊢
      clear haf ho
      subst hv9
      go_simp
      exact hK
    | 11, ho, _, _, haf =>
      obtain rfl := Option.some.inj ho
      have f9 := getq (show a.tmps.getD 24 undef = v9 from haf ⟨9, .data⟩ (by simp) rfl 24 rfl)
      refine step_c (w' := w9) rfl fun K hK => ?_
      simp only [List.getElem_toArray, List.getElem_cons_succ, List.getElem_cons_zero] at hK ⊢
      clear haf ho
      subst hv9
      go_simp
      exact hK
    | 12, ho, _, _, haf =>
      obtain rfl := Option.some.inj ho
      have f10 := getq (show a.tmps.getD 34 undef = tupAt v9 0 from haf ⟨10, .data⟩ (by simp) rfl 34 rfl)
      refine step_c (w' := w9) rfl fun K hK => ?_
      simp only [List.getElem_toArray, List.getElem_cons_succ, List.getElem_cons_zero] at hK ⊢
      clear haf ho
      subst hv9
      go_simp
      exact hK
    | 13, ho, _, _, haf =>
      obtain rfl := Option.some.inj ho
      have f11 := getq (show a.tmps.getD 35 undef = tupAt v9 1 from haf ⟨11, .data⟩ (by simp) rfl 35 rfl)
      refine step_c (w' := w9) rfl fun K hK => ?_
      simp only [List.getElem_toArray, List.getElem_cons_succ, List.getElem_cons_zero] at hK ⊢
      clear haf ho
      subst hv9
      go_simp
      exact hK
    | n + 14, ho, _, _, _ => simp at ho
  · intro v9 aa w9 hR9 hdf hsz hout hval
    have hat : aa.tmps = #[Value.pointer (some { block := d, off := 0 }), Value.agg #[Value.int IntKind.u32 (sg : Int), Value.int IntKind.i64 at_, Value.int IntKind.i64 ln], undef, Value.pointer (some { block := w.heap.size, off := 0 }), Value.pointer (some { block := w.heap.size + 1, off := 0 }), Value.int IntKind.i64 0, tupAt v9 0, tupAt v9 1, undef, undef, Value.pointer (some { block := w.heap.size, off := 0 }), Value.int IntKind.u32 (sg : Int), Value.bool false, Value.bool false, Value.pointer (some { block := w.heap.size, off := 1 }), Value.int IntKind.i64 at_, Value.bool false, Value.bool false, Value.bool false, Value.pointer (some { block := w.heap.size, off := 2 }), Value.int IntKind.i64 ln, Value.bool false, Value.bool false, undef, v9, Value.pointer (some { block := d, off := 0 }), .pointer (some ⟨w.heap.size, 0, none⟩), .int .u32 (sg : Int), .string (nmS sg), .pointer (some ⟨w.heap.size, 1, none⟩), .int .i64 at_, .pointer (some ⟨w.heap.size, 2, none⟩), .int .i64 ln, v9, tupAt v9 0, tupAt v9 1, undef, undef, undef, undef, undef, undef, undef, undef, undef, undef, undef, undef, undef, undef, undef, undef, undef, undef, undef, undef, undef, undef, undef, undef, undef, undef, undef, undef, undef, undef, undef] := by
      refine arr_one (hsz.trans rfl) fun kk hkk => ?_
      match kk, hkk with
      | 0, _ => exact hout 0 (notDst_spec (by kernel_rfl))
      | 1, _ => exact hout 1 (notDst_spec (by kernel_rfl))
      | 2, _ => exact hout 2 (notDst_spec (by kernel_rfl))
      | 3, _ => exact hout 3 (notDst_spec (by kernel_rfl))
      | 4, _ => exact hout 4 (notDst_spec (by kernel_rfl))
      | 5, _ => exact hout 5 (notDst_spec (by kernel_rfl))
      | 6, _ => exact hval 12 6 (by decide) rfl
      | 7, _ => exact hval 13 7 (by decide) rfl
      | 8, _ => exact hout 8 (notDst_spec (by kernel_rfl))
      | 9, _ => exact hout 9 (notDst_spec (by kernel_rfl))
      | 10, _ => exact hout 10 (notDst_spec (by kernel_rfl))
      | 11, _ => exact hout 11 (notDst_spec (by kernel_rfl))
      | 12, _ => exact hout 12 (notDst_spec (by kernel_rfl))
      | 13, _ => exact hout 13 (notDst_spec (by kernel_rfl))
      | 14, _ => exact hout 14 (notDst_spec (by kernel_rfl))
      | 15, _ => exact hout 15 (notDst_spec (by kernel_rfl))
      | 16, _ => exact hout 16 (notDst_spec (by kernel_rfl))
      | 17, _ => exact hout 17 (notDst_spec (by kernel_rfl))
      | 18, _ => exact hout 18 (notDst_spec (by kernel_rfl))
      | 19, _ => exact hout 19 (notDst_spec (by kernel_rfl))
      | 20, _ => exact hout 20 (notDst_spec (by kernel_rfl))
      | 21, _ => exact hout 21 (notDst_spec (by kernel_rfl))
      | 22, _ => exact hout 22 (notDst_spec (by kernel_rfl))
      | 23, _ => exact hout 23 (notDst_spec (by kernel_rfl))
      | 24, _ => exact hval 9 24 (by decide) rfl
      | 25, _ => exact hval 0 25 (by decide) rfl
      | 26, _ => exact hval 1 26 (by decide) rfl
      | 27, _ => exact hval 2 27 (by decide) rfl
      | 28, _ => exact hval 3 28 (by decide) rfl
      | 29, _ => exact hval 4 29 (by decide) rfl
      | 30, _ => exact hval 5 30 (by decide) rfl
      | 31, _ => exact hval 6 31 (by decide) rfl
      | 32, _ => exact hval 7 32 (by decide) rfl
      | 33, _ => exact hval 8 33 (by decide) rfl
      | 34, _ => exact hval 10 34 (by decide) rfl
      | 35, _ => exact hval 11 35 (by decide) rfl
      | 36, _ => exact hout 36 (notDst_spec (by kernel_rfl))
      | 37, _ => exact hout 37 (notDst_spec (by kernel_rfl))
      | 38, _ => exact hout 38 (notDst_spec (by kernel_rfl))
      | 39, _ => exact hout 39 (notDst_spec (by kernel_rfl))
      | 40, _ => exact hout 40 (notDst_spec (by kernel_rfl))
      | 41, _ => exact hout 41 (notDst_spec (by kernel_rfl))
      | 42, _ => exact hout 42 (notDst_spec (by kernel_rfl))
      | 43, _ => exact hout 43 (notDst_spec (by kernel_rfl))
      | 44, _ => exact hout 44 (notDst_spec (by kernel_rfl))
      | 45, _ => exact hout 45 (notDst_spec (by kernel_rfl))
      | 46, _ => exact hout 46 (notDst_spec (by kernel_rfl))
      | 47, _ => exact hout 47 (notDst_spec (by kernel_rfl))
      | 48, _ => exact hout 48 (notDst_spec (by kernel_rfl))
      | 49, _ => exact hout 49 (notDst_spec (by kernel_rfl))
      | 50, _ => exact hout 50 (notDst_spec (by kernel_rfl))
      | 51, _ => exact hout 51 (notDst_spec (by kernel_rfl))
      | 52, _ => exact hout 52 (notDst_spec (by kernel_rfl))
      | 53, _ => exact hout 53 (notDst_spec (by kernel_rfl))
      | 54, _ => exact hout 54 (notDst_spec (by kernel_rfl))
      | 55, _ => exact hout 55 (notDst_spec (by kernel_rfl))
      | 56, _ => exact hout 56 (notDst_spec (by kernel_rfl))
      | 57, _ => exact hout 57 (notDst_spec (by kernel_rfl))
      | 58, _ => exact hout 58 (notDst_spec (by kernel_rfl))
      | 59, _ => exact hout 59 (notDst_spec (by kernel_rfl))
      | 60, _ => exact hout 60 (notDst_spec (by kernel_rfl))
      | 61, _ => exact hout 61 (notDst_spec (by kernel_rfl))
      | 62, _ => exact hout 62 (notDst_spec (by kernel_rfl))
      | 63, _ => exact hout 63 (notDst_spec (by kernel_rfl))
      | 64, _ => exact hout 64 (notDst_spec (by kernel_rfl))
      | 65, _ => exact hout 65 (notDst_spec (by kernel_rfl))
      | 66, _ => exact hout 66 (notDst_spec (by kernel_rfl))
      | n + 67, h => exact absurd h (by simp)
    obtain ⟨tt, dd⟩ := aa
    simp only at hat hdf
    subst hat hdf
    clear hsz hout hval
    obtain ⟨x9, rfl, hJ9, hT9, hD9⟩ := hR9
    simp only [show tupAt (.tuple #[x9, .int .i64 0]) 0 = x9 from rfl, show tupAt (.tuple #[x9, .int .i64 0]) 1 = .int .i64 0 from rfl]
    obtain ⟨a9, c9, rfl, _⟩ := hJ9.shape
    have HJ9 := hd hJ9
    have HT9 := hd hT9
    have HD9 := hd hD9
    clear hJ9 hT9 hD9
    go_simp
    go_wp2_with fail
    refine Calls.mono (decode_all (.slice a9 bs.length c9) bs 0 w9 HJ9.out.isB) ?_
    rintro e w10 ⟨rfl, hB10⟩
    have hT10 : Tr O W0 w10 := HT9.out.trans (Tr.ofB hB10 O) fun x q => .inl q
    obtain ⟨hq1, hq2, hq3⟩ := HC.out w10 hT10
    obtain ⟨⟨k, ⟨rl, rk, rkey, rval⟩, ⟨pl, pk, pa, pn, pkey⟩, ⟨ec, eb, ef, es⟩⟩, ct, er, hdd⟩ : ∃ f c e, decF bs 0 = (f, c, e) := ⟨_, _, _, rfl⟩
    rw [hdd] at HX ⊢
    simp only at HX
    have c2 := hq1.cell 2 _ rfl
    have p0 := hq2.cell 0 _ rfl
    have p1 := hq2.cell 1 _ rfl
    have p2 := hq2.cell 2 _ rfl
    have p3 := hq2.cell 3 _ rfl
    have f0 := hq2.frozen 0
    have f1 := hq2.frozen 1
    have f2 := hq2.frozen 2
    have f3 := hq2.frozen 3
    have hpl := hq2.lt
    have hp1 := hq1.lt
    have HQ2 := hd hq2
    have HQ3 := hd hq3
    have HNT : Hid (∀ wf, Tr (fun y => y = w.heap.size + 1) w10 wf → DK wf d O S1 ∧ Tr O w wf) := fun wf T => ⟨(HD9.out.aside (Tr.ofB hB10 (fun _ => False)) (fun _ _ q => q)).aside T (fun b q e => by have := HOL.out b q; omega), hq3.trans T fun x q => .inr (by omega)⟩
    have HNO : Hid (¬ O (w.heap.size + 1)) := fun q => by have := HOL.out _ q; omega
    clear hB10 hT10 hq1 hq2 hq3 hdd HRD HC HJ9 HT9 HD9
    unfold dval fv
    simp only
    by_cases e1 : er = 0
    · subst e1
      by_cases e2 : (ct : Int) = ln
      · subst e2
        by_cases e3 : k = 1
        · subst e3
          have HR : Hid (rx = (⟨rl, rk, rkey, rval⟩, 0)) := HX.out.trans (if_neg (by rintro (q | q | ⟨q, _⟩) <;> exact q rfl))
          go_simp
          go_wp2_with fail
          have HF := hd (Blk.set (j := 3) (Blk.set (j := 2) (Blk.set (j := 1) (Blk.set (j := 0) HQ2.out (.int .u64 (rl : Int))) (.int .i64 rk)) (.string rkey)) (.string rval))
          refine bodyPost_ret (results_cell2 rfl _ _ (w.heap.size + 1) 38 #[.int .u64 (rl : Int), .int .i64 rk, .string rkey, .string rval] (0, 0) _ rfl (HF.out.alloc _) Tryz.underlying38 rfl (by kernel_rfl)) rfl ?_
          rw [HR.out]
          exact ⟨rfl, HNT.out _ (((((Tr.set (O := fun y => y = w.heap.size + 1) rfl _).trans (Tr.set (O := fun y => y = w.heap.size + 1) rfl _) fun x q => .inl q).trans (Tr.set (O := fun y => y = w.heap.size + 1) rfl _) fun x q => .inl q).trans (Tr.set (O := fun y => y = w.heap.size + 1) rfl _) fun x q => .inl q).trans (Tr.alloc (fun y => y = w.heap.size + 1) _ _) fun x q => .inl q)⟩
        · by_cases e4 : k = 2
          · subst e4
            have HR : Hid (rx = (⟨rl, rk, rkey, rval⟩, 0)) := HX.out.trans (if_neg (by rintro (q | q | ⟨_, q⟩) <;> exact q rfl))
            go_simp
            go_wp2_with fail
            have HF := hd (Blk.set (j := 3) (Blk.set (j := 2) (Blk.set (j := 1) (Blk.set (j := 0) HQ2.out (.int .u64 (rl : Int))) (.int .i64 rk)) (.string rkey)) (.string rval))
            refine bodyPost_ret (results_cell2 rfl _ _ (w.heap.size + 1) 38 #[.int .u64 (rl : Int), .int .i64 rk, .string rkey, .string rval] (0, 0) _ rfl (HF.out.alloc _) Tryz.underlying38 rfl (by kernel_rfl)) rfl ?_
            rw [HR.out]
            exact ⟨rfl, HNT.out _ (((((Tr.set (O := fun y => y = w.heap.size + 1) rfl _).trans (Tr.set (O := fun y => y = w.heap.size + 1) rfl _) fun x q => .inl q).trans (Tr.set (O := fun y => y = w.heap.size + 1) rfl _) fun x q => .inl q).trans (Tr.set (O := fun y => y = w.heap.size + 1) rfl _) fun x q => .inl q).trans (Tr.alloc (fun y => y = w.heap.size + 1) _ _) fun x q => .inl q)⟩
          · have HE3 := hd e3
            have HE4 := hd e4
            have HR : Hid (rx = (zr, 91)) := HX.out.trans (if_pos (by exact .inr (.inr ⟨e3, e4⟩)))
            go_simp
            go_wp2_with fail
            have HF := hd (Blk.set (j := 3) (Blk.set (j := 2) (Blk.set (j := 1) (Blk.set (j := 0) HQ2.out (.int .u64 0)) (.int .i64 0)) (.string ⟨#[]⟩)) (.string ⟨#[]⟩))
            refine bodyPost_ret (results_cell2 rfl _ _ (w.heap.size + 1) 38 #[.int .u64 0, .int .i64 0, .string ⟨#[]⟩, .string ⟨#[]⟩] (0, 0) _ rfl (HF.out.alloc _) Tryz.underlying38 rfl (by kernel_rfl)) rfl ?_
            rw [HR.out]
            exact ⟨rfl, HNT.out _ (((((Tr.set (O := fun y => y = w.heap.size + 1) rfl _).trans (Tr.set (O := fun y => y = w.heap.size + 1) rfl _) fun x q => .inl q).trans (Tr.set (O := fun y => y = w.heap.size + 1) rfl _) fun x q => .inl q).trans (Tr.set (O := fun y => y = w.heap.size + 1) rfl _) fun x q => .inl q).trans (Tr.alloc (fun y => y = w.heap.size + 1) _ _) fun x q => .inl q)⟩
            exfalso
            rename_i hz
            simp at hz
            omega
      · have HR : Hid (rx = (zr, 91)) := HX.out.trans (if_pos (by exact .inr (.inl e2)))
        have z4 : ¬ ((ct : Int) = ln) := e2
        go_simp
        go_wp2_with fail
        have HF := hd (Blk.set (j := 3) (Blk.set (j := 2) (Blk.set (j := 1) (Blk.set (j := 0) HQ2.out (.int .u64 0)) (.int .i64 0)) (.string ⟨#[]⟩)) (.string ⟨#[]⟩))
        refine bodyPost_ret (results_cell2 rfl _ _ (w.heap.size + 1) 38 #[.int .u64 0, .int .i64 0, .string ⟨#[]⟩, .string ⟨#[]⟩] (0, 0) _ rfl (HF.out.alloc _) Tryz.underlying38 rfl (by kernel_rfl)) rfl ?_
        rw [HR.out]
        exact ⟨rfl, HNT.out _ (((((Tr.set (O := fun y => y = w.heap.size + 1) rfl _).trans (Tr.set (O := fun y => y = w.heap.size + 1) rfl _) fun x q => .inl q).trans (Tr.set (O := fun y => y = w.heap.size + 1) rfl _) fun x q => .inl q).trans (Tr.set (O := fun y => y = w.heap.size + 1) rfl _) fun x q => .inl q).trans (Tr.alloc (fun y => y = w.heap.size + 1) _ _) fun x q => .inl q)⟩
    · have HR : Hid (rx = (zr, 91)) := HX.out.trans (if_pos (by exact .inl e1))
      have z3 : ¬ ((er : Int) = 0) := by omega
      go_simp
      go_wp2_with fail
      have HF := hd (Blk.set (j := 3) (Blk.set (j := 2) (Blk.set (j := 1) (Blk.set (j := 0) HQ2.out (.int .u64 0)) (.int .i64 0)) (.string ⟨#[]⟩)) (.string ⟨#[]⟩))
      refine bodyPost_ret (results_cell2 rfl _ _ (w.heap.size + 1) 38 #[.int .u64 0, .int .i64 0, .string ⟨#[]⟩, .string ⟨#[]⟩] (0, 0) _ rfl (HF.out.alloc _) Tryz.underlying38 rfl (by kernel_rfl)) rfl ?_
      rw [HR.out]
      exact ⟨rfl, HNT.out _ (((((Tr.set (O := fun y => y = w.heap.size + 1) rfl _).trans (Tr.set (O := fun y => y = w.heap.size + 1) rfl _) fun x q => .inl q).trans (Tr.set (O := fun y => y = w.heap.size + 1) rfl _) fun x q => .inl q).trans (Tr.set (O := fun y => y = w.heap.size + 1) rfl _) fun x q => .inl q).trans (Tr.alloc (fun y => y = w.heap.size + 1) _ _) fun x q => .inl q)⟩
  --END r
end Sg
end Go.Proofs.YtolddolfpnkndaaGreat
