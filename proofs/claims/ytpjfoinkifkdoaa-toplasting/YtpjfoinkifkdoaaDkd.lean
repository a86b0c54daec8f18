/-
  A FILE IS TAKEN AWAY: what stays of the disk; the walk of drop.
-/
import Derived.Test.YtpjfoinkifkdoaaDkb
namespace Go.Proofs.Ytpjfoinkifkdoaa
open Go.RowKit Go.Maps
namespace Dk
open Vt
theorem cutE_sub (es : List En) (s : ByteArray) : List.Sublist (cutE es s) es := List.filter_sublist
theorem cutE_fi (es : List En) (s : ByteArray) : (cutE es s).map En.fi = del (es.map En.fi) s := by
  unfold cutE del
  rw [List.filter_map]
  rfl
theorem cutE_none {es : List En} {s : ByteArray} (h : fnd es s = none) : cutE es s = es := by
  unfold cutE
  rw [List.filter_eq_self]
  intro x hx
  simpa using fnd_none.1 h x hx
/-- the map alone has turned -/
theorem DKq.mapped {w w' : World} {d m : Nat} {es es' : List En} {O : Nat → Prop} {cs : List Value} (h : DKq w d m es O cs) (ht : w.mapTurned w' m) (hM : MP w' m es') (hs : ∀ e ∈ es', ∃ e0 ∈ es, e.blk = e0.blk ∧ e.val = e0.val ∧ e.dat = e0.dat ∧ e.las = e0.las)
    (hap : es'.Pairwise fun a b => a.blk ≠ b.blk ∧ ∀ g, a.val.ownBlock = some g → b.val.ownBlock ≠ some g) (hn : es'.Pairwise fun a b => a.nm ≠ b.nm) : DKq w' d m es' O cs := by
  have hk : ∀ b, O b → b ≠ m → w'.heap[b]? = w.heap[b]? := fun b q hb => ht.grown.block b (h.olt b q) (fun z => hb (by injection z))
  have hmd : d ≠ m := fun q => h.map.notBlk h.box q
  refine ⟨(hk d h.own.1 hmd).trans h.box, hM, fun e he => ?_, hap, hn, ⟨h.own.1, h.own.2.1, fun e he => ?_⟩, fun b q => Nat.lt_of_lt_of_le (h.olt b q) ht.grown.size⟩
  · obtain ⟨e0, h0, q1, q2, q3, q4⟩ := hs e he
    rw [q1, q2, q3, q4]
    refine ⟨(hk _ (h.own.2.2 e0 h0).1 (fun q => h.map.notBlk (h.file e0 h0).1 q)).trans (h.file e0 h0).1, JB.same (h.file e0 h0).2 fun g hg => hk g ((h.own.2.2 e0 h0).2 g hg) ?_⟩
    rintro rfl
    obtain ⟨cur, hq⟩ := jb_row (h.file e0 h0).2 hg
    obtain ⟨D, ⟨y, c, q6, _⟩, _⟩ := h.map
    rw [hq] at q6
    cases q6
  · obtain ⟨e0, h0, q1, q2, q3, q4⟩ := hs e he
    rw [q1, q2]
    exact h.own.2.2 e0 h0
theorem DKq.cut {w w' : World} {d m : Nat} {es : List En} {O : Nat → Prop} {cs : List Value} (h : DKq w d m es O cs) {s : ByteArray} (ht : w.mapTurned w' m) (hM : MP w' m (cutE es s)) : DKq w' d m (cutE es s) O cs :=
  h.mapped ht hM (fun e he => ⟨e, (cutE_sub es s).mem he, rfl, rfl, rfl, rfl⟩) (h.apart.sublist (cutE_sub es s)) (h.names.sublist (cutE_sub es s))
/-- the disk's struct and its map have turned -/
theorem DKq.remade {w w' : World} {d m : Nat} {es es' : List En} {O : Nat → Prop} {cs cs' : List Value} (h : DKq w d m es O cs) (ht : Tr (fun b => b = d ∨ b = m) w w') (hb : Blk w' d TD cs') (hM : MP w' m es') (hs : ∀ e ∈ es', ∃ e0 ∈ es, e.blk = e0.blk ∧ e.val = e0.val ∧ e.dat = e0.dat ∧ e.las = e0.las)
    (hap : es'.Pairwise fun a b => a.blk ≠ b.blk ∧ ∀ g, a.val.ownBlock = some g → b.val.ownBlock ≠ some g) (hn : es'.Pairwise fun a b => a.nm ≠ b.nm) : DKq w' d m es' O cs' := by
  have hk : ∀ b, O b → b ≠ d → b ≠ m → w'.heap[b]? = w.heap[b]? := fun b q h1 h2 => ht.block b (h.olt b q) (fun z => z.elim h1 h2)
  refine ⟨hb, hM, fun e he => ?_, hap, hn, ⟨h.own.1, h.own.2.1, fun e he => ?_⟩, fun b q => Nat.lt_of_lt_of_le (h.olt b q) ht.size⟩
  · obtain ⟨e0, h0, q1, q2, q3, q4⟩ := hs e he
    rw [q1, q2, q3, q4]
    refine ⟨(hk _ (h.own.2.2 e0 h0).1 (blk_ne (h.file e0 h0).1 h.box (by decide)) (fun q => h.map.notBlk (h.file e0 h0).1 q)).trans (h.file e0 h0).1, JB.same (h.file e0 h0).2 fun g hg => hk g ((h.own.2.2 e0 h0).2 g hg) (jb_ne (h.file e0 h0).2 hg h.box (by decide)) ?_⟩
    rintro rfl
    obtain ⟨cur, hq⟩ := jb_row (h.file e0 h0).2 hg
    obtain ⟨D, ⟨y, c, q6, _⟩, _⟩ := h.map
    rw [hq] at q6
    cases q6
  · obtain ⟨e0, h0, q1, q2, q3, q4⟩ := hs e he
    rw [q1, q2]
    exact h.own.2.2 e0 h0
/-- what drop leaves of the count -/
def dropU (es : List En) (s : ByteArray) (u : Nat) : Nat := u - ((fnd es s).map fun e => e.dat.length).getD 0
set_option maxRecDepth 100000 in
set_option maxHeartbeats 1000000 in
theorem drop_is (w : World) (d m : Nat) (es : List En) (O : Nat → Prop) (S : Ds) (sn : ByteArray) (h : DKq w d m es O (cells S m)) (hs : sn.size ≤ maxLen) (hu : S.used ≤ 4194304) (hle : ∀ e, fnd es sn = some e → e.dat.length ≤ S.used) :
    Calls Try.prog 35 #[.pointer (some ⟨d, 0, none⟩), .string sn] w fun e w' => (∃ v, e = .returned v) ∧ DKq w' d m (cutE es sn) O (cells { S with used := dropU es sn S.used } m) ∧ Tr (fun b => b = d ∨ b = m) w w' := by
  have hmx : Try.prog.follows .mixedOrders = true := by kernel_rfl
  have c2 := h.box.cell 2 _ rfl
  have hl := h.map.look hs
  cases hf : fnd es sn with
  | none =>
    have HFIN : Hid (DKq w d m (cutE es sn) O (cells { S with used := dropU es sn S.used } m)) := by
      show DKq _ _ _ _ _ _
      rw [cutE_none hf]
      unfold dropU
      rw [hf]
      exact h
    rw [hf] at hl
    simp only [Option.map_none, ptrV] at hl
    clear h
    go_enter Try.func35, Try.ntmps35
    go_wp2_with fail
    go_end0
    exact ⟨⟨_, rfl⟩, HFIN.out, Tr.refl _ w⟩
  | some e =>
    obtain ⟨hm, hsn⟩ := fnd_mem hf
    obtain ⟨hfb, hJ⟩ := h.file e hm
    obtain ⟨av, cv, hv, hlc⟩ := hJ.shape
    have hln := hle e hf
    obtain ⟨SS, hS0, hS1⟩ : ∃ SS : Nat → World, SS 0 = w.drew ∧ SS 1 = (SS 0).setCell ⟨d, 1, none⟩ (.int .i64 ((S.used : Int) - (e.dat.length : Int))) := ⟨fun s => match s with | 0 => w.drew | _ => w.drew.setCell ⟨d, 1, none⟩ (.int .i64 ((S.used : Int) - (e.dat.length : Int))), rfl, rfl⟩
    have C1 : (SS 0).cell? ⟨d, 1, none⟩ = some (.int .i64 (S.used : Int)) := by rw [hS0]; exact h.box.cell 1 _ rfl
    have F1 : (SS 0).frozen? ⟨d, 1, none⟩ = false := by rw [hS0]; exact h.box.frozen 1
    have C2 : (SS 0).cell? ⟨e.blk, 0, none⟩ = some (.slice av e.dat.length cv) := by rw [hS0, ← hv]; exact hfb.cell 0 _ rfl
    have HWR : Hid (IntKind.i64.wrap ((S.used : Int) - (e.dat.length : Int)) = (S.used : Int) - (e.dat.length : Int)) := by show IntKind.i64.wrap _ = _; rw [IntKind.wrap_i64]; omega
    obtain ⟨WW, hWW⟩ : ∃ WW, SS 1 = WW := ⟨_, rfl⟩
    have ht1 : Tr (fun b => b = d) w WW := by
      rw [← hWW, hS1, hS0]
      exact (Tr.drew (fun b => b = d) w).trans (Tr.set (O := fun b => b = d) (p := ⟨d, 1, none⟩) rfl _) fun b q => .inl q
    have hq1 : DKq WW d m es O (cells { S with used := dropU es sn S.used } m) := by
      refine h.turn ht1 ?_
      rw [← hWW, hS1, hS0]
      have e1 : (S.used : Int) - (e.dat.length : Int) = ((dropU es sn S.used : Nat) : Int) := by
        unfold dropU
        rw [hf]
        simp only [Option.map_some, Option.getD_some]
        omega
      rw [e1]
      exact Blk.set (W := w.drew) h.box _
    obtain ⟨w2, hr2, hM2, ht2⟩ := hq1.map.del hq1.names hs 0
    have HFIN : Hid (DKq w2 d m (cutE es sn) O (cells { S with used := dropU es sn S.used } m) ∧ Tr (fun b => b = d ∨ b = m) w w2) := by
      refine ⟨hq1.cut ht2 hM2, ?_⟩
      exact (ht1.mono fun x q _ => .inl q).trans (Tr.turned (O := fun b => b = d ∨ b = m) ht2 (.inr rfl)) fun b q => .inl q
    have d2 : WW.cell? ⟨d, 2, none⟩ = some (.map (some m)) := hq1.box.cell 2 _ rfl
    rw [hf] at hl
    simp only [Option.map_some, ptrV] at hl
    have HS0 := hd hS0
    have HS1 := hd hS1
    have HWW := hd hWW
    clear hS0 hS1 hWW h hfb hJ hv hM2 ht2 ht1 hq1
    go_enter Try.func35, Try.ntmps35
    go_wp2_with fail
    --REGION a
    refine region_chain (fun i => match i with
      | 0 => Value.pointer (some { block := d, off := 0 })
      | 1 => Value.pointer (some { block := d, off := 0 })
      | 2 => .pointer (some ⟨d, 1, none⟩)
      | 3 => .int .i64 (S.used : Int)
      | 4 => Value.pointer (some { block := e.blk, off := 0 })
      | 5 => Value.pointer (some { block := e.blk, off := 0 })
      | 6 => .pointer (some ⟨e.blk, 0, none⟩)
      | 7 => .slice av e.dat.length cv
      | 8 => .int .i64 (e.dat.length : Int)
      | 9 => .int .i64 ((S.used : Int) - (e.dat.length : Int))
      | 10 => Value.pointer (some { block := d, off := 0 })
      | 11 => .pointer (some ⟨d, 1, none⟩)
      | 12 => undef
      | _ => undef) [12] SS hmx (by kernel_rfl) (by kernel_rfl) (by kernel_rfl) (by kernel_rfl) HS0.out ?_ ?_ (by decide)
    · intro i o ho s a hsr hlo hhi hout haf hun
      have ee0 := getq (show a.tmps.getD 0 undef = Value.pointer (some { block := d, off := 0 }) from hout 0 (notDst_spec (by kernel_rfl)))
      have ee4 := getq (show a.tmps.getD 4 undef = Value.pointer (some { block := e.blk, off := 0 }) from hout 4 (notDst_spec (by kernel_rfl)))
      clear hout
      match i, ho, hlo, hhi, haf, hun with
      | 0, ho, hlo, hhi, haf, hun =>
        obtain rfl := Option.some.inj ho
        obtain rfl : s = 0 := by have := hhi 0 (by decide) (.inr (by kernel_rfl)); simp at hsr; omega
        refine step_c (w' := SS 0) rfl fun K hK => ?_
        simp only [List.getElem_toArray, List.getElem_cons_zero] at hK ⊢
        clear haf hlo hhi hun ho hsr
        go_simp
        exact hK
      | 1, ho, hlo, hhi, haf, hun =>
        obtain rfl := Option.some.inj ho
        have f0 := getq (show a.tmps.getD 13 undef = Value.pointer (some { block := d, off := 0 }) from haf ⟨0, .data⟩ (by simp) rfl 13 rfl)
        obtain rfl : s = 0 := by have := hhi 0 (by decide) (.inr (by kernel_rfl)); simp at hsr; omega
        refine step_c (w' := SS 0) rfl fun K hK => ?_
        simp only [List.getElem_toArray, List.getElem_cons_succ, List.getElem_cons_zero] at hK ⊢
        clear haf hlo hhi hun ho hsr
        go_simp
        exact hK
      | 2, ho, hlo, hhi, haf, hun =>
        obtain rfl := Option.some.inj ho
        have f1 := getq (show a.tmps.getD 14 undef = Value.pointer (some { block := d, off := 0 }) from haf ⟨1, .data⟩ (by simp) rfl 14 rfl)
        obtain rfl : s = 0 := by have := hhi 0 (by decide) (.inr (by kernel_rfl)); simp at hsr; omega
        refine step_c (w' := SS 0) rfl fun K hK => ?_
        simp only [List.getElem_toArray, List.getElem_cons_succ, List.getElem_cons_zero] at hK ⊢
        clear haf hlo hhi hun ho hsr
        go_simp
        exact hK
      | 3, ho, hlo, hhi, haf, hun =>
        obtain rfl := Option.some.inj ho
        have f2 := getq (show a.tmps.getD 15 undef = .pointer (some ⟨d, 1, none⟩) from haf ⟨2, .data⟩ (by simp) rfl 15 rfl)
        obtain rfl : s = 0 := by have := hhi 0 (by decide) (.inr (by kernel_rfl)); simp at hsr; omega
        refine step_c (w' := SS 0) rfl fun K hK => ?_
        simp only [List.getElem_toArray, List.getElem_cons_succ, List.getElem_cons_zero] at hK ⊢
        clear haf hlo hhi hun ho hsr
        go_simp
        exact hK
      | 4, ho, hlo, hhi, haf, hun =>
        obtain rfl := Option.some.inj ho
        obtain rfl : s = 0 := by have := hhi 0 (by decide) (.inr (by kernel_rfl)); simp at hsr; omega
        refine step_c (w' := SS 0) rfl fun K hK => ?_
        simp only [List.getElem_toArray, List.getElem_cons_succ, List.getElem_cons_zero] at hK ⊢
        clear haf hlo hhi hun ho hsr
        go_simp
        exact hK
      | 5, ho, hlo, hhi, haf, hun =>
        obtain rfl := Option.some.inj ho
        have f4 := getq (show a.tmps.getD 17 undef = Value.pointer (some { block := e.blk, off := 0 }) from haf ⟨4, .data⟩ (by simp) rfl 17 rfl)
        obtain rfl : s = 0 := by have := hhi 0 (by decide) (.inr (by kernel_rfl)); simp at hsr; omega
        refine step_c (w' := SS 0) rfl fun K hK => ?_
        simp only [List.getElem_toArray, List.getElem_cons_succ, List.getElem_cons_zero] at hK ⊢
        clear haf hlo hhi hun ho hsr
        go_simp
        exact hK
      | 6, ho, hlo, hhi, haf, hun =>
        obtain rfl := Option.some.inj ho
        have f5 := getq (show a.tmps.getD 18 undef = Value.pointer (some { block := e.blk, off := 0 }) from haf ⟨5, .data⟩ (by simp) rfl 18 rfl)
        obtain rfl : s = 0 := by have := hhi 0 (by decide) (.inr (by kernel_rfl)); simp at hsr; omega
        refine step_c (w' := SS 0) rfl fun K hK => ?_
        simp only [List.getElem_toArray, List.getElem_cons_succ, List.getElem_cons_zero] at hK ⊢
        clear haf hlo hhi hun ho hsr
        go_simp
        exact hK
      | 7, ho, hlo, hhi, haf, hun =>
        obtain rfl := Option.some.inj ho
        have f6 := getq (show a.tmps.getD 19 undef = .pointer (some ⟨e.blk, 0, none⟩) from haf ⟨6, .data⟩ (by simp) rfl 19 rfl)
        obtain rfl : s = 0 := by have := hhi 0 (by decide) (.inr (by kernel_rfl)); simp at hsr; omega
        refine step_c (w' := SS 0) rfl fun K hK => ?_
        simp only [List.getElem_toArray, List.getElem_cons_succ, List.getElem_cons_zero] at hK ⊢
        clear haf hlo hhi hun ho hsr
        go_simp
        exact hK
      | 8, ho, hlo, hhi, haf, hun =>
        obtain rfl := Option.some.inj ho
        have f7 := getq (show a.tmps.getD 20 undef = .slice av e.dat.length cv from haf ⟨7, .data⟩ (by simp) rfl 20 rfl)
        obtain rfl : s = 0 := by have := hhi 0 (by decide) (.inr (by kernel_rfl)); simp at hsr; omega
        refine step_c (w' := SS 0) rfl fun K hK => ?_
        simp only [List.getElem_toArray, List.getElem_cons_succ, List.getElem_cons_zero] at hK ⊢
        clear haf hlo hhi hun ho hsr
        go_simp
        exact hK
      | 9, ho, hlo, hhi, haf, hun =>
        obtain rfl := Option.some.inj ho
        have f3 := getq (show a.tmps.getD 16 undef = .int .i64 (S.used : Int) from haf ⟨3, .data⟩ (by simp) rfl 16 rfl)
        have f8 := getq (show a.tmps.getD 21 undef = .int .i64 (e.dat.length : Int) from haf ⟨8, .data⟩ (by simp) rfl 21 rfl)
        obtain rfl : s = 0 := by have := hhi 0 (by decide) (.inr (by kernel_rfl)); simp at hsr; omega
        refine step_c (w' := SS 0) rfl fun K hK => ?_
        simp only [List.getElem_toArray, List.getElem_cons_succ, List.getElem_cons_zero] at hK ⊢
        clear haf hlo hhi hun ho hsr
        go_simp
        rw [HWR.out]
        exact hK
      | 10, ho, hlo, hhi, haf, hun =>
        obtain rfl := Option.some.inj ho
        have f0 := getq (show a.tmps.getD 13 undef = Value.pointer (some { block := d, off := 0 }) from haf ⟨0, .data⟩ (by simp) rfl 13 rfl)
        obtain rfl : s = 0 := by have := hhi 0 (by decide) (.inr (by kernel_rfl)); simp at hsr; omega
        refine step_c (w' := SS 0) rfl fun K hK => ?_
        simp only [List.getElem_toArray, List.getElem_cons_succ, List.getElem_cons_zero] at hK ⊢
        clear haf hlo hhi hun ho hsr
        go_simp
        exact hK
      | 11, ho, hlo, hhi, haf, hun =>
        obtain rfl := Option.some.inj ho
        have f10 := getq (show a.tmps.getD 23 undef = Value.pointer (some { block := d, off := 0 }) from haf ⟨10, .data⟩ (by simp) rfl 23 rfl)
        obtain rfl : s = 0 := by have := hhi 0 (by decide) (.inr (by kernel_rfl)); simp at hsr; omega
        refine step_c (w' := SS 0) rfl fun K hK => ?_
        simp only [List.getElem_toArray, List.getElem_cons_succ, List.getElem_cons_zero] at hK ⊢
        clear haf hlo hhi hun ho hsr
        go_simp
        exact hK
      | 12, ho, hlo, hhi, haf, hun =>
        obtain rfl := Option.some.inj ho
        have f11 := getq (show a.tmps.getD 24 undef = .pointer (some ⟨d, 1, none⟩) from haf ⟨11, .data⟩ (by simp) rfl 24 rfl)
        have f9 := getq (show a.tmps.getD 22 undef = .int .i64 ((S.used : Int) - (e.dat.length : Int)) from haf ⟨9, .data⟩ (by simp) rfl 22 rfl)
        obtain rfl : s = 0 := by have := hhi 0 (by decide) (.inl (by kernel_rfl)); omega
        refine step_c (w' := SS 1) rfl fun K hK => ?_
        simp only [List.getElem_toArray, List.getElem_cons_succ, List.getElem_cons_zero] at hK ⊢
        clear haf hlo hhi hun ho hsr
        rw [HS1.out] at hK
        go_simp
        exact hK
      | n + 13, ho, _, _, _, _ => simp at ho
    · intro aa hdf hsz hout hval
      have hat : aa.tmps = #[Value.pointer (some { block := d, off := 0 }), Value.string sn, undef, undef, Value.pointer (some { block := e.blk, off := 0 }), Value.pointer (some { block := d, off := 0 }), Value.pointer (some { block := d, off := 0 }), Value.pointer (some { block := d, off := 2 }), Value.map (some m), Value.string sn, Value.pointer (some { block := e.blk, off := 0 }), Value.pointer (some { block := e.blk, off := 0 }), Value.bool true, Value.pointer (some { block := d, off := 0 }), Value.pointer (some { block := d, off := 0 }), .pointer (some ⟨d, 1, none⟩), .int .i64 (S.used : Int), Value.pointer (some { block := e.blk, off := 0 }), Value.pointer (some { block := e.blk, off := 0 }), .pointer (some ⟨e.blk, 0, none⟩), .slice av e.dat.length cv, .int .i64 (e.dat.length : Int), .int .i64 ((S.used : Int) - (e.dat.length : Int)), Value.pointer (some { block := d, off := 0 }), .pointer (some ⟨d, 1, none⟩), undef, undef, undef, undef, undef] := by
        refine arr_one (hsz.trans rfl) fun kk hkk => ?_
        match kk, hkk with
        | 0, _ => exact hout 0 (notDst_spec (by kernel_rfl))
        | 1, _ => exact hout 1 (notDst_spec (by kernel_rfl))
        | 2, _ => exact hout 2 (notDst_spec (by kernel_rfl))
        | 3, _ => exact hout 3 (notDst_spec (by kernel_rfl))
        | 4, _ => exact hout 4 (notDst_spec (by kernel_rfl))
        | 5, _ => exact hout 5 (notDst_spec (by kernel_rfl))
        | 6, _ => exact hout 6 (notDst_spec (by kernel_rfl))
        | 7, _ => exact hout 7 (notDst_spec (by kernel_rfl))
        | 8, _ => exact hout 8 (notDst_spec (by kernel_rfl))
        | 9, _ => exact hout 9 (notDst_spec (by kernel_rfl))
        | 10, _ => exact hout 10 (notDst_spec (by kernel_rfl))
        | 11, _ => exact hout 11 (notDst_spec (by kernel_rfl))
        | 12, _ => exact hout 12 (notDst_spec (by kernel_rfl))
        | 13, _ => exact hval 0 13 (by decide) rfl
        | 14, _ => exact hval 1 14 (by decide) rfl
        | 15, _ => exact hval 2 15 (by decide) rfl
        | 16, _ => exact hval 3 16 (by decide) rfl
        | 17, _ => exact hval 4 17 (by decide) rfl
        | 18, _ => exact hval 5 18 (by decide) rfl
        | 19, _ => exact hval 6 19 (by decide) rfl
        | 20, _ => exact hval 7 20 (by decide) rfl
        | 21, _ => exact hval 8 21 (by decide) rfl
        | 22, _ => exact hval 9 22 (by decide) rfl
        | 23, _ => exact hval 10 23 (by decide) rfl
        | 24, _ => exact hval 11 24 (by decide) rfl
        | 25, _ => exact hout 25 (notDst_spec (by kernel_rfl))
        | 26, _ => exact hout 26 (notDst_spec (by kernel_rfl))
        | 27, _ => exact hout 27 (notDst_spec (by kernel_rfl))
        | 28, _ => exact hout 28 (notDst_spec (by kernel_rfl))
        | 29, _ => exact hout 29 (notDst_spec (by kernel_rfl))
        | n + 30, h => exact absurd h (by simp)
      obtain ⟨tt, dd⟩ := aa
      simp only at hat hdf
      subst hat hdf
      clear hsz hout hval
      rw [show SS [12].length = WW from HWW.out]
      go_wp2_with fail
      go_end0
      exact ⟨⟨_, rfl⟩, HFIN.out.1, HFIN.out.2⟩
    --END a
end Dk
end Go.Proofs.Ytpjfoinkifkdoaa
