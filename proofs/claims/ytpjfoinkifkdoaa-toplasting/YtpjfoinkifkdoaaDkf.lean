/-
  THE WALKS OF Rename.
-/
import Derived.Test.YtpjfoinkifkdoaaDke
import Derived.Test.YtpjfoinkifkdoaaMr
namespace Go.Proofs.Ytpjfoinkifkdoaa
open Go.RowKit Go.Maps
namespace Dk
open Vt
theorem cf50 (caps : Array Value) (w : World) : (callFunc 34 caps).run Try.prog w = .ok (.enter 34 caps) w := by kernel_rfl
/-- what a Rename leaves -/
theorem rename_fin {w wA wB wC : World} {d m : Nat} {es : List En} {O : Nat → Prop} {S : Ds} {sn tn : ByteArray} {e : En} (h : DKm w d m es O S) (hf : fnd es sn = some e) (ht : isNm tn = true) (htA : Tr (fun b => b = d ∨ b = m) w wA) (htB : Tr (fun b => b = d ∨ b = m) wA wB)
    (hqB : DKq wB d m (cutE (cutE es sn) tn) O (cells { S with used := dropU (cutE es sn) tn S.used } m)) (hM : MP wC m (cutE (cutE es sn) tn ++ [{ e with nm := tn }])) (htC : wB.drew.mapTurned wC m) : Nx O w d (gRename sn tn S) wC := by
  obtain ⟨hm, hs⟩ := fnd_mem hf
  have htC' : Tr (fun b => b = d ∨ b = m) wB wC := (Tr.drew (fun b => b = d ∨ b = m) wB).trans (Tr.turned (O := fun b => b = d ∨ b = m) htC (.inr rfl)) fun b q => .inl q
  have hall : Tr (fun b => b = d ∨ b = m) w wC := (htA.trans htB fun b q => .inl q).trans htC' fun b q => .inl q
  have hmd : m ≠ d := fun q => h.map.notBlk h.box q.symm
  have hsub : List.Sublist (cutE (cutE es sn) tn) es := (cutE_sub _ _).trans (cutE_sub _ _)
  have hbox : Blk wC d TD (cells (gRename sn tn S) m) := by
    have h1 : Blk wC d TD (cells { S with used := dropU (cutE es sn) tn S.used } m) := (htC.grown.block d hqB.box.lt (fun q => hmd (by injection q with q; exact q.symm))).trans hqB.box
    have e1 : cells (gRename sn tn S) m = cells { S with used := dropU (cutE es sn) tn S.used } m := by
      have e2 : gRename sn tn S = { S with fs := del (del S.fs sn) tn ++ [{ e.fi with nm := tn }], used := S.used - ((get (del S.fs sn) tn).map fun f => f.dat.length).getD 0 } := by
        unfold gRename
        rw [h.fs, fnd_get, hf]; rfl
      rw [e2]
      unfold cells dropU
      rw [h.fs, ← cutE_fi, fnd_get]
      cases fnd (cutE es sn) tn <;> rfl
    rw [e1]; exact h1
  have hxn : ∀ x ∈ cutE (cutE es sn) tn, x.nm ≠ tn := fnd_none.1 (by rw [fnd_cut, if_pos rfl])
  have hxe : ∀ x ∈ cutE (cutE es sn) tn, x ≠ e := by
    intro x hx q
    have h1 : x ∈ cutE es sn := (cutE_sub _ _).mem hx
    have h2 : x.nm ≠ sn := fnd_none.1 (by rw [fnd_cut, if_pos rfl] : fnd (cutE es sn) sn = none) x h1
    rw [q] at h2
    exact h2 hs
  have sym : ∀ {a b : En}, (a.blk ≠ b.blk ∧ ∀ g, a.val.ownBlock = some g → b.val.ownBlock ≠ some g) → (b.blk ≠ a.blk ∧ ∀ g, b.val.ownBlock = some g → a.val.ownBlock ≠ some g) := fun q => ⟨fun z => q.1 z.symm, fun g h1 h2 => q.2 g h2 h1⟩
  have hq := h.q.remade hall hbox hM (fun x hx => by
      rcases List.mem_append.1 hx with hx | hx
      · exact ⟨x, hsub.mem hx, rfl, rfl, rfl, rfl⟩
      · rw [List.mem_singleton.1 hx]; exact ⟨e, hm, rfl, rfl, rfl, rfl⟩)
    (by
      rw [List.pairwise_append]
      refine ⟨h.apart.sublist hsub, List.pairwise_singleton _ _, fun a ha b hb => ?_⟩
      rw [List.mem_singleton.1 hb]
      exact (pw_any (R := fun a b : En => a.blk ≠ b.blk ∧ ∀ g, a.val.ownBlock = some g → b.val.ownBlock ≠ some g) sym h.apart (hsub.mem ha) hm (hxe a ha) : a.blk ≠ e.blk ∧ ∀ g, a.val.ownBlock = some g → e.val.ownBlock ≠ some g))
    (by
      rw [List.pairwise_append]
      refine ⟨h.names.sublist hsub, List.pairwise_singleton _ _, fun a ha b hb => ?_⟩
      rw [List.mem_singleton.1 hb]
      exact hxn a ha)
  refine ⟨O, ⟨m, _, DKq.m (S := gRename sn tn S) hq ?_ (h.good.rename ht)⟩, hall.mono fun x q _ => q.elim (fun q => by rw [q]; exact h.own.1) (fun q => by rw [q]; exact h.own.2.1), fun b q => .inl q⟩
  unfold gRename
  rw [h.fs, fnd_get, hf, List.map_append, cutE_fi, cutE_fi]
  rfl
set_option maxRecDepth 100000 in
set_option maxHeartbeats 1000000 in
theorem rename1_is (w : World) (d m : Nat) (es : List En) (O : Nat → Prop) (S : Ds) (sn tn : ByteArray) (e : En) (b1 b2 b3 b4 : Nat) (h : DKm w d m es O S) (hf : fnd es sn = some e) (h1 : Blk w b1 23 [.pointer (some ⟨d, 0, none⟩)]) (h2 : Blk w b2 TS [.string sn]) (h3 : Blk w b3 TS [.string tn]) (h4 : Blk w b4 TP [.pointer (some ⟨e.blk, 0, none⟩)]) (hs : isNm sn = true) (ht : isNm tn = true) (ha : S.acts ≤ 4611686018427387904) :
    Calls Try.prog 34 #[.pointer (some ⟨b1, 0, none⟩), .pointer (some ⟨b2, 0, none⟩), .pointer (some ⟨b3, 0, none⟩), .pointer (some ⟨b4, 0, none⟩)] w fun e w2 => (∃ v, e = .returned v) ∧ Nx O w d (gRename sn tn S) w2 := by
  have hmx : Try.prog.follows .mixedOrders = true := by kernel_rfl
  obtain ⟨wA, hrA, hMA, htA⟩ := MP.del (w := w.drew) h.map h.names (isNm_len hs) 0
  have hqA : DKq wA d m (cutE es sn) O (cells S m) := DKq.cut (w := w.drew) (h.q.aside (Tr.drew (fun _ => False) w) fun _ _ q => q) htA hMA
  have htA' : Tr (fun b => b = d ∨ b = m) w wA := (Tr.drew (fun b => b = d ∨ b = m) w).trans (Tr.turned (O := fun b => b = d ∨ b = m) htA (.inr rfl)) fun b q => .inl q
  have hcap := h.good.cap
  have hroom := h.good.room
  have HDR := hd (drop_is wA d m (cutE es sn) O S tn hqA (isNm_len ht) (by omega) (fun e' he' => by
    rw [fnd_cut] at he'
    split at he'
    · cases he'
    · exact h.len_le he'))
  have keepA : ∀ X T cs, Blk w X T cs → T ≠ TD → Blk wA X T cs := fun X T cs hX hT => (htA'.block X hX.lt (fun q => q.elim (fun q => blk_ne hX h.box hT q) (fun q => h.map.notBlk hX q))).trans hX
  obtain ⟨SS, hS0, hS1⟩ : ∃ SS : Nat → World, SS 0 = w.drew ∧ SS 1 = wA := ⟨fun s => match s with | 0 => w.drew | _ => wA, rfl, rfl⟩
  have C1 : (SS 0).cell? ⟨b1, 0, none⟩ = some (.pointer (some ⟨d, 0, none⟩)) := by rw [hS0]; exact h1.cell 0 _ rfl
  have C2 : (SS 0).cell? ⟨b2, 0, none⟩ = some (.string sn) := by rw [hS0]; exact h2.cell 0 _ rfl
  have C3 : (SS 0).cell? ⟨d, 2, none⟩ = some (.map (some m)) := by rw [hS0]; exact h.box.cell 2 _ rfl
  have RD : (Builtin.delete_ #[TM, TS] 0 #[.map (some m), .string sn]).run Try.prog (SS 0) = .ok (.tuple #[]) (SS 1) := by rw [hS0, hS1]; exact hrA
  have D1 : wA.cell? ⟨b1, 0, none⟩ = some (.pointer (some ⟨d, 0, none⟩)) := (keepA _ _ _ h1 (by decide)).cell 0 _ rfl
  have D2 : wA.cell? ⟨b3, 0, none⟩ = some (.string tn) := (keepA _ _ _ h3 (by decide)).cell 0 _ rfl
  have H := hd h
  have H1 := hd h1
  have H3 := hd h3
  have H4 := hd h4
  have HTA := hd htA'
  have HS0 := hd hS0
  have HS1 := hd hS1
  clear hS0 hS1 h h1 h2 h3 h4 hMA htA htA' hqA keepA hrA
  go_enter Try.func34, Try.ntmps34
  go_wp2_with fail
  --REGION a
  refine region_chain (fun i => match i with
    | 0 => .pointer (some ⟨d, 0, none⟩)
    | 1 => .pointer (some ⟨d, 0, none⟩)
    | 2 => .pointer (some ⟨d, 2, none⟩)
    | 3 => .map (some m)
    | 4 => .string sn
    | 5 => undef
    | _ => undef) [5] SS hmx (by kernel_rfl) (by kernel_rfl) (by kernel_rfl) (by kernel_rfl) HS0.out ?_ ?_ (by decide)
  · intro i o ho s a hsr hlo hhi hout haf hun
    have ee0 := getq (show a.tmps.getD 0 undef = Value.pointer (some { block := b1, off := 0 }) from hout 0 (notDst_spec (by kernel_rfl)))
    have ee1 := getq (show a.tmps.getD 1 undef = Value.pointer (some { block := b2, off := 0 }) from hout 1 (notDst_spec (by kernel_rfl)))
    clear hout
    match i, ho, hlo, hhi, haf, hun with
    | 0, ho, hlo, hhi, haf, hun =>
      obtain rfl := Option.some.inj ho
      obtain rfl : s = 0 := by have := hhi 0 (by decide) (.inr (by kernel_rfl)); simp at hsr; omega
      refine step_c (w' := SS 0) rfl fun K hK => ?_
      simp only [List.getElem_toArray, List.getElem_cons_zero] at hK ⊢
      clear haf hlo hhi hun ho hsr
      go_simp
      exact hK
    | 1, ho, hlo, hhi, haf, hun =>
      obtain rfl := Option.some.inj ho
      have f0 := getq (show a.tmps.getD 4 undef = .pointer (some ⟨d, 0, none⟩) from haf ⟨0, .data⟩ (by simp) rfl 4 rfl)
      obtain rfl : s = 0 := by have := hhi 0 (by decide) (.inr (by kernel_rfl)); simp at hsr; omega
      refine step_c (w' := SS 0) rfl fun K hK => ?_
      simp only [List.getElem_toArray, List.getElem_cons_succ, List.getElem_cons_zero] at hK ⊢
      clear haf hlo hhi hun ho hsr
      go_simp
      exact hK
    | 2, ho, hlo, hhi, haf, hun =>
      obtain rfl := Option.some.inj ho
      have f1 := getq (show a.tmps.getD 5 undef = .pointer (some ⟨d, 0, none⟩) from haf ⟨1, .data⟩ (by simp) rfl 5 rfl)
      obtain rfl : s = 0 := by have := hhi 0 (by decide) (.inr (by kernel_rfl)); simp at hsr; omega
      refine step_c (w' := SS 0) rfl fun K hK => ?_
      simp only [List.getElem_toArray, List.getElem_cons_succ, List.getElem_cons_zero] at hK ⊢
      clear haf hlo hhi hun ho hsr
      go_simp
      exact hK
    | 3, ho, hlo, hhi, haf, hun =>
      obtain rfl := Option.some.inj ho
      have f2 := getq (show a.tmps.getD 6 undef = .pointer (some ⟨d, 2, none⟩) from haf ⟨2, .data⟩ (by simp) rfl 6 rfl)
      obtain rfl : s = 0 := by have := hhi 0 (by decide) (.inr (by kernel_rfl)); simp at hsr; omega
      refine step_c (w' := SS 0) rfl fun K hK => ?_
      simp only [List.getElem_toArray, List.getElem_cons_succ, List.getElem_cons_zero] at hK ⊢
      clear haf hlo hhi hun ho hsr
      go_simp
      exact hK
    | 4, ho, hlo, hhi, haf, hun =>
      obtain rfl := Option.some.inj ho
      obtain rfl : s = 0 := by have := hhi 0 (by decide) (.inr (by kernel_rfl)); simp at hsr; omega
      refine step_c (w' := SS 0) rfl fun K hK => ?_
      simp only [List.getElem_toArray, List.getElem_cons_succ, List.getElem_cons_zero] at hK ⊢
      clear haf hlo hhi hun ho hsr
      go_simp
      exact hK
    | 5, ho, hlo, hhi, haf, hun =>
      obtain rfl := Option.some.inj ho
      have f3 := getq (show a.tmps.getD 7 undef = .map (some m) from haf ⟨3, .data⟩ (by simp) rfl 7 rfl)
      have f4 := getq (show a.tmps.getD 8 undef = .string sn from haf ⟨4, .data⟩ (by simp) rfl 8 rfl)
      obtain rfl : s = 0 := by have := hhi 0 (by decide) (.inl (by kernel_rfl)); omega
      refine step_c (w' := SS 1) rfl fun K hK => ?_
      simp only [List.getElem_toArray, List.getElem_cons_succ, List.getElem_cons_zero] at hK ⊢
      clear haf hlo hhi hun ho hsr
      go_simp
      exact hK
    | n + 6, ho, _, _, _, _ => simp at ho
  · intro aa hdf hsz hout hval
    have hat : aa.tmps = #[Value.pointer (some { block := b1, off := 0 }), Value.pointer (some { block := b2, off := 0 }), Value.pointer (some { block := b3, off := 0 }), Value.pointer (some { block := b4, off := 0 }), .pointer (some ⟨d, 0, none⟩), .pointer (some ⟨d, 0, none⟩), .pointer (some ⟨d, 2, none⟩), .map (some m), .string sn, undef, undef, undef, undef, undef, undef, undef, undef, undef] := by
      refine arr_one (hsz.trans rfl) fun kk hkk => ?_
      match kk, hkk with
      | 0, _ => exact hout 0 (notDst_spec (by kernel_rfl))
      | 1, _ => exact hout 1 (notDst_spec (by kernel_rfl))
      | 2, _ => exact hout 2 (notDst_spec (by kernel_rfl))
      | 3, _ => exact hout 3 (notDst_spec (by kernel_rfl))
      | 4, _ => exact hval 0 4 (by decide) rfl
      | 5, _ => exact hval 1 5 (by decide) rfl
      | 6, _ => exact hval 2 6 (by decide) rfl
      | 7, _ => exact hval 3 7 (by decide) rfl
      | 8, _ => exact hval 4 8 (by decide) rfl
      | 9, _ => exact hout 9 (notDst_spec (by kernel_rfl))
      | 10, _ => exact hout 10 (notDst_spec (by kernel_rfl))
      | 11, _ => exact hout 11 (notDst_spec (by kernel_rfl))
      | 12, _ => exact hout 12 (notDst_spec (by kernel_rfl))
      | 13, _ => exact hout 13 (notDst_spec (by kernel_rfl))
      | 14, _ => exact hout 14 (notDst_spec (by kernel_rfl))
      | 15, _ => exact hout 15 (notDst_spec (by kernel_rfl))
      | 16, _ => exact hout 16 (notDst_spec (by kernel_rfl))
      | 17, _ => exact hout 17 (notDst_spec (by kernel_rfl))
      | n + 18, h => exact absurd h (by simp)
    obtain ⟨tt, dd⟩ := aa
    simp only at hat hdf
    subst hat hdf
    clear hsz hout hval
    rw [show SS [5].length = wA from HS1.out]
    clear C1 C2 C3 RD HS0 HS1 SS
    go_wp2_with fail
    refine Calls.mono HDR.out ?_
    rintro e9 wB ⟨⟨u9, rfl⟩, hqB, htB⟩
    have hlen : (cutE (cutE es sn) tn).length < maxLen := by
      have h1 := ((cutE_sub (cutE es sn) tn).trans (cutE_sub es sn)).length_le
      have h2 := H.out.good.cnt
      rw [H.out.fs, List.length_map] at h2
      unfold maxLen
      omega
    obtain ⟨wC, hrC, hMC, htC⟩ := MP.store (w := wB.drew) hqB.map { e with nm := tn } (isNm_len ht) (by show fnd _ tn = none; rw [fnd_cut, if_pos rfl]) hlen
    have htAB : Tr (fun b => b = d ∨ b = m) w wB := HTA.out.trans htB fun b q => .inl q
    have keepB : ∀ X T cs, Blk w X T cs → T ≠ TD → Blk wB X T cs := fun X T cs hX hT => (htAB.block X hX.lt (fun q => q.elim (fun q => blk_ne hX H.out.box hT q) (fun q => H.out.map.notBlk hX q))).trans hX
    obtain ⟨SS, hS0, hS1⟩ : ∃ SS : Nat → World, SS 0 = wB.drew ∧ SS 1 = wC := ⟨fun s => match s with | 0 => wB.drew | _ => wC, rfl, rfl⟩
    have C1 : (SS 0).cell? ⟨b1, 0, none⟩ = some (.pointer (some ⟨d, 0, none⟩)) := by rw [hS0]; exact (keepB _ _ _ H1.out (by decide)).cell 0 _ rfl
    have C2 : (SS 0).cell? ⟨b3, 0, none⟩ = some (.string tn) := by rw [hS0]; exact (keepB _ _ _ H3.out (by decide)).cell 0 _ rfl
    have C3 : (SS 0).cell? ⟨d, 2, none⟩ = some (.map (some m)) := by rw [hS0]; exact hqB.box.cell 2 _ rfl
    have C4 : (SS 0).cell? ⟨b4, 0, none⟩ = some (.pointer (some ⟨e.blk, 0, none⟩)) := by rw [hS0]; exact (keepB _ _ _ H4.out (by decide)).cell 0 _ rfl
    have RU : (Instr.mapUpdate TM (.map (some m)) (.string tn) (.pointer (some ⟨e.blk, 0, none⟩))).run Try.prog (SS 0) = .ok () (SS 1) := by rw [hS0, hS1]; exact hrC
    have HFIN := hd (rename_fin H.out hf ht HTA.out htB hqB hMC htC)
    have HS0 := hd hS0
    have HS1 := hd hS1
    clear hS0 hS1 hrC hMC htC htAB keepB hqB htB hlen D1 D2 HDR
    go_wp2_with fail
    --REGION b
    refine region_chain (fun i => match i with
      | 0 => .pointer (some ⟨d, 0, none⟩)
      | 1 => .pointer (some ⟨d, 0, none⟩)
      | 2 => .pointer (some ⟨d, 2, none⟩)
      | 3 => .map (some m)
      | 4 => .string tn
      | 5 => .pointer (some ⟨e.blk, 0, none⟩)
      | 6 => undef
      | _ => undef) [6] SS hmx (by kernel_rfl) (by kernel_rfl) (by kernel_rfl) (by kernel_rfl) HS0.out ?_ ?_ (by decide)
    · intro i o ho s a hsr hlo hhi hout haf hun
      have ee0 := getq (show a.tmps.getD 0 undef = Value.pointer (some { block := b1, off := 0 }) from hout 0 (notDst_spec (by kernel_rfl)))
      have ee2 := getq (show a.tmps.getD 2 undef = Value.pointer (some { block := b3, off := 0 }) from hout 2 (notDst_spec (by kernel_rfl)))
      have ee3 := getq (show a.tmps.getD 3 undef = Value.pointer (some { block := b4, off := 0 }) from hout 3 (notDst_spec (by kernel_rfl)))
      clear hout
      match i, ho, hlo, hhi, haf, hun with
      | 0, ho, hlo, hhi, haf, hun =>
        obtain rfl := Option.some.inj ho
        obtain rfl : s = 0 := by have := hhi 0 (by decide) (.inr (by kernel_rfl)); simp at hsr; omega
        refine step_c (w' := SS 0) rfl fun K hK => ?_
        simp only [List.getElem_toArray, List.getElem_cons_zero] at hK ⊢
        clear haf hlo hhi hun ho hsr
        go_simp
        exact hK
      | 1, ho, hlo, hhi, haf, hun =>
        obtain rfl := Option.some.inj ho
        have f0 := getq (show a.tmps.getD 12 undef = .pointer (some ⟨d, 0, none⟩) from haf ⟨0, .data⟩ (by simp) rfl 12 rfl)
        obtain rfl : s = 0 := by have := hhi 0 (by decide) (.inr (by kernel_rfl)); simp at hsr; omega
        refine step_c (w' := SS 0) rfl fun K hK => ?_
        simp only [List.getElem_toArray, List.getElem_cons_succ, List.getElem_cons_zero] at hK ⊢
        clear haf hlo hhi hun ho hsr
        go_simp
        exact hK
      | 2, ho, hlo, hhi, haf, hun =>
        obtain rfl := Option.some.inj ho
        have f1 := getq (show a.tmps.getD 13 undef = .pointer (some ⟨d, 0, none⟩) from haf ⟨1, .data⟩ (by simp) rfl 13 rfl)
        obtain rfl : s = 0 := by have := hhi 0 (by decide) (.inr (by kernel_rfl)); simp at hsr; omega
        refine step_c (w' := SS 0) rfl fun K hK => ?_
        simp only [List.getElem_toArray, List.getElem_cons_succ, List.getElem_cons_zero] at hK ⊢
        clear haf hlo hhi hun ho hsr
        go_simp
        exact hK
      | 3, ho, hlo, hhi, haf, hun =>
        obtain rfl := Option.some.inj ho
        have f2 := getq (show a.tmps.getD 14 undef = .pointer (some ⟨d, 2, none⟩) from haf ⟨2, .data⟩ (by simp) rfl 14 rfl)
        obtain rfl : s = 0 := by have := hhi 0 (by decide) (.inr (by kernel_rfl)); simp at hsr; omega
        refine step_c (w' := SS 0) rfl fun K hK => ?_
        simp only [List.getElem_toArray, List.getElem_cons_succ, List.getElem_cons_zero] at hK ⊢
        clear haf hlo hhi hun ho hsr
        go_simp
        exact hK
      | 4, ho, hlo, hhi, haf, hun =>
        obtain rfl := Option.some.inj ho
        obtain rfl : s = 0 := by have := hhi 0 (by decide) (.inr (by kernel_rfl)); simp at hsr; omega
        refine step_c (w' := SS 0) rfl fun K hK => ?_
        simp only [List.getElem_toArray, List.getElem_cons_succ, List.getElem_cons_zero] at hK ⊢
        clear haf hlo hhi hun ho hsr
        go_simp
        exact hK
      | 5, ho, hlo, hhi, haf, hun =>
        obtain rfl := Option.some.inj ho
        obtain rfl : s = 0 := by have := hhi 0 (by decide) (.inr (by kernel_rfl)); simp at hsr; omega
        refine step_c (w' := SS 0) rfl fun K hK => ?_
        simp only [List.getElem_toArray, List.getElem_cons_succ, List.getElem_cons_zero] at hK ⊢
        clear haf hlo hhi hun ho hsr
        go_simp
        exact hK
      | 6, ho, hlo, hhi, haf, hun =>
        obtain rfl := Option.some.inj ho
        have f3 := getq (show a.tmps.getD 15 undef = .map (some m) from haf ⟨3, .data⟩ (by simp) rfl 15 rfl)
        have f4 := getq (show a.tmps.getD 16 undef = .string tn from haf ⟨4, .data⟩ (by simp) rfl 16 rfl)
        have f5 := getq (show a.tmps.getD 17 undef = .pointer (some ⟨e.blk, 0, none⟩) from haf ⟨5, .data⟩ (by simp) rfl 17 rfl)
        obtain rfl : s = 0 := by have := hhi 0 (by decide) (.inl (by kernel_rfl)); omega
        refine step_c (w' := SS 1) rfl fun K hK => ?_
        simp only [List.getElem_toArray, List.getElem_cons_succ, List.getElem_cons_zero] at hK ⊢
        clear haf hlo hhi hun ho hsr
        go_simp
        exact hK
      | n + 7, ho, _, _, _, _ => simp at ho
    · intro aa hdf hsz hout hval
      have hat : aa.tmps = #[Value.pointer (some { block := b1, off := 0 }), Value.pointer (some { block := b2, off := 0 }), Value.pointer (some { block := b3, off := 0 }), Value.pointer (some { block := b4, off := 0 }), Value.pointer (some { block := d, off := 0 }), Value.pointer (some { block := d, off := 0 }), Value.pointer (some { block := d, off := 2 }), Value.map (some m), Value.string sn, Value.pointer (some { block := d, off := 0 }), Value.string tn, u9, .pointer (some ⟨d, 0, none⟩), .pointer (some ⟨d, 0, none⟩), .pointer (some ⟨d, 2, none⟩), .map (some m), .string tn, .pointer (some ⟨e.blk, 0, none⟩)] := by
        refine arr_one (hsz.trans rfl) fun kk hkk => ?_
        match kk, hkk with
        | 0, _ => exact hout 0 (notDst_spec (by kernel_rfl))
        | 1, _ => exact hout 1 (notDst_spec (by kernel_rfl))
        | 2, _ => exact hout 2 (notDst_spec (by kernel_rfl))
        | 3, _ => exact hout 3 (notDst_spec (by kernel_rfl))
        | 4, _ => exact hout 4 (notDst_spec (by kernel_rfl))
        | 5, _ => exact hout 5 (notDst_spec (by kernel_rfl))
        | 6, _ => exact hout 6 (notDst_spec (by kernel_rfl))
        | 7, _ => exact hout 7 (notDst_spec (by kernel_rfl))
        | 8, _ => exact hout 8 (notDst_spec (by kernel_rfl))
        | 9, _ => exact hout 9 (notDst_spec (by kernel_rfl))
        | 10, _ => exact hout 10 (notDst_spec (by kernel_rfl))
        | 11, _ => exact hout 11 (notDst_spec (by kernel_rfl))
        | 12, _ => exact hval 0 12 (by decide) rfl
        | 13, _ => exact hval 1 13 (by decide) rfl
        | 14, _ => exact hval 2 14 (by decide) rfl
        | 15, _ => exact hval 3 15 (by decide) rfl
        | 16, _ => exact hval 4 16 (by decide) rfl
        | 17, _ => exact hval 5 17 (by decide) rfl
        | n + 18, h => exact absurd h (by simp)
      obtain ⟨tt, dd⟩ := aa
      simp only at hat hdf
      subst hat hdf
      clear hsz hout hval
      rw [show SS [6].length = SS 1 from rfl, HS1.out]
      go_end0
      exact ⟨⟨_, rfl⟩, HFIN.out⟩
    --END b
  --END a
set_option maxRecDepth 100000 in
set_option maxHeartbeats 1000000 in
theorem rename_is (w : World) (d : Nat) (O : Nat → Prop) (S : Ds) (sn tn : ByteArray) (h : DK w d O S) (ha : S.acts < 4611686018427387904) :
    Calls Try.prog 19 #[.pointer (some ⟨d, 0, none⟩), .string sn, .string tn] w fun e w' => e = .returned (.int .i64 ((rename S sn tn).1 : Int)) ∧ Nx O w d (rename S sn tn).2 w' := by
  have hmx : Try.prog.follows .mixedOrders = true := by kernel_rfl
  obtain ⟨m, es, h⟩ := h
  obtain ⟨W, hW⟩ : ∃ W, W = ((w.alloc (.cells #[.pointer (some ⟨d, 0, none⟩)] 23)).alloc (.cells #[.string sn] TS)).alloc (.cells #[.string tn] TS) := ⟨_, rfl⟩
  have hK : DKm W d m es O S := by rw [hW]; exact ((h.alloc _).alloc _).alloc _
  have htW : Tr O w W := by rw [hW]; exact ((Tr.alloc O w _).trans (Tr.alloc O _ _) fun x q => .inl q).trans (Tr.alloc O _ _) fun x q => .inl q
  have hb1 : Blk W w.heap.size 23 [.pointer (some ⟨d, 0, none⟩)] := by rw [hW]; exact ((Blk.new w _ [.pointer (some ⟨d, 0, none⟩)]).alloc _).alloc _
  have hb2 : Blk W (w.heap.size + 1) TS [.string sn] := by
    rw [hW]
    have := Blk.new (w.alloc (.cells #[.pointer (some ⟨d, 0, none⟩)] 23)) TS [.string sn]
    rw [alloc_size] at this
    exact this.alloc _
  have hb3 : Blk W (w.heap.size + 2) TS [.string tn] := by
    rw [hW]
    have := Blk.new ((w.alloc (.cells #[.pointer (some ⟨d, 0, none⟩)] 23)).alloc (.cells #[.string sn] TS)) TS [.string tn]
    rwa [alloc_size, alloc_size] at this
  have hWs : W.heap.size = w.heap.size + 3 := by rw [hW, alloc_size, alloc_size, alloc_size]
  have hdl := h.box.lt
  obtain ⟨p, hp, hp0⟩ := fans_eq hK sn (isNm tn)
  obtain ⟨SS, hS0, hS1, hS2⟩ : ∃ SS : Nat → World, SS 0 = W.drew ∧ SS 1 = (W.alloc (.cells #[.pointer none] TP)).drew ∧ SS 2 = (SS 1).setCell ⟨W.heap.size, 0, none⟩ (.pointer p) := ⟨fun s => match s with | 0 => W.drew | 1 => (W.alloc (.cells #[.pointer none] TP)).drew | _ => (W.alloc (.cells #[.pointer none] TP)).drew.setCell ⟨W.heap.size, 0, none⟩ (.pointer p), rfl, rfl, rfl⟩
  have hKs : ∀ s, s ≤ 1 → DKm (SS s) d m es O S := by
    intro s hs
    obtain rfl | rfl : s = 0 ∨ s = 1 := by omega
    · rw [hS0]; exact hK.drewN 1
    · rw [hS1]; exact (hK.alloc _).drewN 1
  have bs : ∀ s, s ≤ 1 → ∀ X T cs, Blk W X T cs → Blk (SS s) X T cs := by
    intro s hs X T cs hX
    obtain rfl | rfl : s = 0 ∨ s = 1 := by omega
    · rw [hS0]; exact hX
    · rw [hS1]; exact hX.alloc _
  have C0 : ∀ s, s ≤ 1 → (SS s).cell? ⟨w.heap.size, 0, none⟩ = some (.pointer (some ⟨d, 0, none⟩)) := fun s hs => (bs s hs _ _ _ hb1).cell 0 _ rfl
  have C1 : ∀ s, s ≤ 1 → (SS s).cell? ⟨w.heap.size + 1, 0, none⟩ = some (.string sn) := fun s hs => (bs s hs _ _ _ hb2).cell 0 _ rfl
  have C2 : ∀ s, s ≤ 1 → (SS s).cell? ⟨w.heap.size + 1 + 1, 0, none⟩ = some (.string tn) := fun s hs => (bs s hs _ _ _ hb3).cell 0 _ rfl
  have hnew : Blk (SS 1) W.heap.size TP [.pointer none] := by rw [hS1]; exact Blk.new W TP [.pointer none]
  have C8 := hnew.cell 0 _ rfl
  have F8 := hnew.frozen 0
  have HFs : Hid (∀ s, s ≤ 1 → Calls Try.prog 32 #[.pointer (some ⟨d, 0, none⟩), .string sn, .bool (isNm tn)] (SS s) fun e w' => e = .returned (.tuple #[.pointer p, .int .i64 (look S sn (isNm tn) : Int)]) ∧ w' = SS s) := fun s hs => by
    rw [← hp]; exact find_is (SS s) d m es O S sn (isNm tn) (hKs s hs)
  have HIs : Hid (∀ s, Calls Try.prog 14 #[.string tn] (SS s) fun e w' => e = .returned (.bool (isNm tn)) ∧ w' = SS s) := fun s => isName_is tn (SS s)
  obtain ⟨V, hV⟩ : ∃ V, SS 2 = V := ⟨_, rfl⟩
  have htV : Tr (fun b => b = W.heap.size) W V := by
    rw [← hV, hS2, hS1]
    exact ((Tr.alloc (fun b => b = W.heap.size) W _).trans (Tr.drew (fun b => b = W.heap.size) _) fun b q => .inl q).trans (Tr.set (O := fun b => b = W.heap.size) (p := ⟨W.heap.size, 0, none⟩) rfl _) fun b q => .inl q
  have hKV : DKm V d m es O S := hK.aside htV fun b q z => by have := hK.olt b q; omega
  have kv : ∀ X T cs, Blk W X T cs → Blk V X T cs := fun X T cs hX => (htV.block X hX.lt (fun q => by have := hX.lt; omega)).trans hX
  have hb4 : Blk V W.heap.size TP [.pointer p] := by rw [← hV, hS2]; exact hnew.set _
  have htWV : Tr O w V := htW.trans htV fun b q => .inr (by rw [q, hWs]; omega)
  have HA : Hid (Calls Try.prog 30 #[.pointer (some ⟨d, 0, none⟩), .int .i64 (look S sn (isNm tn) : Int), .func (.func 34) #[] #[.pointer (some ⟨w.heap.size, 0, none⟩), .pointer (some ⟨w.heap.size + 1, 0, none⟩), .pointer (some ⟨w.heap.size + 1 + 1, 0, none⟩), .pointer (some ⟨W.heap.size, 0, none⟩)]] V fun e w' => e = .returned (.int .i64 ((rename S sn tn).1 : Int)) ∧ Nx O w d (rename S sn tn).2 w') := by
    refine (act_nx _ d m es O S _ _ (look S sn (isNm tn)) (gRename sn tn) hKV ha (cf50 _) ?_).mono ?_
    · intro h0 w1 ht h1
      obtain ⟨e, hfe, rfl, hnm, hbt, _⟩ := hp0 h0
      have k1 : ∀ X T cs, Blk V X T cs → X ≠ d → Blk w1 X T cs := fun X T cs hX hne => (ht.block X hX.lt hne).trans hX
      refine rename1_is w1 d m es O (tick S) sn tn e _ _ _ _ h1 hfe (k1 _ _ _ (kv _ _ _ hb1) (by omega)) (k1 _ _ _ (kv _ _ _ hb2) (by omega)) (k1 _ _ _ (kv _ _ _ hb3) (by omega)) (k1 _ _ _ hb4 (by omega)) hnm hbt ?_
      show S.acts + 1 ≤ _
      omega
    · rintro e w' ⟨rfl, hn⟩
      exact ⟨rfl, hn.after htWV⟩
  have v0 : V.cell? ⟨w.heap.size, 0, none⟩ = some (.pointer (some ⟨d, 0, none⟩)) := (kv _ _ _ hb1).cell 0 _ rfl
  have HV := hd hV
  have HS0 := hd hS0
  have HS1 := hd hS1
  have HS2 := hd hS2
  have HW := hd hW
  clear h hW hK htW hb1 hb2 hb3 hWs hdl hp hp0 hS0 hS1 hS2 hKs bs hnew hV htV hKV kv hb4 htWV
  obtain ⟨r, hr⟩ : ∃ r, look S sn (isNm tn) = r := ⟨_, rfl⟩
  rw [hr] at HFs HA
  clear hr
  go_enter Try.func19, Try.ntmps19
  go_wp2_with fail
  rw [← HW.out]
  --REGION c
  refine region_chainB (fun i => match i with
    | 0 => .pointer (some ⟨d, 0, none⟩)
    | 1 => .string sn
    | 2 => .string tn
    | 3 => .bool (isNm tn)
    | 4 => .tuple #[.pointer p, .int .i64 (r : Int)]
    | 5 => .tuple #[.pointer p, .int .i64 (r : Int)]
    | 6 => .pointer p
    | 7 => .int .i64 (r : Int)
    | 8 => .pointer (some ⟨W.heap.size, 0, none⟩)
    | 9 => undef
    | 10 => .int .i64 (r : Int)
    | _ => undef) [8, 9] SS hmx (by kernel_rfl) (by kernel_rfl) (by kernel_rfl) (by kernel_rfl) HS0.out ?_ ?_ (by decide)
  · intro i o ho s a hsr hlo hhi hout haf hun
    have ee3 := getq (show a.tmps.getD 3 undef = Value.pointer (some { block := w.heap.size, off := 0 }) from hout 3 (notDst_spec (by kernel_rfl)))
    have ee4 := getq (show a.tmps.getD 4 undef = Value.pointer (some { block := w.heap.size + 1, off := 0 }) from hout 4 (notDst_spec (by kernel_rfl)))
    have ee5 := getq (show a.tmps.getD 5 undef = Value.pointer (some { block := w.heap.size + 1 + 1, off := 0 }) from hout 5 (notDst_spec (by kernel_rfl)))
    clear hout
    match i, ho, hlo, hhi, haf, hun with
    | 0, ho, hlo, hhi, haf, hun =>
      obtain rfl := Option.some.inj ho
      have hst : s = 0 ∨ s = 1 := by have := hhi 1 (by decide) (.inr (by kernel_rfl)); simp at hsr; omega
      refine step_c (w' := SS s) rfl fun K hK => ?_
      simp only [List.getElem_toArray, List.getElem_cons_zero] at hK ⊢
      clear haf hlo hhi hun ho hsr
      have hc := C0 s (by omega)
      go_simp
      exact hK
    | 1, ho, hlo, hhi, haf, hun =>
      obtain rfl := Option.some.inj ho
      have hst : s = 0 ∨ s = 1 := by have := hhi 1 (by decide) (.inr (by kernel_rfl)); simp at hsr; omega
      refine step_c (w' := SS s) rfl fun K hK => ?_
      simp only [List.getElem_toArray, List.getElem_cons_succ, List.getElem_cons_zero] at hK ⊢
      clear haf hlo hhi hun ho hsr
      have hc := C1 s (by omega)
      go_simp
      exact hK
    | 2, ho, hlo, hhi, haf, hun =>
      obtain rfl := Option.some.inj ho
      have hst : s = 0 ∨ s = 1 := by have := hhi 1 (by decide) (.inr (by kernel_rfl)); simp at hsr; omega
      refine step_c (w' := SS s) rfl fun K hK => ?_
      simp only [List.getElem_toArray, List.getElem_cons_succ, List.getElem_cons_zero] at hK ⊢
      clear haf hlo hhi hun ho hsr
      have hc := C2 s (by omega)
      go_simp
      exact hK
    | 3, ho, hlo, hhi, haf, hun =>
      obtain rfl := Option.some.inj ho
      have f2 := getq (show a.tmps.getD 12 undef = .string tn from haf ⟨2, .data⟩ (by simp) rfl 12 rfl)
      refine step_c (w' := SS s) rfl fun K hK => ?_
      simp only [List.getElem_toArray, List.getElem_cons_succ, List.getElem_cons_zero] at hK ⊢
      clear haf hlo hhi hun ho hsr
      go_simp
      refine Calls.mono (HIs.out s) ?_
      rintro e9 w9 ⟨rfl, rfl⟩
      exact hK
    | 4, ho, hlo, hhi, haf, hun =>
      obtain rfl := Option.some.inj ho
      have f0 := getq (show a.tmps.getD 10 undef = .pointer (some ⟨d, 0, none⟩) from haf ⟨0, .data⟩ (by simp) rfl 10 rfl)
      have f1 := getq (show a.tmps.getD 11 undef = .string sn from haf ⟨1, .data⟩ (by simp) rfl 11 rfl)
      have f3 := getq (show a.tmps.getD 13 undef = .bool (isNm tn) from haf ⟨3, .data⟩ (by simp) rfl 13 rfl)
      have hst : s = 0 ∨ s = 1 := by have := hhi 1 (by decide) (.inr (by kernel_rfl)); simp at hsr; omega
      refine step_c (w' := SS s) rfl fun K hK => ?_
      simp only [List.getElem_toArray, List.getElem_cons_succ, List.getElem_cons_zero] at hK ⊢
      clear haf hlo hhi hun ho hsr
      go_simp
      refine Calls.mono (HFs.out s (by omega)) ?_
      rintro e9 w9 ⟨rfl, rfl⟩
      exact hK
    | 5, ho, hlo, hhi, haf, hun =>
      obtain rfl := Option.some.inj ho
      have f4 := getq (show a.tmps.getD 14 undef = .tuple #[.pointer p, .int .i64 (r : Int)] from haf ⟨4, .data⟩ (by simp) rfl 14 rfl)
      refine step_c (w' := SS s) rfl fun K hK => ?_
      simp only [List.getElem_toArray, List.getElem_cons_succ, List.getElem_cons_zero] at hK ⊢
      clear haf hlo hhi hun ho hsr
      go_simp
      exact hK
    | 6, ho, hlo, hhi, haf, hun =>
      obtain rfl := Option.some.inj ho
      have f5 := getq (show a.tmps.getD 9 undef = .tuple #[.pointer p, .int .i64 (r : Int)] from haf ⟨5, .data⟩ (by simp) rfl 9 rfl)
      refine step_c (w' := SS s) rfl fun K hK => ?_
      simp only [List.getElem_toArray, List.getElem_cons_succ, List.getElem_cons_zero] at hK ⊢
      clear haf hlo hhi hun ho hsr
      go_simp
      exact hK
    | 7, ho, hlo, hhi, haf, hun =>
      obtain rfl := Option.some.inj ho
      have f5 := getq (show a.tmps.getD 9 undef = .tuple #[.pointer p, .int .i64 (r : Int)] from haf ⟨5, .data⟩ (by simp) rfl 9 rfl)
      refine step_c (w' := SS s) rfl fun K hK => ?_
      simp only [List.getElem_toArray, List.getElem_cons_succ, List.getElem_cons_zero] at hK ⊢
      clear haf hlo hhi hun ho hsr
      go_simp
      exact hK
    | 8, ho, hlo, hhi, haf, hun =>
      obtain rfl := Option.some.inj ho
      obtain rfl : s = 0 := by have := hhi 0 (by decide) (.inl (by kernel_rfl)); omega
      refine step_c (w' := SS 1) rfl fun K hK => ?_
      simp only [List.getElem_toArray, List.getElem_cons_succ, List.getElem_cons_zero] at hK ⊢
      clear haf hlo hhi hun ho hsr
      rw [HS1.out] at hK
      rw [HS0.out]
      go_simp
      exact hK
    | 9, ho, hlo, hhi, haf, hun =>
      obtain rfl := Option.some.inj ho
      have f8 := getq (show a.tmps.getD 7 undef = .pointer (some ⟨W.heap.size, 0, none⟩) from haf ⟨8, .data⟩ (by simp) rfl 7 rfl)
      have f6 := getq (show a.tmps.getD 15 undef = .pointer p from haf ⟨6, .data⟩ (by simp) rfl 15 rfl)
      obtain rfl : s = 1 := by have := hlo 0 (by decide) (by kernel_rfl); have := hhi 1 (by decide) (.inl (by kernel_rfl)); omega
      refine step_c (w' := SS 2) rfl fun K hK => ?_
      simp only [List.getElem_toArray, List.getElem_cons_succ, List.getElem_cons_zero] at hK ⊢
      clear haf hlo hhi hun ho hsr
      rw [HS2.out] at hK
      go_simp
      exact hK
    | 10, ho, hlo, hhi, haf, hun =>
      obtain rfl := Option.some.inj ho
      have f7 := getq (show a.tmps.getD 16 undef = .int .i64 (r : Int) from haf ⟨7, .data⟩ (by simp) rfl 16 rfl)
      obtain rfl : s = 2 := by have := hlo 1 (by decide) (by kernel_rfl); simp at hsr; omega
      refine step_c (w' := SS 2) rfl fun K hK => ?_
      simp only [List.getElem_toArray, List.getElem_cons_succ, List.getElem_cons_zero] at hK ⊢
      clear haf hlo hhi hun ho hsr
      go_simp
      exact hK
    | n + 11, ho, _, _, _, _ => simp at ho
  · intro aa hdf hsz hout hval
    have hat : aa.tmps = #[Value.pointer (some { block := d, off := 0 }), Value.string sn, Value.string tn, Value.pointer (some { block := w.heap.size, off := 0 }), Value.pointer (some { block := w.heap.size + 1, off := 0 }), Value.pointer (some { block := w.heap.size + 1 + 1, off := 0 }), Value.int IntKind.i64 0, .pointer (some ⟨W.heap.size, 0, none⟩), .int .i64 (r : Int), .tuple #[.pointer p, .int .i64 (r : Int)], .pointer (some ⟨d, 0, none⟩), .string sn, .string tn, .bool (isNm tn), .tuple #[.pointer p, .int .i64 (r : Int)], .pointer p, .int .i64 (r : Int), undef, undef, undef, undef] := by
      refine arr_one (hsz.trans rfl) fun kk hkk => ?_
      match kk, hkk with
      | 0, _ => exact hout 0 (notDst_spec (by kernel_rfl))
      | 1, _ => exact hout 1 (notDst_spec (by kernel_rfl))
      | 2, _ => exact hout 2 (notDst_spec (by kernel_rfl))
      | 3, _ => exact hout 3 (notDst_spec (by kernel_rfl))
      | 4, _ => exact hout 4 (notDst_spec (by kernel_rfl))
      | 5, _ => exact hout 5 (notDst_spec (by kernel_rfl))
      | 6, _ => exact hout 6 (notDst_spec (by kernel_rfl))
      | 7, _ => exact hval 8 7 (by decide) rfl
      | 8, _ => exact hval 10 8 (by decide) rfl
      | 9, _ => exact hval 5 9 (by decide) rfl
      | 10, _ => exact hval 0 10 (by decide) rfl
      | 11, _ => exact hval 1 11 (by decide) rfl
      | 12, _ => exact hval 2 12 (by decide) rfl
      | 13, _ => exact hval 3 13 (by decide) rfl
      | 14, _ => exact hval 4 14 (by decide) rfl
      | 15, _ => exact hval 6 15 (by decide) rfl
      | 16, _ => exact hval 7 16 (by decide) rfl
      | 17, _ => exact hout 17 (notDst_spec (by kernel_rfl))
      | 18, _ => exact hout 18 (notDst_spec (by kernel_rfl))
      | 19, _ => exact hout 19 (notDst_spec (by kernel_rfl))
      | 20, _ => exact hout 20 (notDst_spec (by kernel_rfl))
      | n + 21, h => exact absurd h (by simp)
    obtain ⟨tt, dd⟩ := aa
    simp only at hat hdf
    subst hat hdf
    clear hsz hout hval
    rw [show SS [8, 9].length = V from HV.out]
    go_wp2_with fail
    refine Calls.mono HA.out ?_
    rintro e w2 ⟨rfl, hn⟩
    have HN := hd hn
    clear hn HA
    go_wp2_with fail
    go_ret
    exact ⟨rfl, HN.out⟩
  --END c
end Dk
end Go.Proofs.Ytpjfoinkifkdoaa
