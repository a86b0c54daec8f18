/-
  THE WALKS OF Append.
  THE WALKS OF bytes.Clone and (*file).cut.
-/
import Derived.Test.YtolddolfpnkndaaGreatXuae
namespace Go.Proofs.YtolddolfpnkndaaGreat
open Go.RowKit Go.Maps
namespace Dk
open Vt
attribute [local go_sem ↓] append_hid
theorem cf38 (caps : Array Value) (w : World) : (callFunc 87 caps).run Tryz.prog w = .ok (.enter 87 caps) w := by kernel_rfl
set_option maxRecDepth 100000 in
set_option maxHeartbeats 1000000 in
theorem append1_is (w : World) (d m : Nat) (es : List En) (O : Nat → Prop) (S : Ds) (sn : ByteArray) (e : En) (b1 b2 b3 : Nat) (ua : Option Addr) (uc : Nat) (l : List Nat) (h : DKm w d m es O S) (hf : fnd es sn = some e) (h1 : Blk w b1 TP [.pointer (some ⟨e.blk, 0, none⟩)]) (h2 : Blk w b2 49 [.slice ua l.length uc]) (h3 : Blk w b3 23 [.pointer (some ⟨d, 0, none⟩)]) (hI : IsB w (.slice ua l.length uc) l) (hroom : S.used + l.length ≤ S.cap) :
    Calls Tryz.prog 87 #[.pointer (some ⟨b1, 0, none⟩), .pointer (some ⟨b2, 0, none⟩), .pointer (some ⟨b3, 0, none⟩)] w fun e w2 => (∃ v, e = .returned v) ∧ Nx O w d (gAppend sn l S) w2 := by
  have hmx : Tryz.prog.follows .mixedOrders = true := by kernel_rfl
  obtain ⟨hm, hs⟩ := fnd_mem hf
  obtain ⟨hfb, hJ⟩ := h.file e hm
  obtain ⟨av, cv, hv, hlc⟩ := hJ.shape
  have hed : e.blk ≠ d := blk_ne hfb h.box (by decide)
  have hcap := h.good.cap
  have hle : e.dat.length ≤ S.used := by rw [h.good.used, h.fs]; exact get_len_le (f := e.fi) (by rw [fnd_get, hf]; rfl)
  obtain ⟨a', c', w1, hr, hJ1, hg1, hl1⟩ := run_append_jbl 49 w.drew 0 e.val (.slice ua l.length uc) e.dat l hJ hI (by omega) (Nat.zero_le _)
  rw [hv, append_hid] at hr
  have hk : ∀ b T cs, Blk w b T cs → T ≠ 5 → Blk w1 b T cs := fun b T cs hb hT => Blk.grown (W := w.drew) hb hg1 fun q => jb_ne hJ q.symm hb hT rfl
  obtain ⟨SS, hS0, hS1, hS2⟩ : ∃ SS : Nat → World, SS 0 = w.drew ∧ SS 1 = w1 ∧ SS 2 = w1.setCell ⟨e.blk, 0, none⟩ (.slice a' (e.dat.length + l.length) c') := ⟨fun s => match s with | 0 => w.drew | 1 => w1 | _ => w1.setCell ⟨e.blk, 0, none⟩ (.slice a' (e.dat.length + l.length) c'), rfl, rfl, rfl⟩
  have C1 : ∀ s, s ≤ 1 → (SS s).cell? ⟨b1, 0, none⟩ = some (.pointer (some ⟨e.blk, 0, none⟩)) := by
    intro s hs
    obtain rfl | rfl : s = 0 ∨ s = 1 := by omega
    · rw [hS0]; exact h1.cell 0 _ rfl
    · rw [hS1]; exact (hk _ _ _ h1 (by decide)).cell 0 _ rfl
  have C2 : (SS 0).cell? ⟨e.blk, 0, none⟩ = some (.slice av e.dat.length cv) := by rw [hS0, ← hv]; exact hfb.cell 0 _ rfl
  have C3 : (SS 0).cell? ⟨b2, 0, none⟩ = some (.slice ua l.length uc) := by rw [hS0]; exact h2.cell 0 _ rfl
  have hfb1 := hk _ _ _ hfb (by decide)
  have C4 : (SS 1).cell? ⟨e.blk, 0, none⟩ = some e.val := by rw [hS1]; exact hfb1.cell 0 _ rfl
  have F4 : (SS 1).frozen? ⟨e.blk, 0, none⟩ = false := by rw [hS1]; exact hfb1.frozen 0
  have R1 : (apO #[49, 49] 49 #[.slice av e.dat.length cv, .slice ua l.length uc]).run Tryz.prog (SS 0) = .ok (.slice a' (e.dat.length + l.length) c') (SS 1) := by rw [hS0, hS1]; exact hr
  rw [← hS1] at hS2
  -- the world behind the first region
  have hd1 := hk _ _ _ h.box (by decide)
  have hbd : Blk (SS 2) d TD (cells S m) := by rw [hS2, hS1]; exact hd1.other hed _
  have hb3 : Blk (SS 2) b3 23 [.pointer (some ⟨d, 0, none⟩)] := by rw [hS2, hS1]; exact (hk _ _ _ h3 (by decide)).other (blk_ne hfb h3 (by decide)) _
  have hb2 : Blk (SS 2) b2 49 [.slice ua l.length uc] := by rw [hS2, hS1]; exact (hk _ _ _ h2 (by decide)).other (blk_ne hfb h2 (by decide)) _
  obtain ⟨WW, hWW⟩ : ∃ WW, SS 2 = WW := ⟨_, rfl⟩
  rw [hWW] at hbd hb3 hb2
  obtain ⟨TT, hT0, hT1⟩ : ∃ TT : Nat → World, TT 0 = WW.drew ∧ TT 1 = (TT 0).setCell ⟨d, 1, none⟩ (.int .i64 ((S.used : Int) + (l.length : Int))) := ⟨fun s => match s with | 0 => WW.drew | _ => WW.drew.setCell ⟨d, 1, none⟩ (.int .i64 ((S.used : Int) + (l.length : Int))), rfl, rfl⟩
  have D1 : (TT 0).cell? ⟨b3, 0, none⟩ = some (.pointer (some ⟨d, 0, none⟩)) := by rw [hT0]; exact hb3.cell 0 _ rfl
  have D2 : (TT 0).cell? ⟨b2, 0, none⟩ = some (.slice ua l.length uc) := by rw [hT0]; exact hb2.cell 0 _ rfl
  have D3 : (TT 0).cell? ⟨d, 1, none⟩ = some (.int .i64 (S.used : Int)) := by rw [hT0]; exact hbd.cell 1 _ rfl
  have E3 : (TT 0).frozen? ⟨d, 1, none⟩ = false := by rw [hT0]; exact hbd.frozen 1
  have HFIN : Hid (Nx O w d (gAppend sn l S) (TT 1)) := by
    show Nx O w d (gAppend sn l S) (TT 1)
    have hO1 : Tr O w w1 := (Tr.drew O w).trans (Tr.grown (O := O) hg1 fun k q => (h.own.2.2 e hm).2 k q) fun x q => .inl q
    have hO2 : Tr O w (TT 1) := by
      rw [hT1, hT0, ← hWW, hS2, hS1]
      exact (hO1.trans (Tr.set (O := O) (p := ⟨e.blk, 0, none⟩) (h.own.2.2 e hm).1 _) fun x q => .inl q).trans ((Tr.drew O _).trans (Tr.set (O := O) (p := ⟨d, 1, none⟩) h.own.1 _) fun x q => .inl q) fun x q => .inl q
    have hblk : ∀ b, b ≠ e.blk → b ≠ d → (TT 1).heap[b]? = w1.heap[b]? := by
      intro b q1 q2
      rw [hT1, hT0, set_heap _ _ _ _ _ q2, ← hWW, hS2, hS1]
      exact set_heap _ _ _ _ _ q1
    have hp := h.put (w2 := TT 1) (S' := gAppend sn l S) hf (e' := { e with val := .slice a' (e.dat.length + l.length) c', dat := e.dat ++ l }) rfl rfl
      (fun b hb q1 q2 q3 => (hblk b q1 q2).trans (hg1.block b (h.olt b hb) fun q => q3 q.symm)) hO2.size
      (by rw [hT1, hT0]; exact Blk.set (W := WW.drew) hbd _)
      (by rw [hT1, hT0, ← hWW, hS2, hS1]; exact Blk.other (W := (w1.setCell ⟨e.blk, 0, none⟩ (.slice a' (e.dat.length + l.length) c')).drew) (hfb1.set _) (fun q => hed q.symm) _)
      (JB.same hJ1 fun g hg => hblk g (jb_ne hJ1 hg hfb1 (by decide)) (jb_ne hJ1 hg hd1 (by decide)))
      hl1 (by show upd S.fs sn _ = _; rw [h.fs]; exact (updE_fi fun x hx q => by rw [one_nm h.names hf hx q]; rfl).symm)
      (h.good.upd (u := S.used + l.length) (f := e.fi) (by rw [h.fs, fnd_get, hf]; rfl) (fun _ => rfl) (fun f q => by simp; omega) (by show S.used + l.length + e.dat.length = S.used + (e.dat ++ l).length; rw [List.length_append]; omega) hroom)
    refine ⟨_, ⟨m, _, hp⟩, hO2, fun b q => ?_⟩
    rcases q with q | q
    · exact .inl q
    · rcases hl1 b q with z | z
      · exact .inl ((h.own.2.2 e hm).2 b z)
      · exact .inr z
  have HS0 := hd hS0
  have HS1 := hd hS1
  have HS2 := hd hS2
  have HWW := hd hWW
  have HT0 := hd hT0
  have HT1 := hd hT1
  have hb64 : S.used + l.length ≤ 4194304 := by omega
  have HWR : Hid (IntKind.i64.wrap ((S.used : Int) + (l.length : Int)) = (S.used : Int) + (l.length : Int)) := by show IntKind.i64.wrap _ = _; rw [IntKind.wrap_i64]; omega
  clear hS0 hS1 hS2 hWW hT0 hT1 h h1 h2 h3 hfb hJ hr hJ1 hg1 hl1 hk hfb1 hd1 hbd hb3 hb2 hI hv
  go_enter Tryz.func87, Tryz.ntmps87
  go_wp2_with fail
  --REGION a
  refine region_chain (fun i => match i with
    | 0 => .pointer (some ⟨e.blk, 0, none⟩)
    | 1 => .pointer (some ⟨e.blk, 0, none⟩)
    | 2 => .pointer (some ⟨e.blk, 0, none⟩)
    | 3 => .pointer (some ⟨e.blk, 0, none⟩)
    | 4 => .slice av e.dat.length cv
    | 5 => .slice ua l.length uc
    | 6 => .slice a' (e.dat.length + l.length) c'
    | 7 => .pointer (some ⟨e.blk, 0, none⟩)
    | 8 => .pointer (some ⟨e.blk, 0, none⟩)
    | 9 => undef
    | _ => undef) [6, 9] SS hmx (by kernel_rfl) (by kernel_rfl) (by kernel_rfl) (by kernel_rfl) HS0.out ?_ ?_ (by decide)
  · intro i o ho s a hsr hlo hhi hout haf hun
    have e0 := getq (show a.tmps.getD 0 undef = Value.pointer (some { block := b1, off := 0 }) from hout 0 (notDst_spec (by kernel_rfl)))
    have e1 := getq (show a.tmps.getD 1 undef = Value.pointer (some { block := b2, off := 0 }) from hout 1 (notDst_spec (by kernel_rfl)))
    clear hout
    match i, ho, hlo, hhi, haf, hun with
    | 0, ho, hlo, hhi, haf, hun =>
      obtain rfl := Option.some.inj ho
      have hst : s = 0 ∨ s = 1 := by have := hhi 1 (by decide) (.inr (by kernel_rfl)); simp at hsr; omega
      refine step_c (w' := SS s) rfl fun K hK => ?_
      simp only [List.getElem_toArray, List.getElem_cons_zero] at hK ⊢
      clear haf hlo hhi hun ho hsr
      have hc := C1 s (by omega)
      go_simp
      exact hK
    | 1, ho, hlo, hhi, haf, hun =>
      obtain rfl := Option.some.inj ho
      obtain rfl : s = 0 := by have := hhi 0 (by decide) (.inr (by kernel_rfl)); simp at hsr; omega
      refine step_c (w' := SS 0) rfl fun K hK => ?_
      simp only [List.getElem_toArray, List.getElem_cons_succ, List.getElem_cons_zero] at hK ⊢
      clear haf hlo hhi hun ho hsr
      have hc := C1 0 (by omega)
      go_simp
      exact hK
    | 2, ho, hlo, hhi, haf, hun =>
      obtain rfl := Option.some.inj ho
      have f1 := getq (show a.tmps.getD 4 undef = .pointer (some ⟨e.blk, 0, none⟩) from haf ⟨1, .data⟩ (by simp) rfl 4 rfl)
      obtain rfl : s = 0 := by have := hhi 0 (by decide) (.inr (by kernel_rfl)); simp at hsr; omega
      refine step_c (w' := SS 0) rfl fun K hK => ?_
      simp only [List.getElem_toArray, List.getElem_cons_succ, List.getElem_cons_zero] at hK ⊢
      clear haf hlo hhi hun ho hsr
      go_simp
      exact hK
    | 3, ho, hlo, hhi, haf, hun =>
      obtain rfl := Option.some.inj ho
      have f2 := getq (show a.tmps.getD 5 undef = .pointer (some ⟨e.blk, 0, none⟩) from haf ⟨2, .data⟩ (by simp) rfl 5 rfl)
      obtain rfl : s = 0 := by have := hhi 0 (by decide) (.inr (by kernel_rfl)); simp at hsr; omega
      refine step_c (w' := SS 0) rfl fun K hK => ?_
      simp only [List.getElem_toArray, List.getElem_cons_succ, List.getElem_cons_zero] at hK ⊢
      clear haf hlo hhi hun ho hsr
      go_simp
      exact hK
    | 4, ho, hlo, hhi, haf, hun =>
      obtain rfl := Option.some.inj ho
      have f3 := getq (show a.tmps.getD 6 undef = .pointer (some ⟨e.blk, 0, none⟩) from haf ⟨3, .data⟩ (by simp) rfl 6 rfl)
      obtain rfl : s = 0 := by have := hhi 0 (by decide) (.inr (by kernel_rfl)); simp at hsr; omega
      refine step_c (w' := SS 0) rfl fun K hK => ?_
      simp only [List.getElem_toArray, List.getElem_cons_succ, List.getElem_cons_zero] at hK ⊢
      clear haf hlo hhi hun ho hsr
      go_simp
      exact hK
    | 5, ho, hlo, hhi, haf, hun =>
      obtain rfl := Option.some.inj ho
      obtain rfl : s = 0 := by have := hhi 0 (by decide) (.inr (by kernel_rfl)); simp at hsr; omega
      refine step_c (w' := SS 0) rfl fun K hK => ?_
      simp only [List.getElem_toArray, List.getElem_cons_succ, List.getElem_cons_zero] at hK ⊢
      clear haf hlo hhi hun ho hsr
      go_simp
      exact hK
    | 6, ho, hlo, hhi, haf, hun =>
      obtain rfl := Option.some.inj ho
      have f4 := getq (show a.tmps.getD 7 undef = .slice av e.dat.length cv from haf ⟨4, .data⟩ (by simp) rfl 7 rfl)
      have f5 := getq (show a.tmps.getD 8 undef = .slice ua l.length uc from haf ⟨5, .data⟩ (by simp) rfl 8 rfl)
      obtain rfl : s = 0 := by have := hhi 0 (by decide) (.inl (by kernel_rfl)); omega
      refine step_c (w' := SS 1) rfl fun K hK => ?_
      simp only [List.getElem_toArray, List.getElem_cons_succ, List.getElem_cons_zero] at hK ⊢
      clear haf hlo hhi hun ho hsr
      go_simp
      exact hK
    | 7, ho, hlo, hhi, haf, hun =>
      obtain rfl := Option.some.inj ho
      have f0 := getq (show a.tmps.getD 3 undef = .pointer (some ⟨e.blk, 0, none⟩) from haf ⟨0, .data⟩ (by simp) rfl 3 rfl)
      obtain rfl : s = 1 := by have := hlo 0 (by decide) (by kernel_rfl); have := hhi 1 (by decide) (.inr (by kernel_rfl)); simp at hsr; omega
      refine step_c (w' := SS 1) rfl fun K hK => ?_
      simp only [List.getElem_toArray, List.getElem_cons_succ, List.getElem_cons_zero] at hK ⊢
      clear haf hlo hhi hun ho hsr
      go_simp
      exact hK
    | 8, ho, hlo, hhi, haf, hun =>
      obtain rfl := Option.some.inj ho
      have f7 := getq (show a.tmps.getD 10 undef = .pointer (some ⟨e.blk, 0, none⟩) from haf ⟨7, .data⟩ (by simp) rfl 10 rfl)
      obtain rfl : s = 1 := by have := hlo 0 (by decide) (by kernel_rfl); have := hhi 1 (by decide) (.inr (by kernel_rfl)); simp at hsr; omega
      refine step_c (w' := SS 1) rfl fun K hK => ?_
      simp only [List.getElem_toArray, List.getElem_cons_succ, List.getElem_cons_zero] at hK ⊢
      clear haf hlo hhi hun ho hsr
      go_simp
      exact hK
    | 9, ho, hlo, hhi, haf, hun =>
      obtain rfl := Option.some.inj ho
      have f8 := getq (show a.tmps.getD 11 undef = .pointer (some ⟨e.blk, 0, none⟩) from haf ⟨8, .data⟩ (by simp) rfl 11 rfl)
      have f6 := getq (show a.tmps.getD 9 undef = .slice a' (e.dat.length + l.length) c' from haf ⟨6, .data⟩ (by simp) rfl 9 rfl)
      obtain rfl : s = 1 := by have := hlo 0 (by decide) (by kernel_rfl); have := hhi 1 (by decide) (.inl (by kernel_rfl)); omega
      refine step_c (w' := SS 2) rfl fun K hK => ?_
      simp only [List.getElem_toArray, List.getElem_cons_succ, List.getElem_cons_zero] at hK ⊢
      clear haf hlo hhi hun ho hsr
      rw [HS2.out] at hK
      go_simp
      exact hK
    | n + 10, ho, _, _, _, _ => simp at ho
  · intro aa hdf hsz hout hval
    have hat : aa.tmps = #[Value.pointer (some { block := b1, off := 0 }), Value.pointer (some { block := b2, off := 0 }), Value.pointer (some { block := b3, off := 0 }), .pointer (some ⟨e.blk, 0, none⟩), .pointer (some ⟨e.blk, 0, none⟩), .pointer (some ⟨e.blk, 0, none⟩), .pointer (some ⟨e.blk, 0, none⟩), .slice av e.dat.length cv, .slice ua l.length uc, .slice a' (e.dat.length + l.length) c', .pointer (some ⟨e.blk, 0, none⟩), .pointer (some ⟨e.blk, 0, none⟩), undef, undef, undef, undef, undef, undef, undef, undef, undef] := by
      refine arr_one (hsz.trans rfl) fun kk hkk => ?_
      match kk, hkk with
      | 0, _ => exact hout 0 (notDst_spec (by kernel_rfl))
      | 1, _ => exact hout 1 (notDst_spec (by kernel_rfl))
      | 2, _ => exact hout 2 (notDst_spec (by kernel_rfl))
      | 3, _ => exact hval 0 3 (by decide) rfl
      | 4, _ => exact hval 1 4 (by decide) rfl
      | 5, _ => exact hval 2 5 (by decide) rfl
      | 6, _ => exact hval 3 6 (by decide) rfl
      | 7, _ => exact hval 4 7 (by decide) rfl
      | 8, _ => exact hval 5 8 (by decide) rfl
      | 9, _ => exact hval 6 9 (by decide) rfl
      | 10, _ => exact hval 7 10 (by decide) rfl
      | 11, _ => exact hval 8 11 (by decide) rfl
      | 12, _ => exact hout 12 (notDst_spec (by kernel_rfl))
      | 13, _ => exact hout 13 (notDst_spec (by kernel_rfl))
      | 14, _ => exact hout 14 (notDst_spec (by kernel_rfl))
      | 15, _ => exact hout 15 (notDst_spec (by kernel_rfl))
      | 16, _ => exact hout 16 (notDst_spec (by kernel_rfl))
      | 17, _ => exact hout 17 (notDst_spec (by kernel_rfl))
      | 18, _ => exact hout 18 (notDst_spec (by kernel_rfl))
      | 19, _ => exact hout 19 (notDst_spec (by kernel_rfl))
      | 20, _ => exact hout 20 (notDst_spec (by kernel_rfl))
      | n + 21, h => exact absurd h (by simp)
    obtain ⟨tt, dd⟩ := aa
    simp only at hat hdf
    subst hat hdf
    clear hsz hout hval
    rw [show SS [6, 9].length = WW from HWW.out]
    go_wp2_with fail
    --REGION b
    refine region_chain (fun i => match i with
      | 0 => .pointer (some ⟨d, 0, none⟩)
      | 1 => .pointer (some ⟨d, 0, none⟩)
      | 2 => .pointer (some ⟨d, 1, none⟩)
      | 3 => .int .i64 (S.used : Int)
      | 4 => .slice ua l.length uc
      | 5 => .int .i64 (l.length : Int)
      | 6 => .int .i64 ((S.used : Int) + (l.length : Int))
      | 7 => .pointer (some ⟨d, 0, none⟩)
      | 8 => .pointer (some ⟨d, 1, none⟩)
      | 9 => undef
      | _ => undef) [9] TT hmx (by kernel_rfl) (by kernel_rfl) (by kernel_rfl) (by kernel_rfl) HT0.out ?_ ?_ (by decide)
    · intro i o ho s a hsr hlo hhi hout haf hun
      have e1 := getq (show a.tmps.getD 1 undef = Value.pointer (some { block := b2, off := 0 }) from hout 1 (notDst_spec (by kernel_rfl)))
      have e2 := getq (show a.tmps.getD 2 undef = Value.pointer (some { block := b3, off := 0 }) from hout 2 (notDst_spec (by kernel_rfl)))
      clear hout
      match i, ho, hlo, hhi, haf, hun with
      | 0, ho, hlo, hhi, haf, hun =>
        obtain rfl := Option.some.inj ho
        obtain rfl : s = 0 := by have := hhi 0 (by decide) (.inr (by kernel_rfl)); simp at hsr; omega
        refine step_c (w' := TT 0) rfl fun K hK => ?_
        simp only [List.getElem_toArray, List.getElem_cons_zero] at hK ⊢
        clear haf hlo hhi hun ho hsr
        go_simp
        exact hK
      | 1, ho, hlo, hhi, haf, hun =>
        obtain rfl := Option.some.inj ho
        have f0 := getq (show a.tmps.getD 12 undef = .pointer (some ⟨d, 0, none⟩) from haf ⟨0, .data⟩ (by simp) rfl 12 rfl)
        obtain rfl : s = 0 := by have := hhi 0 (by decide) (.inr (by kernel_rfl)); simp at hsr; omega
        refine step_c (w' := TT 0) rfl fun K hK => ?_
        simp only [List.getElem_toArray, List.getElem_cons_succ, List.getElem_cons_zero] at hK ⊢
        clear haf hlo hhi hun ho hsr
        go_simp
        exact hK
      | 2, ho, hlo, hhi, haf, hun =>
        obtain rfl := Option.some.inj ho
        have f1 := getq (show a.tmps.getD 13 undef = .pointer (some ⟨d, 0, none⟩) from haf ⟨1, .data⟩ (by simp) rfl 13 rfl)
        obtain rfl : s = 0 := by have := hhi 0 (by decide) (.inr (by kernel_rfl)); simp at hsr; omega
        refine step_c (w' := TT 0) rfl fun K hK => ?_
        simp only [List.getElem_toArray, List.getElem_cons_succ, List.getElem_cons_zero] at hK ⊢
        clear haf hlo hhi hun ho hsr
        go_simp
        exact hK
      | 3, ho, hlo, hhi, haf, hun =>
        obtain rfl := Option.some.inj ho
        have f2 := getq (show a.tmps.getD 14 undef = .pointer (some ⟨d, 1, none⟩) from haf ⟨2, .data⟩ (by simp) rfl 14 rfl)
        obtain rfl : s = 0 := by have := hhi 0 (by decide) (.inr (by kernel_rfl)); simp at hsr; omega
        refine step_c (w' := TT 0) rfl fun K hK => ?_
        simp only [List.getElem_toArray, List.getElem_cons_succ, List.getElem_cons_zero] at hK ⊢
        clear haf hlo hhi hun ho hsr
        go_simp
        exact hK
      | 4, ho, hlo, hhi, haf, hun =>
        obtain rfl := Option.some.inj ho
        obtain rfl : s = 0 := by have := hhi 0 (by decide) (.inr (by kernel_rfl)); simp at hsr; omega
        refine step_c (w' := TT 0) rfl fun K hK => ?_
        simp only [List.getElem_toArray, List.getElem_cons_succ, List.getElem_cons_zero] at hK ⊢
        clear haf hlo hhi hun ho hsr
        go_simp
        exact hK
      | 5, ho, hlo, hhi, haf, hun =>
        obtain rfl := Option.some.inj ho
        have f4 := getq (show a.tmps.getD 16 undef = .slice ua l.length uc from haf ⟨4, .data⟩ (by simp) rfl 16 rfl)
        obtain rfl : s = 0 := by have := hhi 0 (by decide) (.inr (by kernel_rfl)); simp at hsr; omega
        refine step_c (w' := TT 0) rfl fun K hK => ?_
        simp only [List.getElem_toArray, List.getElem_cons_succ, List.getElem_cons_zero] at hK ⊢
        clear haf hlo hhi hun ho hsr
        go_simp
        exact hK
      | 6, ho, hlo, hhi, haf, hun =>
        obtain rfl := Option.some.inj ho
        have f3 := getq (show a.tmps.getD 15 undef = .int .i64 (S.used : Int) from haf ⟨3, .data⟩ (by simp) rfl 15 rfl)
        have f5 := getq (show a.tmps.getD 17 undef = .int .i64 (l.length : Int) from haf ⟨5, .data⟩ (by simp) rfl 17 rfl)
        obtain rfl : s = 0 := by have := hhi 0 (by decide) (.inr (by kernel_rfl)); simp at hsr; omega
        refine step_c (w' := TT 0) rfl fun K hK => ?_
        simp only [List.getElem_toArray, List.getElem_cons_succ, List.getElem_cons_zero] at hK ⊢
        clear haf hlo hhi hun ho hsr
        go_simp
        rw [HWR.out]
        exact hK
      | 7, ho, hlo, hhi, haf, hun =>
        obtain rfl := Option.some.inj ho
        have f0 := getq (show a.tmps.getD 12 undef = .pointer (some ⟨d, 0, none⟩) from haf ⟨0, .data⟩ (by simp) rfl 12 rfl)
        obtain rfl : s = 0 := by have := hhi 0 (by decide) (.inr (by kernel_rfl)); simp at hsr; omega
        refine step_c (w' := TT 0) rfl fun K hK => ?_
        simp only [List.getElem_toArray, List.getElem_cons_succ, List.getElem_cons_zero] at hK ⊢
        clear haf hlo hhi hun ho hsr
        go_simp
        exact hK
      | 8, ho, hlo, hhi, haf, hun =>
        obtain rfl := Option.some.inj ho
        have f7 := getq (show a.tmps.getD 19 undef = .pointer (some ⟨d, 0, none⟩) from haf ⟨7, .data⟩ (by simp) rfl 19 rfl)
        obtain rfl : s = 0 := by have := hhi 0 (by decide) (.inr (by kernel_rfl)); simp at hsr; omega
        refine step_c (w' := TT 0) rfl fun K hK => ?_
        simp only [List.getElem_toArray, List.getElem_cons_succ, List.getElem_cons_zero] at hK ⊢
        clear haf hlo hhi hun ho hsr
        go_simp
        exact hK
      | 9, ho, hlo, hhi, haf, hun =>
        obtain rfl := Option.some.inj ho
        have f8 := getq (show a.tmps.getD 20 undef = .pointer (some ⟨d, 1, none⟩) from haf ⟨8, .data⟩ (by simp) rfl 20 rfl)
        have f6 := getq (show a.tmps.getD 18 undef = .int .i64 ((S.used : Int) + (l.length : Int)) from haf ⟨6, .data⟩ (by simp) rfl 18 rfl)
        obtain rfl : s = 0 := by have := hhi 0 (by decide) (.inl (by kernel_rfl)); omega
        refine step_c (w' := TT 1) rfl fun K hK => ?_
        simp only [List.getElem_toArray, List.getElem_cons_succ, List.getElem_cons_zero] at hK ⊢
        clear haf hlo hhi hun ho hsr
        rw [HT1.out] at hK
        go_simp
        exact hK
      | n + 10, ho, _, _, _, _ => simp at ho
    · intro aa hdf hsz hout hval
      have hat : aa.tmps = #[Value.pointer (some { block := b1, off := 0 }), Value.pointer (some { block := b2, off := 0 }), Value.pointer (some { block := b3, off := 0 }), Value.pointer (some { block := e.blk, off := 0 }), Value.pointer (some { block := e.blk, off := 0 }), Value.pointer (some { block := e.blk, off := 0 }), Value.pointer (some { block := e.blk, off := 0 }), Value.slice av e.dat.length cv, Value.slice ua l.length uc, Value.slice a' (e.dat.length + l.length) c', Value.pointer (some { block := e.blk, off := 0 }), Value.pointer (some { block := e.blk, off := 0 }), .pointer (some ⟨d, 0, none⟩), .pointer (some ⟨d, 0, none⟩), .pointer (some ⟨d, 1, none⟩), .int .i64 (S.used : Int), .slice ua l.length uc, .int .i64 (l.length : Int), .int .i64 ((S.used : Int) + (l.length : Int)), .pointer (some ⟨d, 0, none⟩), .pointer (some ⟨d, 1, none⟩)] := by
        refine arr_one (hsz.trans rfl) fun kk hkk => ?_
        match kk, hkk with
        | 0, _ => exact hout 0 (notDst_spec (by kernel_rfl))
        | 1, _ => exact hout 1 (notDst_spec (by kernel_rfl))
        | 2, _ => exact hout 2 (notDst_spec (by kernel_rfl))
        | 3, _ => exact hout 3 (notDst_spec (by kernel_rfl))
        | 4, _ => exact hout 4 (notDst_spec (by kernel_rfl))
        | 5, _ => exact hout 5 (notDst_spec (by kernel_rfl))
        | 6, _ => exact hout 6 (notDst_spec (by kernel_rfl))
        | 7, _ => exact hout 7 (notDst_spec (by kernel_rfl))
        | 8, _ => exact hout 8 (notDst_spec (by kernel_rfl))
        | 9, _ => exact hout 9 (notDst_spec (by kernel_rfl))
        | 10, _ => exact hout 10 (notDst_spec (by kernel_rfl))
        | 11, _ => exact hout 11 (notDst_spec (by kernel_rfl))
        | 12, _ => exact hval 0 12 (by decide) rfl
        | 13, _ => exact hval 1 13 (by decide) rfl
        | 14, _ => exact hval 2 14 (by decide) rfl
        | 15, _ => exact hval 3 15 (by decide) rfl
        | 16, _ => exact hval 4 16 (by decide) rfl
        | 17, _ => exact hval 5 17 (by decide) rfl
        | 18, _ => exact hval 6 18 (by decide) rfl
        | 19, _ => exact hval 7 19 (by decide) rfl
        | 20, _ => exact hval 8 20 (by decide) rfl
        | n + 21, h => exact absurd h (by simp)
      obtain ⟨tt, dd⟩ := aa
      simp only at hat hdf
      subst hat hdf
      clear hsz hout hval
      rw [show TT [9].length = TT 1 from rfl]
      go_end0
      exact ⟨⟨_, rfl⟩, HFIN.out⟩
    --END b
  --END a
theorem rAppend_no {S : Ds} {s : ByteArray} {l : List Nat} (h : look S s true ≠ 0) : rAppend S s l = look S s true := by unfold rAppend; rw [if_pos h]
theorem rAppend_in {S : Ds} {s : ByteArray} {l : List Nat} (h : look S s true = 0) : rAppend S s l = if S.cap - S.used < l.length then 73 else 0 := by unfold rAppend; rw [if_neg (by omega)]
set_option maxRecDepth 100000 in
set_option maxHeartbeats 1000000 in
theorem append_is (w : World) (d : Nat) (O : Nat → Prop) (S : Ds) (s : ByteArray) (u : Value) (l : List Nat) (h : DK w d O S) (ha : S.acts < 4611686018427387904) (hI : IsB w u l) (hn : l ≠ [] → ∀ b off n c, u = .slice (some ⟨b, off, none⟩) n c → b ≠ d) :
    Calls Tryz.prog 57 #[.pointer (some ⟨d, 0, none⟩), .string s, u] w fun e w' => e = .returned (.int .i64 ((append S s l).1 : Int)) ∧ Nx O w d (append S s l).2 w' := by
  obtain ⟨m, es, h⟩ := h
  obtain ⟨ua, uc, rfl⟩ := hI.shape
  obtain ⟨W, hW⟩ : ∃ W, W = (w.alloc (.cells #[.pointer (some ⟨d, 0, none⟩)] 23)).alloc (.cells #[.slice ua l.length uc] 49) := ⟨_, rfl⟩
  have hK : DKm W d m es O S := by rw [hW]; exact (h.alloc _).alloc _
  have htW : Tr O w W := by rw [hW]; exact (Tr.alloc O w _).trans (Tr.alloc O _ _) fun x q => .inl q
  have hb1 : Blk W w.heap.size 23 [.pointer (some ⟨d, 0, none⟩)] := by rw [hW]; exact (Blk.new w _ [.pointer (some ⟨d, 0, none⟩)]).alloc _
  have hb2 : Blk W (w.heap.size + 1) 49 [.slice ua l.length uc] := by
    rw [hW]
    have := Blk.new (w.alloc (.cells #[.pointer (some ⟨d, 0, none⟩)] 23)) 49 [.slice ua l.length uc]
    rwa [alloc_size] at this
  have hWs : W.heap.size = w.heap.size + 2 := by rw [hW, alloc_size, alloc_size]
  have hIW : IsB W (.slice ua l.length uc) l := by rw [hW]; exact hI.below (((Below.refl _ w).alloc (Nat.le_refl _) _).alloc (by simp) _)
  obtain ⟨p, hp, hp0⟩ := fans_eq hK s true
  have HF := hd (find_is W d m es O S s true hK)
  rw [hp] at HF
  have HA : Hid (∀ n, Calls Tryz.prog 62 #[.pointer (some ⟨d, 0, none⟩), .int .i64 (rAppend S s l : Int), .func (.func 87) #[] #[.pointer (some ⟨w.heap.size + 2, 0, none⟩), .pointer (some ⟨w.heap.size + 1, 0, none⟩), .pointer (some ⟨w.heap.size, 0, none⟩)]] ((W.alloc (.cells #[.pointer p] TP)).drewN n) fun e w' => e = .returned (.int .i64 ((append S s l).1 : Int)) ∧ Nx O w d (append S s l).2 w') := by
    intro n
    refine (act_nx _ d m es O S _ _ (rAppend S s l) (gAppend s l) ((hK.alloc _).drewN n) ha (cf38 _) ?_).mono ?_
    · intro h0 w1 ht h1
      have hz : look S s true = 0 := by
        by_cases q : look S s true = 0
        · exact q
        · rw [rAppend_no q] at h0; exact absurd h0 q
      rw [rAppend_in hz] at h0
      have hrm : S.used + l.length ≤ S.cap := by
        have := h.good.room
        by_cases q : S.cap - S.used < l.length
        · rw [if_pos q] at h0; omega
        · omega
      obtain ⟨e, hfe, rfl, _⟩ := hp0 hz
      have hb3 : Blk (W.alloc (.cells #[.pointer (some ⟨e.blk, 0, none⟩)] TP)) (w.heap.size + 2) TP [.pointer (some ⟨e.blk, 0, none⟩)] := by
        have := Blk.new W TP [.pointer (some ⟨e.blk, 0, none⟩)]
        rwa [hWs] at this
      have hdl := h.box.lt
      refine append1_is w1 d m es O (tick S) s e _ _ _ ua uc l h1 hfe ((ht.block _ hb3.lt (by omega)).trans hb3) ((ht.block _ (hb2.alloc _).lt (by omega)).trans (hb2.alloc _)) ((ht.block _ (hb1.alloc _).lt (by omega)).trans (hb1.alloc _)) ?_ hrm
      have hIA : IsB (W.alloc (.cells #[.pointer (some ⟨e.blk, 0, none⟩)] TP)) (.slice ua l.length uc) l := hIW.below ((Below.refl _ W).alloc (Nat.le_refl _) _)
      obtain ⟨q1, q2, q3 | ⟨b, off, c, q3, q4, q5, q6, q7⟩⟩ := hIA
      · exact ⟨q1, q2, .inl q3⟩
      · by_cases hl0 : l = []
        · subst hl0; exact isK_nil _ _ _ _ _
        have hbd : b ≠ d := hn hl0 b off l.length c q3
        exact ⟨q1, q2, .inr ⟨b, off, c, q3, q4, q5, Nat.lt_of_lt_of_le q6 ht.size, fun i hi => (World.cell?_of_block (ht.block b q6 hbd)).trans (q7 i hi)⟩⟩
    · rintro e w' ⟨rfl, hn⟩
      exact ⟨rfl, hn.after ((htW.trans (Tr.alloc O W _) fun x q => .inl q).trans (Tr.drewN O _ n) fun x q => .inl q)⟩
  obtain ⟨V, hV⟩ : ∃ V, V = W.alloc (.cells #[.pointer p] TP) := ⟨_, rfl⟩
  have hKV : DKm V d m es O S := by rw [hV]; exact hK.alloc _
  have cw : W.cell? ⟨w.heap.size, 0, none⟩ = some (.pointer (some ⟨d, 0, none⟩)) := hb1.cell 0 _ rfl
  have c0 : ∀ n, (V.drewN n).cell? ⟨w.heap.size, 0, none⟩ = some (.pointer (some ⟨d, 0, none⟩)) := fun n => by rw [hV]; exact (hb1.alloc _).cell 0 _ rfl
  have c1 : ∀ n, (V.drewN n).cell? ⟨w.heap.size + 1, 0, none⟩ = some (.slice ua l.length uc) := fun n => by rw [hV]; exact (hb2.alloc _).cell 0 _ rfl
  have c2 : ∀ n, (V.drewN n).cell? ⟨d, 0, none⟩ = some (.int .i64 (S.cap : Int)) := fun n => (hKV.drewN n).box.cell 0 _ rfl
  have c3 : ∀ n, (V.drewN n).cell? ⟨d, 1, none⟩ = some (.int .i64 (S.used : Int)) := fun n => (hKV.drewN n).box.cell 1 _ rfl
  rw [← hV] at HA
  have HW := hd hW
  have HV := hd hV
  have hWs' := hd hWs
  have hroom := h.good.room
  have hcap := h.good.cap
  obtain ⟨r, hr⟩ : ∃ r, look S s true = r := ⟨_, rfl⟩
  rw [hr] at HF
  have HR := hd hr
  have hlm : l.length ≤ maxLen := hI.2.1
  unfold maxLen at hlm
  clear h hW hV hK hKV htW hb1 hb2 hp hp0 hI hIW hr hWs hn
  go_enter Tryz.func57, Tryz.ntmps57
  go_wp2_with fail
  rw [← HW.out]
  refine Calls.mono HF.out ?_
  rintro e w1 ⟨rfl, rfl⟩
  go_wp2_with fail
  rw [hWs'.out, ← HV.out]
  by_cases hr0 : r = 0
  · subst hr0
    have HRA := hd (rAppend_in (l := l) HR.out)
    by_cases hlt : S.cap - S.used < l.length
    · have hlt' : (S.cap : Int) - (S.used : Int) < (l.length : Int) := by omega
      have HRB : Hid (rAppend S s l = 73) := by show _ = _; rw [HRA.out, if_pos hlt]
      rw [HRB.out] at HA
      go_quiet (fail)
      go_wp2_with fail
      refine Calls.mono (HA.out _) ?_
      rintro e w1 ⟨rfl, hn⟩
      have HN := hd hn
      clear hn HA
      go_wp2_with fail
      go_ret
      exact ⟨rfl, HN.out⟩
    · have hlt' : ¬ (S.cap : Int) - (S.used : Int) < (l.length : Int) := by omega
      have HRB : Hid (rAppend S s l = 0) := by show _ = _; rw [HRA.out, if_neg hlt]
      rw [HRB.out] at HA
      go_quiet (fail)
      go_wp2_with fail
      refine Calls.mono (HA.out _) ?_
      rintro e w1 ⟨rfl, hn⟩
      have HN := hd hn
      clear hn HA
      go_wp2_with fail
      go_ret
      exact ⟨rfl, HN.out⟩
  · have hr0' : ¬ ((r : Int) = 0) := by omega
    have HRB : Hid (rAppend S s l = r) := by show _ = _; rw [rAppend_no (by rw [HR.out]; exact hr0), HR.out]
    rw [HRB.out] at HA
    go_quiet (fail)
    go_wp2_with fail
    refine Calls.mono (HA.out _) ?_
    rintro e w1 ⟨rfl, hn⟩
    have HN := hd hn
    clear hn HA
    go_wp2_with fail
    go_ret
    exact ⟨rfl, HN.out⟩
end Dk
end Go.Proofs.YtolddolfpnkndaaGreat
namespace Go.Proofs.YtolddolfpnkndaaGreat
open Go.RowKit Go.Maps
namespace Dk
open Vt
attribute [local go_sem ↓] append_hid
theorem jb_empty (w : World) : JB (w.alloc (.cells #[] 5)) 0 (.slice (some ⟨w.heap.size, 0, none⟩) 0 0) [] :=
  ⟨byt_nil, rfl, .inr ⟨w.heap.size, 0, #[], rfl, Nat.zero_le _, (MapKept.heap_alloc w _).1, Nat.le_refl _, by decide, rfl, rfl⟩⟩
/-- what Clone leaves -/
def Cl (w : World) (l : List Nat) (e : Ending) (w' : World) : Prop := ∃ a' c', e = .returned (.slice a' l.length c') ∧ JB w' 0 (.slice a' l.length c') l ∧ w.grownBy w' none ∧ ∀ g, (Value.slice a' l.length c').ownBlock = some g → w.heap.size ≤ g
set_option maxRecDepth 100000 in
theorem clone_is (w : World) (v : Value) (l : List Nat) (hI : IsB w v l) (hl : l.length ≤ 140737488355328) : Calls Tryz.prog 47 #[v] w fun e w' => Cl w l e w' := by
  obtain ⟨a, c, rfl⟩ := hI.shape
  cases a with
  | none =>
    obtain rfl : l = [] := by
      obtain ⟨_, _, ⟨h, _⟩ | ⟨b, off, c', h, _⟩⟩ := hI
      · exact h
      · cases h
    have he : ∀ w : World, (binOp .eql 49 (.slice none 0 c) (.slice none 0 0)).run Tryz.prog w = .ok (.bool true) w := fun _ => rfl
    go_enter Tryz.func47, Tryz.ntmps47
    go_wp2_with fail
    go_ret
    exact ⟨none, 0, rfl, jb_nil _ _, World.grownBy.refl _ _, fun g q => by cases q⟩
  | some x =>
    have hI1 : IsB (w.alloc (.cells #[] 5)) (.slice (some x) l.length c) l := hI.below ((Below.refl _ w).alloc (Nat.le_refl _) _)
    obtain ⟨a', c', w1, hr, hJ1, hg1, hl1⟩ := run_append_jbl 49 (w.alloc (.cells #[] 5)) 0 _ _ [] l (jb_empty w) hI1 (by simpa using hl) (Nat.zero_le _)
    rw [append_hid] at hr
    simp only [List.length_nil, Nat.zero_add, List.nil_append] at hr hJ1 hl1
    have HJ : Hid (Cl w l (.returned (.slice a' l.length c')) w1) := by
      refine ⟨a', c', rfl, hJ1, ?_, fun g q => ?_⟩
      · refine ⟨hg1.os, hg1.tape, hg1.output, by have := hg1.size; rw [alloc_size] at this; omega, fun k hk _ => ?_⟩
        rw [hg1.block k (by rw [alloc_size]; omega) (fun q => by simp [Value.ownBlock] at q; omega)]
        exact (MapKept.heap_alloc w _).2 k hk
      · rcases hl1 g q with z | z
        · simp [Value.ownBlock] at z; omega
        · rw [alloc_size] at z; omega
    clear hJ1 hg1 hl1 hI hI1
    have he : ∀ w : World, (binOp .eql 49 (.slice (some x) l.length c) (.slice none 0 0)).run Tryz.prog w = .ok (.bool false) w := fun _ => rfl
    go_enter Tryz.func47, Tryz.ntmps47
    go_wp2_with fail
    go_ret
    exact HJ.out
set_option maxRecDepth 100000 in
theorem cut_is (w : World) (fb : Nat) (v : Value) (dat : List Nat) (las n : Nat) (hb : Blk w fb TF [v, .int .i64 (las : Int)]) (hJ : JB w 0 v dat) (hn : n ≤ dat.length) (hl : dat.length ≤ 140737488355328) :
    Calls Tryz.prog 32 #[.pointer (some ⟨fb, 0, none⟩), .int .i64 (n : Int)] w fun e w' => (∃ u, e = .returned u) ∧ ∃ v', Blk w' fb TF [v', .int .i64 ((min las n : Nat) : Int)] ∧ JB w' 0 v' (dat.take n) ∧ Tr (fun b => b = fb) w w' ∧ ∀ g, v'.ownBlock = some g → w.heap.size ≤ g := by
  obtain ⟨a, c, rfl, hlc⟩ := hJ.shape
  have hlen : (dat.take n).length = n := by rw [List.length_take]; omega
  have HC := hd (clone_is w (.slice a n c) (dat.take n) (hJ.isB.take n hn) (by omega))
  have c0 := hb.cell 0 _ rfl
  have HB := hd hb
  have hcm : c ≤ 2 ^ 63 - 1 := by
    obtain ⟨_, _, ⟨q2, _⟩ | ⟨g', cap, cur, q2, _, _, _, q5, _⟩⟩ := hJ
    · injection q2 with _ _ q2; omega
    · injection q2 with _ _ q2; unfold maxLen at q5; omega
  clear hb
  go_enter Tryz.func32, Tryz.ntmps32
  go_wp2_with fail
  refine Calls.mono HC.out ?_
  rintro e w1 ⟨a', c', rfl, hJ1, hg1, hl1⟩
  rw [hlen] at hJ1 hl1 ⊢
  have hb1 := HB.out.grown hg1 (by simp)
  have d0 := hb1.cell 0 _ rfl
  have g0 := hb1.frozen 0
  have d1 := hb1.cell 1 _ rfl
  have g1 := hb1.frozen 1
  have HJ1 := hd hJ1
  have HG1 := hd hg1
  have HL1 := hd hl1
  have HB1 := hd hb1
  clear hJ1 hg1 hl1 hb1
  have FIN : ∀ k : Int, k = ((min las n : Nat) : Int) → (∃ v', Blk ((w1.setCell ⟨fb, 0, none⟩ (.slice a' n c')).setCell ⟨fb, 1, none⟩ (.int .i64 k)) fb TF [v', .int .i64 ((min las n : Nat) : Int)] ∧ JB ((w1.setCell ⟨fb, 0, none⟩ (.slice a' n c')).setCell ⟨fb, 1, none⟩ (.int .i64 k)) 0 v' (dat.take n) ∧ Tr (fun b => b = fb) w ((w1.setCell ⟨fb, 0, none⟩ (.slice a' n c')).setCell ⟨fb, 1, none⟩ (.int .i64 k)) ∧ ∀ g, v'.ownBlock = some g → w.heap.size ≤ g) := by
    rintro k rfl
    refine ⟨.slice a' n c', (HB1.out.set _).set _, JB.same HJ1.out fun g hg => ?_, ?_, HL1.out⟩
    · have := jb_ne HJ1.out hg HB1.out (by decide)
      rw [set_heap _ _ _ _ _ this, set_heap _ _ _ _ _ this]
    · exact (Tr.grown (O := fun b => b = fb) HG1.out (fun k q => by cases q)).trans ((Tr.set (O := fun b => b = fb) (p := ⟨fb, 0, none⟩) rfl _).trans (Tr.set (O := fun b => b = fb) (p := ⟨fb, 1, none⟩) rfl _) fun x q => .inl q) fun x q => .inl q
  have HFIN := hd FIN
  clear FIN hlen
  go_wp2_with fail
  all_goals
    go_end0
    exact ⟨⟨_, rfl⟩, HFIN.out _ (by omega)⟩
/-! ### a slice's beginning, its end, min and max, as words of our own -/
def slO (t : TypeId) (x : Value) (lo hi mx : Option Value) : Sem Value := Instr.slice t x lo hi mx
theorem slice_hid (t : TypeId) (x : Value) (lo hi mx : Option Value) : Instr.slice t x lo hi mx = slO t x lo hi mx := rfl
def mnO (ts : Array TypeId) (t : TypeId) (a : Array Value) : Sem Value := Builtin.min_ ts t a
theorem min_hid (ts : Array TypeId) (t : TypeId) (a : Array Value) : Builtin.min_ ts t a = mnO ts t a := rfl
def mxO (ts : Array TypeId) (t : TypeId) (a : Array Value) : Sem Value := Builtin.max_ ts t a
theorem max_hid (ts : Array TypeId) (t : TypeId) (a : Array Value) : Builtin.max_ ts t a = mxO ts t a := rfl
theorem run_mnO (ts : Array TypeId) (t : TypeId) (x y : Int) (z : Int) (hz : z = if y < x then y else x) (w : World) : (mnO ts t #[.int .i64 x, .int .i64 y]).run Tryz.prog w = .ok (.int .i64 z) w := by
  rw [hz]; exact run_min_int2 w ts t .i64 .i64 x y
theorem run_mxO (ts : Array TypeId) (t : TypeId) (x y : Int) (z : Int) (hz : z = if y > x then y else x) (w : World) : (mxO ts t #[.int .i64 x, .int .i64 y]).run Tryz.prog w = .ok (.int .i64 z) w := by
  rw [hz]; exact run_max_int2 w ts t .i64 .i64 x y
theorem elem8 : Tryz.prog.elem 49 = 5 := by kernel_rfl
theorem size8 (w : World) : (sizeOf 5).run Tryz.prog w = .ok 1 w := by kernel_rfl
/-- of a list the elements from k on -/
theorem run_slO_from {w0 : World} {base : Nat} {v : Value} {l : List Nat} (hJ : JB w0 base v l) (k : Nat) (hk : k ≤ l.length) : ∃ va vc, (∀ w, (slO 49 v (some (.int .i64 (k : Int))) none none).run Tryz.prog w = .ok (.slice va (l.length - k) vc) w) ∧ IsB w0 (.slice va (l.length - k) vc) (l.drop k) := by
  have hB := hJ.isB
  obtain ⟨a, c, rfl, hlc⟩ := hJ.shape
  have hr : ∀ w, (slO 49 (.slice a l.length c) (some (.int .i64 (k : Int))) none none).run Tryz.prog w = .ok (sliced a k l.length c 1) w := by
    intro w
    have := run_slice_l (P := Tryz.prog) w 49 a l.length c (by rw [elem8]; exact Tryz.underlying49) .i64 (k : Int) (by omega) (by omega)
    rw [elem8, size8] at this
    exact this
  refine ⟨_, _, hr, ?_⟩
  cases a with
  | none =>
    have hl0 : l = [] := by
      obtain ⟨_, _, ⟨h, _⟩ | ⟨b, off, c', h, _⟩⟩ := hB
      · exact h
      · cases h
    subst hl0
    have : k = 0 := by simpa using hk
    subst this
    simp only [List.length_nil, Nat.sub_zero, List.drop_nil]
    exact isK_nil _ _ _ _ _
  | some x =>
    obtain ⟨g, rfl⟩ : ∃ g, x = ⟨g, 0, none⟩ := by
      obtain ⟨_, _, ⟨q, _⟩ | ⟨g', cap, cur, q, _⟩⟩ := hJ
      · cases q
      · injection q with q; injection q with q; exact ⟨_, q⟩
    have := hB.dropIf k hk hlc
    simp only [Option.map_some, Nat.mul_one, add_at]
    exact this
/-- of a list the first k elements -/
theorem run_slO_to {w0 : World} {a : Option Addr} {c : Nat} {l : List Nat} (hB : IsB w0 (.slice a l.length c) l) (hc : l.length ≤ c) (k : Nat) (hk : k ≤ l.length) : (∀ w, (slO 49 (.slice a l.length c) none (some (.int .i64 (k : Int))) none).run Tryz.prog w = .ok (.slice a k c) w) ∧ IsB w0 (.slice a k c) (l.take k) := by
  refine ⟨fun w => ?_, IsK.take hB k hk⟩
  have := run_slice_h (P := Tryz.prog) w 49 a l.length c (by rw [elem8]; exact Tryz.underlying49) .i64 (k : Int) (by omega) (by omega)
  rw [elem8, size8] at this
  have e : (if c = 0 then a else a.map (·.add (0 * 1))) = a := by
    cases a with
    | none => split <;> rfl
    | some x =>
      split
      · rfl
      · rw [Nat.zero_mul]; simp [Addr.add]
  have e2 : sliced a 0 ((k : Int)).toNat c 1 = .slice a k c := by
    unfold sliced
    rw [e, Int.toNat_natCast, Nat.sub_zero, Nat.sub_zero]
  rw [← e2]
  exact this
end Dk
end Go.Proofs.YtolddolfpnkndaaGreat
