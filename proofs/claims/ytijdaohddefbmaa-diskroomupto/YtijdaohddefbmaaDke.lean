/-
  THE WALKS OF Remove and Truncate.
-/
import Derived.Test.YtijdaohddefbmaaDkd
namespace Go.Proofs.Ytijdaohddefbmaa
open Go.RowKit Go.Maps
namespace Dk
open Vt
theorem cf52 (caps : Array Value) (w : World) : (callFunc 46 caps).run Try.prog w = .ok (.enter 46 caps) w := by kernel_rfl
theorem cf53 (caps : Array Value) (w : World) : (callFunc 47 caps).run Try.prog w = .ok (.enter 47 caps) w := by kernel_rfl
theorem DKm.len_le {w : World} {d m : Nat} {es : List En} {O : Nat → Prop} {S : Ds} (h : DKm w d m es O S) {s : ByteArray} {e : En} (hf : fnd es s = some e) : e.dat.length ≤ S.used := by
  rw [h.good.used, h.fs]; exact get_len_le (f := e.fi) (by rw [fnd_get, hf]; rfl)
set_option maxRecDepth 100000 in
theorem remove1_is (w : World) (d m : Nat) (es : List En) (O : Nat → Prop) (S : Ds) (s : ByteArray) (b1 b2 : Nat) (h : DKm w d m es O S) (h1 : Blk w b1 23 [.pointer (some ⟨d, 0, none⟩)]) (h2 : Blk w b2 TS [.string s]) (hs : s.size ≤ maxLen) :
    Calls Try.prog 46 #[.pointer (some ⟨b1, 0, none⟩), .pointer (some ⟨b2, 0, none⟩)] w fun e w2 => (∃ v, e = .returned v) ∧ Nx O w d (gRemove s S) w2 := by
  have hcap := h.good.cap
  have hroom := h.good.room
  have HD := hd (drop_is w d m es O S s h.q hs (by omega) (fun e hf => h.len_le hf))
  have c1 := h1.cell 0 _ rfl
  have c2 := h2.cell 0 _ rfl
  have H := hd h
  clear h h1 h2
  go_enter Try.func46, Try.ntmps46
  go_wp2_with fail
  refine Calls.mono HD.out ?_
  rintro e w1 ⟨⟨v, rfl⟩, hq, ht0⟩
  have ht : Tr O w w1 := ht0.mono fun x q _ => q.elim (fun q => by rw [q]; exact H.out.own.1) (fun q => by rw [q]; exact H.out.own.2.1)
  clear ht0
  have HN : Hid (Nx O w d (gRemove s S) w1) := by
    refine ⟨O, ⟨m, cutE es s, DKq.m (S := gRemove s S) ?_ ?_ H.out.good.remove⟩, ht, fun b q => .inl q⟩
    · have e1 : (gRemove s S).used = dropU es s S.used := by
        show S.used - _ = _
        unfold dropU
        rw [H.out.fs, fnd_get]
        cases fnd es s <;> rfl
      have e2 : cells (gRemove s S) m = cells { S with used := dropU es s S.used } m := by
        unfold cells
        rw [e1]
        rfl
      rw [e2]
      exact hq
    · show del S.fs s = _
      rw [H.out.fs, cutE_fi]
  clear hq ht
  go_wp2_with fail
  go_end0
  exact ⟨⟨_, rfl⟩, HN.out⟩
set_option maxRecDepth 100000 in
set_option maxHeartbeats 1000000 in
theorem remove_is (w : World) (d : Nat) (O : Nat → Prop) (S : Ds) (s : ByteArray) (h : DK w d O S) (ha : S.acts < 4611686018427387904) :
    Calls Try.prog 29 #[.pointer (some ⟨d, 0, none⟩), .string s] w fun e w' => e = .returned (.int .i64 ((remove S s).1 : Int)) ∧ Nx O w d (remove S s).2 w' := by
  obtain ⟨m, es, h⟩ := h
  obtain ⟨W, hW⟩ : ∃ W, W = (w.alloc (.cells #[.pointer (some ⟨d, 0, none⟩)] 23)).alloc (.cells #[.string s] TS) := ⟨_, rfl⟩
  have hK : DKm W d m es O S := by rw [hW]; exact (h.alloc _).alloc _
  have htW : Tr O w W := by rw [hW]; exact (Tr.alloc O w _).trans (Tr.alloc O _ _) fun x q => .inl q
  have hb1 : Blk W w.heap.size 23 [.pointer (some ⟨d, 0, none⟩)] := by rw [hW]; exact (Blk.new w _ [.pointer (some ⟨d, 0, none⟩)]).alloc _
  have hb2 : Blk W (w.heap.size + 1) TS [.string s] := by
    rw [hW]
    have := Blk.new (w.alloc (.cells #[.pointer (some ⟨d, 0, none⟩)] 23)) TS [.string s]
    rwa [alloc_size] at this
  obtain ⟨p, hp, hp0⟩ := fans_eq hK s true
  have HF := hd (find_is W d m es O S s true hK)
  rw [hp] at HF
  have hdl := h.box.lt
  have HA : Hid (Calls Try.prog 38 #[.pointer (some ⟨d, 0, none⟩), .int .i64 (look S s true : Int), .func (.func 46) #[] #[.pointer (some ⟨w.heap.size, 0, none⟩), .pointer (some ⟨w.heap.size + 1, 0, none⟩)]] W fun e w' => e = .returned (.int .i64 ((remove S s).1 : Int)) ∧ Nx O w d (remove S s).2 w') := by
    refine (act_nx _ d m es O S _ _ (look S s true) (gRemove s) hK ha (cf52 _) ?_).mono ?_
    · intro h0 w1 ht h1
      obtain ⟨e, hfe, rfl, hnm, _⟩ := hp0 h0
      exact remove1_is w1 d m es O (tick S) s _ _ h1 ((ht.block _ hb1.lt (by omega)).trans hb1) ((ht.block _ hb2.lt (by omega)).trans hb2) (isNm_len hnm)
    · rintro e w' ⟨rfl, hn⟩
      exact ⟨rfl, hn.after htW⟩
  have c0 := hb1.cell 0 _ rfl
  have c1 := hb2.cell 0 _ rfl
  have HW := hd hW
  clear h hK htW hb1 hb2 hp hp0 hdl hW
  rw [HW.out] at c0 c1
  generalize look S s true = r at *
  go_enter Try.func29, Try.ntmps29
  go_wp2_with fail
  rw [← HW.out]
  refine Calls.mono HF.out ?_
  rintro e w1 ⟨rfl, rfl⟩
  rw [← HW.out] at c0 c1
  go_wp2_with fail
  refine Calls.mono HA.out ?_
  rintro e w2 ⟨rfl, hn⟩
  have HN := hd hn
  clear hn HA
  go_wp2_with fail
  go_ret
  exact ⟨rfl, HN.out⟩
set_option maxRecDepth 100000 in
set_option maxHeartbeats 1000000 in
theorem trunc1_is (w : World) (d m : Nat) (es : List En) (O : Nat → Prop) (S : Ds) (sn : ByteArray) (e : En) (n b1 b2 b3 : Nat) (h : DKm w d m es O S) (hf : fnd es sn = some e) (h1 : Blk w b1 23 [.pointer (some ⟨d, 0, none⟩)]) (h2 : Blk w b2 TP [.pointer (some ⟨e.blk, 0, none⟩)]) (h3 : Blk w b3 3 [.int .i64 (n : Int)]) (hn : n ≤ e.dat.length) :
    Calls Try.prog 47 #[.pointer (some ⟨b1, 0, none⟩), .pointer (some ⟨b2, 0, none⟩), .pointer (some ⟨b3, 0, none⟩)] w fun e w2 => (∃ v, e = .returned v) ∧ Nx O w d (gTrunc sn n S) w2 := by
  have hmx : Try.prog.follows .mixedOrders = true := by kernel_rfl
  obtain ⟨hm, hs⟩ := fnd_mem hf
  obtain ⟨hfb, hJ⟩ := h.file e hm
  obtain ⟨av, cv, hv, hlc⟩ := hJ.shape
  have hed : e.blk ≠ d := blk_ne hfb h.box (by decide)
  have hcap := h.good.cap
  have hroom := h.good.room
  have hle := h.len_le hf
  obtain ⟨SS, hS0, hS1⟩ : ∃ SS : Nat → World, SS 0 = w.drew ∧ SS 1 = (SS 0).setCell ⟨d, 1, none⟩ (.int .i64 ((S.used : Int) - ((e.dat.length : Int) - (n : Int)))) := ⟨fun s => match s with | 0 => w.drew | _ => w.drew.setCell ⟨d, 1, none⟩ (.int .i64 ((S.used : Int) - ((e.dat.length : Int) - (n : Int)))), rfl, rfl⟩
  have C1 : (SS 0).cell? ⟨b1, 0, none⟩ = some (.pointer (some ⟨d, 0, none⟩)) := by rw [hS0]; exact h1.cell 0 _ rfl
  have C2 : (SS 0).cell? ⟨d, 1, none⟩ = some (.int .i64 (S.used : Int)) := by rw [hS0]; exact h.box.cell 1 _ rfl
  have F2 : (SS 0).frozen? ⟨d, 1, none⟩ = false := by rw [hS0]; exact h.box.frozen 1
  have C3 : (SS 0).cell? ⟨b2, 0, none⟩ = some (.pointer (some ⟨e.blk, 0, none⟩)) := by rw [hS0]; exact h2.cell 0 _ rfl
  have C4 : (SS 0).cell? ⟨e.blk, 0, none⟩ = some (.slice av e.dat.length cv) := by rw [hS0, ← hv]; exact hfb.cell 0 _ rfl
  have C5 : (SS 0).cell? ⟨b3, 0, none⟩ = some (.int .i64 (n : Int)) := by rw [hS0]; exact h3.cell 0 _ rfl
  have HWR1 : Hid (IntKind.i64.wrap ((e.dat.length : Int) - (n : Int)) = (e.dat.length : Int) - (n : Int)) := by show IntKind.i64.wrap _ = _; rw [IntKind.wrap_i64]; omega
  have HWR2 : Hid (IntKind.i64.wrap ((S.used : Int) - ((e.dat.length : Int) - (n : Int))) = (S.used : Int) - ((e.dat.length : Int) - (n : Int))) := by show IntKind.i64.wrap _ = _; rw [IntKind.wrap_i64]; omega
  obtain ⟨WW, hWW⟩ : ∃ WW, SS 1 = WW := ⟨_, rfl⟩
  have hWe : WW = w.drew.setCell ⟨d, 1, none⟩ (.int .i64 ((S.used : Int) - ((e.dat.length : Int) - (n : Int)))) := by rw [← hWW, hS1, hS0]
  have ht1 : Tr (fun b => b = d) w WW := by
    rw [hWe]
    exact (Tr.drew (fun b => b = d) w).trans (Tr.set (O := fun b => b = d) (p := ⟨d, 1, none⟩) rfl _) fun b q => .inl q
  have hfb1 : Blk WW e.blk TF [e.val, .int .i64 (e.las : Int)] := (ht1.block _ hfb.lt hed).trans hfb
  have hJ1 : JB WW 0 e.val e.dat := JB.same hJ fun g hg => by
    obtain ⟨cur, hq⟩ := jb_row hJ hg
    exact ht1.block g (Array.getElem?_eq_some_iff.1 hq).1 (jb_ne hJ hg h.box (by decide))
  have hd1 : Blk WW b2 TP [.pointer (some ⟨e.blk, 0, none⟩)] := (ht1.block _ h2.lt (blk_ne h2 h.box (by decide))).trans h2
  have D1 := hd1.cell 0 _ rfl
  have hd2 : Blk WW b3 3 [.int .i64 (n : Int)] := (ht1.block _ h3.lt (blk_ne h3 h.box (by decide))).trans h3
  have D2 := hd2.cell 0 _ rfl
  have HCUT := hd (cut_is WW e.blk e.val e.dat e.las n hfb1 hJ1 hn (by omega))
  have hbd : Blk WW d TD (cells (gTrunc sn n S) m) := by
    have e1 : (S.used : Int) - ((e.dat.length : Int) - (n : Int)) = (((gTrunc sn n S).used : Nat) : Int) := by
      have e2 : (gTrunc sn n S).used = S.used - (e.dat.length - n) := by
        show S.used - (((get S.fs sn).map fun f => f.dat.length).getD 0 - n) = _
        rw [h.fs, fnd_get, hf]; rfl
      rw [e2]; omega
    rw [hWe, e1]
    exact Blk.set (W := w.drew) h.box _
  have FIN : ∀ w2 v', Blk w2 e.blk TF [v', .int .i64 ((min e.las n : Nat) : Int)] → JB w2 0 v' (e.dat.take n) → Tr (fun b => b = e.blk) WW w2 → (∀ g, v'.ownBlock = some g → WW.heap.size ≤ g) → Nx O w d (gTrunc sn n S) w2 := by
    intro w2 v' hb2 hJ2 ht2 hl2
    have hWs : WW.heap.size = w.heap.size := by rw [hWe]; exact set_size _ _ _ _
    have hlw : (e.dat.take n).length = n := by rw [List.length_take]; omega
    have hO2 : Tr O w w2 := (ht1.mono fun x q _ => by rw [q]; exact h.own.1).trans ht2 fun b q => .inl (by rw [q]; exact (h.own.2.2 e hm).1)
    have hp := h.put (w2 := w2) (S' := gTrunc sn n S) hf (e' := { e with val := v', dat := e.dat.take n, las := min e.las n }) rfl rfl
      (fun b hb q1 q2 _ => (ht2.block b (by rw [hWs]; exact h.olt b hb) q1).trans (ht1.block b (h.olt b hb) q2)) hO2.size
      ((ht2.block d hbd.lt (fun q => hed q.symm)).trans hbd) hb2 hJ2 (fun g q => .inr (by rw [← hWs]; exact hl2 g q))
      (by show upd S.fs sn _ = _; rw [h.fs]; exact (updE_fi fun x hx q => by rw [one_nm h.names hf hx q]; rfl).symm)
      (h.good.upd (u := (gTrunc sn n S).used) (f := e.fi) (by rw [h.fs, fnd_get, hf]; rfl) (fun _ => rfl) (fun f q => by simp only [List.length_take]; omega)
        (by
          show S.used - (((get S.fs sn).map fun f => f.dat.length).getD 0 - n) + e.dat.length = S.used + (e.dat.take n).length
          rw [h.fs, fnd_get, hf, hlw]
          show S.used - (e.dat.length - n) + e.dat.length = _
          omega) (by show S.used - _ ≤ S.cap; omega))
    refine ⟨_, ⟨m, _, hp⟩, hO2, fun b q => ?_⟩
    rcases q with q | q
    · exact .inl q
    · exact .inr (by rw [← hWs]; exact hl2 b q)
  have HFIN := hd FIN
  have HS0 := hd hS0
  have HS1 := hd hS1
  have HWW := hd hWW
  clear hS0 hS1 hWW hWe h h1 h2 h3 hfb hJ hv FIN ht1 hfb1 hJ1 hbd hd1 hd2
  go_enter Try.func47, Try.ntmps47
  go_wp2_with fail
  --REGION a
  refine region_chain (fun i => match i with
    | 0 => .pointer (some ⟨d, 0, none⟩)
    | 1 => .pointer (some ⟨d, 0, none⟩)
    | 2 => .pointer (some ⟨d, 1, none⟩)
    | 3 => .int .i64 (S.used : Int)
    | 4 => .pointer (some ⟨e.blk, 0, none⟩)
    | 5 => .pointer (some ⟨e.blk, 0, none⟩)
    | 6 => .pointer (some ⟨e.blk, 0, none⟩)
    | 7 => .slice av e.dat.length cv
    | 8 => .int .i64 (e.dat.length : Int)
    | 9 => .int .i64 (n : Int)
    | 10 => .int .i64 ((e.dat.length : Int) - (n : Int))
    | 11 => .int .i64 ((S.used : Int) - ((e.dat.length : Int) - (n : Int)))
    | 12 => .pointer (some ⟨d, 0, none⟩)
    | 13 => .pointer (some ⟨d, 1, none⟩)
    | 14 => undef
    | _ => undef) [14] SS hmx (by kernel_rfl) (by kernel_rfl) (by kernel_rfl) (by kernel_rfl) HS0.out ?_ ?_ (by decide)
  · intro i o ho s a hsr hlo hhi hout haf hun
    have ee0 := getq (show a.tmps.getD 0 undef = Value.pointer (some { block := b1, off := 0 }) from hout 0 (notDst_spec (by kernel_rfl)))
    have ee1 := getq (show a.tmps.getD 1 undef = Value.pointer (some { block := b2, off := 0 }) from hout 1 (notDst_spec (by kernel_rfl)))
    have ee2 := getq (show a.tmps.getD 2 undef = Value.pointer (some { block := b3, off := 0 }) from hout 2 (notDst_spec (by kernel_rfl)))
    clear hout
    match i, ho, hlo, hhi, haf, hun with
    | 0, ho, hlo, hhi, haf, hun =>
      obtain rfl := Option.some.inj ho
      obtain rfl : s = 0 := by have := hhi 0 (by decide) (.inr (by kernel_rfl)); simp at hsr; omega
      refine step_c (w' := SS 0) rfl fun K hK => ?_
      simp only [List.getElem_toArray, List.getElem_cons_zero] at hK ⊢
      clear haf hlo hhi hun ho hsr
      go_simp
      exact hK
    | 1, ho, hlo, hhi, haf, hun =>
      obtain rfl := Option.some.inj ho
      have f0 := getq (show a.tmps.getD 3 undef = .pointer (some ⟨d, 0, none⟩) from haf ⟨0, .data⟩ (by simp) rfl 3 rfl)
      obtain rfl : s = 0 := by have := hhi 0 (by decide) (.inr (by kernel_rfl)); simp at hsr; omega
      refine step_c (w' := SS 0) rfl fun K hK => ?_
      simp only [List.getElem_toArray, List.getElem_cons_succ, List.getElem_cons_zero] at hK ⊢
      clear haf hlo hhi hun ho hsr
      go_simp
      exact hK
    | 2, ho, hlo, hhi, haf, hun =>
      obtain rfl := Option.some.inj ho
      have f1 := getq (show a.tmps.getD 4 undef = .pointer (some ⟨d, 0, none⟩) from haf ⟨1, .data⟩ (by simp) rfl 4 rfl)
      obtain rfl : s = 0 := by have := hhi 0 (by decide) (.inr (by kernel_rfl)); simp at hsr; omega
      refine step_c (w' := SS 0) rfl fun K hK => ?_
      simp only [List.getElem_toArray, List.getElem_cons_succ, List.getElem_cons_zero] at hK ⊢
      clear haf hlo hhi hun ho hsr
      go_simp
      exact hK
    | 3, ho, hlo, hhi, haf, hun =>
      obtain rfl := Option.some.inj ho
      have f2 := getq (show a.tmps.getD 5 undef = .pointer (some ⟨d, 1, none⟩) from haf ⟨2, .data⟩ (by simp) rfl 5 rfl)
      obtain rfl : s = 0 := by have := hhi 0 (by decide) (.inr (by kernel_rfl)); simp at hsr; omega
      refine step_c (w' := SS 0) rfl fun K hK => ?_
      simp only [List.getElem_toArray, List.getElem_cons_succ, List.getElem_cons_zero] at hK ⊢
      clear haf hlo hhi hun ho hsr
      go_simp
      exact hK
    | 4, ho, hlo, hhi, haf, hun =>
      obtain rfl := Option.some.inj ho
      obtain rfl : s = 0 := by have := hhi 0 (by decide) (.inr (by kernel_rfl)); simp at hsr; omega
      refine step_c (w' := SS 0) rfl fun K hK => ?_
      simp only [List.getElem_toArray, List.getElem_cons_succ, List.getElem_cons_zero] at hK ⊢
      clear haf hlo hhi hun ho hsr
      go_simp
      exact hK
    | 5, ho, hlo, hhi, haf, hun =>
      obtain rfl := Option.some.inj ho
      have f4 := getq (show a.tmps.getD 7 undef = .pointer (some ⟨e.blk, 0, none⟩) from haf ⟨4, .data⟩ (by simp) rfl 7 rfl)
      obtain rfl : s = 0 := by have := hhi 0 (by decide) (.inr (by kernel_rfl)); simp at hsr; omega
      refine step_c (w' := SS 0) rfl fun K hK => ?_
      simp only [List.getElem_toArray, List.getElem_cons_succ, List.getElem_cons_zero] at hK ⊢
      clear haf hlo hhi hun ho hsr
      go_simp
      exact hK
    | 6, ho, hlo, hhi, haf, hun =>
      obtain rfl := Option.some.inj ho
      have f5 := getq (show a.tmps.getD 8 undef = .pointer (some ⟨e.blk, 0, none⟩) from haf ⟨5, .data⟩ (by simp) rfl 8 rfl)
      obtain rfl : s = 0 := by have := hhi 0 (by decide) (.inr (by kernel_rfl)); simp at hsr; omega
      refine step_c (w' := SS 0) rfl fun K hK => ?_
      simp only [List.getElem_toArray, List.getElem_cons_succ, List.getElem_cons_zero] at hK ⊢
      clear haf hlo hhi hun ho hsr
      go_simp
      exact hK
    | 7, ho, hlo, hhi, haf, hun =>
      obtain rfl := Option.some.inj ho
      have f6 := getq (show a.tmps.getD 9 undef = .pointer (some ⟨e.blk, 0, none⟩) from haf ⟨6, .data⟩ (by simp) rfl 9 rfl)
      obtain rfl : s = 0 := by have := hhi 0 (by decide) (.inr (by kernel_rfl)); simp at hsr; omega
      refine step_c (w' := SS 0) rfl fun K hK => ?_
      simp only [List.getElem_toArray, List.getElem_cons_succ, List.getElem_cons_zero] at hK ⊢
      clear haf hlo hhi hun ho hsr
      go_simp
      exact hK
    | 8, ho, hlo, hhi, haf, hun =>
      obtain rfl := Option.some.inj ho
      have f7 := getq (show a.tmps.getD 10 undef = .slice av e.dat.length cv from haf ⟨7, .data⟩ (by simp) rfl 10 rfl)
      obtain rfl : s = 0 := by have := hhi 0 (by decide) (.inr (by kernel_rfl)); simp at hsr; omega
      refine step_c (w' := SS 0) rfl fun K hK => ?_
      simp only [List.getElem_toArray, List.getElem_cons_succ, List.getElem_cons_zero] at hK ⊢
      clear haf hlo hhi hun ho hsr
      go_simp
      exact hK
    | 9, ho, hlo, hhi, haf, hun =>
      obtain rfl := Option.some.inj ho
      obtain rfl : s = 0 := by have := hhi 0 (by decide) (.inr (by kernel_rfl)); simp at hsr; omega
      refine step_c (w' := SS 0) rfl fun K hK => ?_
      simp only [List.getElem_toArray, List.getElem_cons_succ, List.getElem_cons_zero] at hK ⊢
      clear haf hlo hhi hun ho hsr
      go_simp
      exact hK
    | 10, ho, hlo, hhi, haf, hun =>
      obtain rfl := Option.some.inj ho
      have f8 := getq (show a.tmps.getD 11 undef = .int .i64 (e.dat.length : Int) from haf ⟨8, .data⟩ (by simp) rfl 11 rfl)
      have f9 := getq (show a.tmps.getD 12 undef = .int .i64 (n : Int) from haf ⟨9, .data⟩ (by simp) rfl 12 rfl)
      obtain rfl : s = 0 := by have := hhi 0 (by decide) (.inr (by kernel_rfl)); simp at hsr; omega
      refine step_c (w' := SS 0) rfl fun K hK => ?_
      simp only [List.getElem_toArray, List.getElem_cons_succ, List.getElem_cons_zero] at hK ⊢
      clear haf hlo hhi hun ho hsr
      go_simp
      rw [HWR1.out]
      exact hK
    | 11, ho, hlo, hhi, haf, hun =>
      obtain rfl := Option.some.inj ho
      have f3 := getq (show a.tmps.getD 6 undef = .int .i64 (S.used : Int) from haf ⟨3, .data⟩ (by simp) rfl 6 rfl)
      have f10 := getq (show a.tmps.getD 13 undef = .int .i64 ((e.dat.length : Int) - (n : Int)) from haf ⟨10, .data⟩ (by simp) rfl 13 rfl)
      obtain rfl : s = 0 := by have := hhi 0 (by decide) (.inr (by kernel_rfl)); simp at hsr; omega
      refine step_c (w' := SS 0) rfl fun K hK => ?_
      simp only [List.getElem_toArray, List.getElem_cons_succ, List.getElem_cons_zero] at hK ⊢
      clear haf hlo hhi hun ho hsr
      go_simp
      rw [HWR2.out]
      exact hK
    | 12, ho, hlo, hhi, haf, hun =>
      obtain rfl := Option.some.inj ho
      have f0 := getq (show a.tmps.getD 3 undef = .pointer (some ⟨d, 0, none⟩) from haf ⟨0, .data⟩ (by simp) rfl 3 rfl)
      obtain rfl : s = 0 := by have := hhi 0 (by decide) (.inr (by kernel_rfl)); simp at hsr; omega
      refine step_c (w' := SS 0) rfl fun K hK => ?_
      simp only [List.getElem_toArray, List.getElem_cons_succ, List.getElem_cons_zero] at hK ⊢
      clear haf hlo hhi hun ho hsr
      go_simp
      exact hK
    | 13, ho, hlo, hhi, haf, hun =>
      obtain rfl := Option.some.inj ho
      have f12 := getq (show a.tmps.getD 15 undef = .pointer (some ⟨d, 0, none⟩) from haf ⟨12, .data⟩ (by simp) rfl 15 rfl)
      obtain rfl : s = 0 := by have := hhi 0 (by decide) (.inr (by kernel_rfl)); simp at hsr; omega
      refine step_c (w' := SS 0) rfl fun K hK => ?_
      simp only [List.getElem_toArray, List.getElem_cons_succ, List.getElem_cons_zero] at hK ⊢
      clear haf hlo hhi hun ho hsr
      go_simp
      exact hK
    | 14, ho, hlo, hhi, haf, hun =>
      obtain rfl := Option.some.inj ho
      have f13 := getq (show a.tmps.getD 16 undef = .pointer (some ⟨d, 1, none⟩) from haf ⟨13, .data⟩ (by simp) rfl 16 rfl)
      have f11 := getq (show a.tmps.getD 14 undef = .int .i64 ((S.used : Int) - ((e.dat.length : Int) - (n : Int))) from haf ⟨11, .data⟩ (by simp) rfl 14 rfl)
      obtain rfl : s = 0 := by have := hhi 0 (by decide) (.inl (by kernel_rfl)); omega
      refine step_c (w' := SS 1) rfl fun K hK => ?_
      simp only [List.getElem_toArray, List.getElem_cons_succ, List.getElem_cons_zero] at hK ⊢
      clear haf hlo hhi hun ho hsr
      rw [HS1.out] at hK
      go_simp
      exact hK
    | n + 15, ho, _, _, _, _ => simp at ho
  · intro aa hdf hsz hout hval
    have hat : aa.tmps = #[Value.pointer (some { block := b1, off := 0 }), Value.pointer (some { block := b2, off := 0 }), Value.pointer (some { block := b3, off := 0 }), .pointer (some ⟨d, 0, none⟩), .pointer (some ⟨d, 0, none⟩), .pointer (some ⟨d, 1, none⟩), .int .i64 (S.used : Int), .pointer (some ⟨e.blk, 0, none⟩), .pointer (some ⟨e.blk, 0, none⟩), .pointer (some ⟨e.blk, 0, none⟩), .slice av e.dat.length cv, .int .i64 (e.dat.length : Int), .int .i64 (n : Int), .int .i64 ((e.dat.length : Int) - (n : Int)), .int .i64 ((S.used : Int) - ((e.dat.length : Int) - (n : Int))), .pointer (some ⟨d, 0, none⟩), .pointer (some ⟨d, 1, none⟩), undef, undef, undef] := by
      refine arr_one (hsz.trans rfl) fun kk hkk => ?_
      match kk, hkk with
      | 0, _ => exact hout 0 (notDst_spec (by kernel_rfl))
      | 1, _ => exact hout 1 (notDst_spec (by kernel_rfl))
      | 2, _ => exact hout 2 (notDst_spec (by kernel_rfl))
      | 3, _ => exact hval 0 3 (by decide) rfl
      | 4, _ => exact hval 1 4 (by decide) rfl
      | 5, _ => exact hval 2 5 (by decide) rfl
      | 6, _ => exact hval 3 6 (by decide) rfl
      | 7, _ => exact hval 4 7 (by decide) rfl
      | 8, _ => exact hval 5 8 (by decide) rfl
      | 9, _ => exact hval 6 9 (by decide) rfl
      | 10, _ => exact hval 7 10 (by decide) rfl
      | 11, _ => exact hval 8 11 (by decide) rfl
      | 12, _ => exact hval 9 12 (by decide) rfl
      | 13, _ => exact hval 10 13 (by decide) rfl
      | 14, _ => exact hval 11 14 (by decide) rfl
      | 15, _ => exact hval 12 15 (by decide) rfl
      | 16, _ => exact hval 13 16 (by decide) rfl
      | 17, _ => exact hout 17 (notDst_spec (by kernel_rfl))
      | 18, _ => exact hout 18 (notDst_spec (by kernel_rfl))
      | 19, _ => exact hout 19 (notDst_spec (by kernel_rfl))
      | n + 20, h => exact absurd h (by simp)
    obtain ⟨tt, dd⟩ := aa
    simp only at hat hdf
    subst hat hdf
    clear hsz hout hval
    rw [show SS [14].length = WW from HWW.out]
    clear C1 C2 F2 C3 C4 C5
    go_wp2_with fail
    refine Calls.mono HCUT.out ?_
    rintro e9 w2 ⟨⟨u9, rfl⟩, v', hb2, hJ2, ht2, hl2⟩
    have HN := hd (HFIN.out w2 v' hb2 hJ2 ht2 hl2)
    clear hb2 hJ2 ht2 hl2
    go_wp2_with fail
    go_end0
    exact ⟨⟨_, rfl⟩, HN.out⟩
  --END a
theorem rTrunc_no {S : Ds} {s : ByteArray} {n : Int} (h : look S s (decide (0 ≤ n)) ≠ 0) : rTrunc S s n = look S s (decide (0 ≤ n)) := by unfold rTrunc; rw [if_pos h]
theorem rTrunc_in {S : Ds} {s : ByteArray} {n : Int} (h : look S s (decide (0 ≤ n)) = 0) : rTrunc S s n = if ((((get S.fs s).map fun f => f.dat.length).getD 0 : Nat) : Int) < n then 70 else 0 := by unfold rTrunc; rw [if_neg (by omega)]
set_option maxRecDepth 100000 in
set_option maxHeartbeats 1000000 in
theorem trunc_is (w : World) (d : Nat) (O : Nat → Prop) (S : Ds) (s : ByteArray) (n : Int) (h : DK w d O S) (ha : S.acts < 4611686018427387904) :
    Calls Try.prog 30 #[.pointer (some ⟨d, 0, none⟩), .string s, .int .i64 n] w fun e w' => e = .returned (.int .i64 ((trunc S s n).1 : Int)) ∧ Nx O w d (trunc S s n).2 w' := by
  obtain ⟨m, es, h⟩ := h
  obtain ⟨W, hW⟩ : ∃ W, W = (w.alloc (.cells #[.pointer (some ⟨d, 0, none⟩)] 23)).alloc (.cells #[.int .i64 n] 3) := ⟨_, rfl⟩
  have hK : DKm W d m es O S := by rw [hW]; exact (h.alloc _).alloc _
  have htW : Tr O w W := by rw [hW]; exact (Tr.alloc O w _).trans (Tr.alloc O _ _) fun x q => .inl q
  have hb1 : Blk W w.heap.size 23 [.pointer (some ⟨d, 0, none⟩)] := by rw [hW]; exact (Blk.new w _ [.pointer (some ⟨d, 0, none⟩)]).alloc _
  have hb2 : Blk W (w.heap.size + 1) 3 [.int .i64 n] := by
    rw [hW]
    have := Blk.new (w.alloc (.cells #[.pointer (some ⟨d, 0, none⟩)] 23)) 3 [.int .i64 n]
    rwa [alloc_size] at this
  have hWs : W.heap.size = w.heap.size + 2 := by rw [hW, alloc_size, alloc_size]
  obtain ⟨p, hp, hp0⟩ := fans_eq hK s (decide (0 ≤ n))
  have HF := hd (find_is W d m es O S s (decide (0 ≤ n)) hK)
  rw [hp] at HF
  have hdl := h.box.lt
  obtain ⟨V, hV⟩ : ∃ V, V = W.alloc (.cells #[.pointer p] TP) := ⟨_, rfl⟩
  have hKV : DKm V d m es O S := by rw [hV]; exact hK.alloc _
  have hb3 : Blk V (w.heap.size + 2) TP [.pointer p] := by
    rw [hV]
    have := Blk.new W TP [.pointer p]
    rwa [hWs] at this
  have hb1V : Blk V w.heap.size 23 [.pointer (some ⟨d, 0, none⟩)] := by rw [hV]; exact hb1.alloc _
  have hb2V : Blk V (w.heap.size + 1) 3 [.int .i64 n] := by rw [hV]; exact hb2.alloc _
  have HA : Hid (∀ k, Calls Try.prog 38 #[.pointer (some ⟨d, 0, none⟩), .int .i64 (rTrunc S s n : Int), .func (.func 47) #[] #[.pointer (some ⟨w.heap.size, 0, none⟩), .pointer (some ⟨w.heap.size + 2, 0, none⟩), .pointer (some ⟨w.heap.size + 1, 0, none⟩)]] (V.drewN k) fun e w' => e = .returned (.int .i64 ((trunc S s n).1 : Int)) ∧ Nx O w d (trunc S s n).2 w') := by
    intro k
    refine (act_nx _ d m es O S _ _ (rTrunc S s n) (gTrunc s n.toNat) (hKV.drewN k) ha (cf53 _) ?_).mono ?_
    · intro h0 w1 ht h1
      have hz : look S s (decide (0 ≤ n)) = 0 := by
        by_cases q : look S s (decide (0 ≤ n)) = 0
        · exact q
        · rw [rTrunc_no q] at h0; exact absurd h0 q
      obtain ⟨e, hfe, rfl, hnm, hbt, _⟩ := hp0 hz
      have hn0 : 0 ≤ n := by simpa using hbt
      obtain ⟨k1, rfl⟩ := Int.eq_ofNat_of_zero_le hn0
      rw [rTrunc_in hz, h.fs, fnd_get, hfe] at h0
      have hle : k1 ≤ e.dat.length := by
        simp only [Option.map_some, Option.getD_some] at h0
        by_cases q : ((e.fi.dat.length : Nat) : Int) < (k1 : Int)
        · rw [if_pos q] at h0; cases h0
        · have : ¬ ((e.dat.length : Nat) : Int) < (k1 : Int) := q
          omega
      exact trunc1_is w1 d m es O (tick S) s e k1 _ _ _ h1 hfe ((ht.block _ hb1V.lt (by omega)).trans hb1V) ((ht.block _ hb3.lt (by omega)).trans hb3) ((ht.block _ hb2V.lt (by omega)).trans hb2V) hle
    · rintro e w' ⟨rfl, hn⟩
      exact ⟨rfl, hn.after ((htW.trans (by rw [hV]; exact Tr.alloc O W _) fun x q => .inl q).trans (Tr.drewN O V k) fun x q => .inl q)⟩
  have c0 := hb1.cell 0 _ rfl
  have c1 := hb2.cell 0 _ rfl
  have v0 : ∀ k, (V.drewN k).cell? ⟨w.heap.size, 0, none⟩ = some (.pointer (some ⟨d, 0, none⟩)) := fun k => hb1V.cell 0 _ rfl
  have v1 : ∀ k, (V.drewN k).cell? ⟨w.heap.size + 1, 0, none⟩ = some (.int .i64 n) := fun k => hb2V.cell 0 _ rfl
  have v2 : ∀ k, (V.drewN k).cell? ⟨w.heap.size + 2, 0, none⟩ = some (.pointer p) := fun k => hb3.cell 0 _ rfl
  have HP0 := hd hp0
  have HKV := hd hKV
  have HH := hd h
  have HW := hd hW
  have HV := hd hV
  have hWs' := hd hWs
  clear h hK htW hb1 hb2 hb3 hb1V hb2V hp hp0 hdl hW hV hKV hWs
  rw [HW.out] at c0 c1
  obtain ⟨r, hr⟩ : ∃ r, look S s (decide (0 ≤ n)) = r := ⟨_, rfl⟩
  rw [hr] at HF
  have HR := hd hr
  clear hr
  go_enter Try.func30, Try.ntmps30
  go_wp2_with fail
  rw [← HW.out]
  refine Calls.mono HF.out ?_
  rintro e w1 ⟨rfl, rfl⟩
  clear c0 c1
  go_wp2_with fail
  rw [hWs'.out, ← HV.out]
  by_cases hr0 : r = 0
  · subst hr0
    obtain ⟨e, hfe, hpe, _⟩ := HP0.out HR.out
    subst hpe
    obtain ⟨hfb, hJ⟩ := HKV.out.file e (fnd_mem hfe).1
    obtain ⟨av, cv, hv, hlc⟩ := hJ.shape
    have v3 : ∀ k, (V.drewN k).cell? ⟨e.blk, 0, none⟩ = some (.slice av e.dat.length cv) := fun k => by rw [← hv]; exact hfb.cell 0 _ rfl
    have HRT : Hid (rTrunc S s n = if (e.dat.length : Int) < n then 70 else 0) := by
      show _ = _
      rw [rTrunc_in HR.out, HH.out.fs, fnd_get, hfe]
      rfl
    clear hfb hJ hv hfe HP0
    by_cases hlt : (e.dat.length : Int) < n
    · have HRB : Hid (rTrunc S s n = 70) := by show _ = _; rw [HRT.out, if_pos hlt]
      rw [HRB.out] at HA
      go_quiet (fail)
      go_wp2_with fail
      refine Calls.mono (HA.out _) ?_
      rintro e w1 ⟨rfl, hn⟩
      have HN := hd hn
      clear hn HA
      go_wp2_with fail
      go_ret
      exact ⟨rfl, HN.out⟩
    · have HRB : Hid (rTrunc S s n = 0) := by show _ = _; rw [HRT.out, if_neg hlt]
      rw [HRB.out] at HA
      go_quiet (fail)
      go_wp2_with fail
      refine Calls.mono (HA.out _) ?_
      rintro e w1 ⟨rfl, hn⟩
      have HN := hd hn
      clear hn HA
      go_wp2_with fail
      go_ret
      exact ⟨rfl, HN.out⟩
  · have hr0' : ¬ ((r : Int) = 0) := by omega
    have HRB : Hid (rTrunc S s n = r) := by show _ = _; rw [rTrunc_no (by rw [HR.out]; exact hr0), HR.out]
    rw [HRB.out] at HA
    go_quiet (fail)
    go_wp2_with fail
    refine Calls.mono (HA.out _) ?_
    rintro e w1 ⟨rfl, hn⟩
    have HN := hd hn
    clear hn HA
    go_wp2_with fail
    go_ret
    exact ⟨rfl, HN.out⟩
end Dk
end Go.Proofs.Ytijdaohddefbmaa
