/-
  THE WALKS OF Sync, Size, Used.
-/
import Derived.Test.YtnakaomgceoobaaGreatDk5
namespace Go.Proofs.YtnakaomgceoobaaGreat
open Go.RowKit Go.Maps
namespace Dk
open Vt
theorem cf39 (caps : Array Value) (w : World) : (callFunc 80 caps).run Tryz.prog w = .ok (.enter 80 caps) w := by kernel_rfl
set_option maxRecDepth 100000 in
set_option maxHeartbeats 1000000 in
theorem sync1_is (w : World) (d m : Nat) (es : List En) (O : Nat → Prop) (S : Ds) (sn : ByteArray) (e : En) (b1 : Nat) (h : DKm w d m es O S) (hf : fnd es sn = some e) (h1 : Blk w b1 TP [.pointer (some ⟨e.blk, 0, none⟩)]) :
    Calls Tryz.prog 80 #[.pointer (some ⟨b1, 0, none⟩)] w fun e w2 => (∃ v, e = .returned v) ∧ Nx O w d (gSync sn S) w2 := by
  have hmx : Tryz.prog.follows .mixedOrders = true := by kernel_rfl
  obtain ⟨hm, hs⟩ := fnd_mem hf
  obtain ⟨hfb, hJ⟩ := h.file e hm
  obtain ⟨av, cv, hv, hlc⟩ := hJ.shape
  have hed : e.blk ≠ d := blk_ne hfb h.box (by decide)
  obtain ⟨SS, hS0, hS1⟩ : ∃ SS : Nat → World, SS 0 = w.drew ∧ SS 1 = w.drew.setCell ⟨e.blk, 1, none⟩ (.int .i64 (e.dat.length : Int)) := ⟨fun s => match s with | 0 => w.drew | _ => w.drew.setCell ⟨e.blk, 1, none⟩ (.int .i64 (e.dat.length : Int)), rfl, rfl⟩
  have C1 : (SS 0).cell? ⟨b1, 0, none⟩ = some (.pointer (some ⟨e.blk, 0, none⟩)) := by rw [hS0]; exact h1.cell 0 _ rfl
  have C2 : (SS 0).cell? ⟨e.blk, 0, none⟩ = some (.slice av e.dat.length cv) := by rw [hS0, ← hv]; exact hfb.cell 0 _ rfl
  have C3 : (SS 0).cell? ⟨e.blk, 1, none⟩ = some (.int .i64 (e.las : Int)) := by rw [hS0]; exact hfb.cell 1 _ rfl
  have F3 : (SS 0).frozen? ⟨e.blk, 1, none⟩ = false := by rw [hS0]; exact hfb.frozen 1
  have HFIN : Hid (Nx O w d (gSync sn S) (SS 1)) := by
    show Nx O w d (gSync sn S) (SS 1)
    rw [hS1]
    have hp := h.put (w2 := w.drew.setCell ⟨e.blk, 1, none⟩ (.int .i64 (e.dat.length : Int))) (S' := gSync sn S) hf (e' := { e with las := e.dat.length }) rfl rfl (fun b _ hb _ _ => set_heap _ _ _ b _ hb) (Nat.le_of_eq (set_size _ _ _ _).symm) (Blk.other (W := w.drew) h.box hed _) (Blk.set (W := w.drew) hfb _) (JB.same (w := w) hJ fun g hg => set_heap _ _ _ g _ (jb_ne hJ hg hfb (by decide))) (fun g q => .inl q)
      (by show upd S.fs sn _ = _; rw [h.fs]; exact (updE_fi fun x hx q => by rw [one_nm h.names hf hx q]; rfl).symm) (h.good.upd (u := S.used) (f := e.fi) (by rw [h.fs, fnd_get, hf]; rfl) (fun _ => rfl) (fun _ _ => Nat.le_refl _) rfl h.good.room)
    refine ⟨_, ⟨m, _, hp⟩, (Tr.drew O w).trans (Tr.set (O := O) (p := ⟨e.blk, 1, none⟩) (h.own.2.2 e hm).1 _) (fun x q => .inl q), fun b q => .inl ?_⟩
    rcases q with q | q
    · exact q
    · exact (h.own.2.2 e hm).2 b q
  rw [← hS0] at hS1
  have HS1 := hd hS1
  have HS0 := hd hS0
  clear hS0 hS1 h h1 hfb hJ hv
  go_enter Tryz.func80, Tryz.ntmps80
  go_wp2_with fail
  --REGION a
  refine region_chain (fun i => match i with
    | 0 => .pointer (some ⟨e.blk, 0, none⟩)
    | 1 => .pointer (some ⟨e.blk, 0, none⟩)
    | 2 => .pointer (some ⟨e.blk, 0, none⟩)
    | 3 => .pointer (some ⟨e.blk, 0, none⟩)
    | 4 => .slice av e.dat.length cv
    | 5 => .int .i64 (e.dat.length : Int)
    | 6 => .pointer (some ⟨e.blk, 0, none⟩)
    | 7 => .pointer (some ⟨e.blk, 1, none⟩)
    | 8 => undef
    | _ => undef) [8] SS hmx (by kernel_rfl) (by kernel_rfl) (by kernel_rfl) (by kernel_rfl) HS0.out ?_ ?_ (by decide)
  · intro i o ho s a hsr hlo hhi hout haf hun
    have e0 := getq (show a.tmps.getD 0 undef = Value.pointer (some { block := b1, off := 0 }) from hout 0 (notDst_spec (by kernel_rfl)))
    clear hout
    match i, ho, hlo, hhi, haf, hun with
    | 0, ho, hlo, hhi, haf, hun =>
      obtain rfl := Option.some.inj ho
      obtain rfl : s = 0 := by have := hhi 0 (by decide) (.inr (by kernel_rfl)); simp at hsr; omega
      refine step_c (w' := SS 0) rfl fun K hK => ?_
      simp only [List.getElem_toArray, List.getElem_cons_zero] at hK ⊢
      clear haf hlo hhi hun ho hsr
      go_simp
      exact hK
    | 1, ho, hlo, hhi, haf, hun =>
      obtain rfl := Option.some.inj ho
      obtain rfl : s = 0 := by have := hhi 0 (by decide) (.inr (by kernel_rfl)); simp at hsr; omega
      refine step_c (w' := SS 0) rfl fun K hK => ?_
      simp only [List.getElem_toArray, List.getElem_cons_succ, List.getElem_cons_zero] at hK ⊢
      clear haf hlo hhi hun ho hsr
      go_simp
      exact hK
    | 2, ho, hlo, hhi, haf, hun =>
      obtain rfl := Option.some.inj ho
      have f1 := getq (show a.tmps.getD 2 undef = .pointer (some ⟨e.blk, 0, none⟩) from haf ⟨1, .data⟩ (by simp) rfl 2 rfl)
      obtain rfl : s = 0 := by have := hhi 0 (by decide) (.inr (by kernel_rfl)); simp at hsr; omega
      refine step_c (w' := SS 0) rfl fun K hK => ?_
      simp only [List.getElem_toArray, List.getElem_cons_succ, List.getElem_cons_zero] at hK ⊢
      clear haf hlo hhi hun ho hsr
      go_simp
      exact hK
    | 3, ho, hlo, hhi, haf, hun =>
      obtain rfl := Option.some.inj ho
      have f2 := getq (show a.tmps.getD 3 undef = .pointer (some ⟨e.blk, 0, none⟩) from haf ⟨2, .data⟩ (by simp) rfl 3 rfl)
      obtain rfl : s = 0 := by have := hhi 0 (by decide) (.inr (by kernel_rfl)); simp at hsr; omega
      refine step_c (w' := SS 0) rfl fun K hK => ?_
      simp only [List.getElem_toArray, List.getElem_cons_succ, List.getElem_cons_zero] at hK ⊢
      clear haf hlo hhi hun ho hsr
      go_simp
      exact hK
    | 4, ho, hlo, hhi, haf, hun =>
      obtain rfl := Option.some.inj ho
      have f3 := getq (show a.tmps.getD 4 undef = .pointer (some ⟨e.blk, 0, none⟩) from haf ⟨3, .data⟩ (by simp) rfl 4 rfl)
      obtain rfl : s = 0 := by have := hhi 0 (by decide) (.inr (by kernel_rfl)); simp at hsr; omega
      refine step_c (w' := SS 0) rfl fun K hK => ?_
      simp only [List.getElem_toArray, List.getElem_cons_succ, List.getElem_cons_zero] at hK ⊢
      clear haf hlo hhi hun ho hsr
      go_simp
      exact hK
    | 5, ho, hlo, hhi, haf, hun =>
      obtain rfl := Option.some.inj ho
      have f4 := getq (show a.tmps.getD 5 undef = .slice av e.dat.length cv from haf ⟨4, .data⟩ (by simp) rfl 5 rfl)
      obtain rfl : s = 0 := by have := hhi 0 (by decide) (.inr (by kernel_rfl)); simp at hsr; omega
      refine step_c (w' := SS 0) rfl fun K hK => ?_
      simp only [List.getElem_toArray, List.getElem_cons_succ, List.getElem_cons_zero] at hK ⊢
      clear haf hlo hhi hun ho hsr
      go_simp
      exact hK
    | 6, ho, hlo, hhi, haf, hun =>
      obtain rfl := Option.some.inj ho
      have f0 := getq (show a.tmps.getD 1 undef = .pointer (some ⟨e.blk, 0, none⟩) from haf ⟨0, .data⟩ (by simp) rfl 1 rfl)
      obtain rfl : s = 0 := by have := hhi 0 (by decide) (.inr (by kernel_rfl)); simp at hsr; omega
      refine step_c (w' := SS 0) rfl fun K hK => ?_
      simp only [List.getElem_toArray, List.getElem_cons_succ, List.getElem_cons_zero] at hK ⊢
      clear haf hlo hhi hun ho hsr
      go_simp
      exact hK
    | 7, ho, hlo, hhi, haf, hun =>
      obtain rfl := Option.some.inj ho
      have f6 := getq (show a.tmps.getD 7 undef = .pointer (some ⟨e.blk, 0, none⟩) from haf ⟨6, .data⟩ (by simp) rfl 7 rfl)
      obtain rfl : s = 0 := by have := hhi 0 (by decide) (.inr (by kernel_rfl)); simp at hsr; omega
      refine step_c (w' := SS 0) rfl fun K hK => ?_
      simp only [List.getElem_toArray, List.getElem_cons_succ, List.getElem_cons_zero] at hK ⊢
      clear haf hlo hhi hun ho hsr
      go_simp
      exact hK
    | 8, ho, hlo, hhi, haf, hun =>
      obtain rfl := Option.some.inj ho
      have f7 := getq (show a.tmps.getD 8 undef = .pointer (some ⟨e.blk, 1, none⟩) from haf ⟨7, .data⟩ (by simp) rfl 8 rfl)
      have f5 := getq (show a.tmps.getD 6 undef = .int .i64 (e.dat.length : Int) from haf ⟨5, .data⟩ (by simp) rfl 6 rfl)
      obtain rfl : s = 0 := by have := hhi 0 (by decide) (.inl (by kernel_rfl)); omega
      refine step_c (w' := SS 1) rfl fun K hK => ?_
      simp only [List.getElem_toArray, List.getElem_cons_succ, List.getElem_cons_zero] at hK ⊢
      clear haf hlo hhi hun ho hsr
      rw [HS1.out] at hK
      go_simp
      exact hK
    | n + 9, ho, _, _, _, _ => simp at ho
  · intro aa hdf hsz hout hval
    have hat : aa.tmps = #[Value.pointer (some { block := b1, off := 0 }), .pointer (some ⟨e.blk, 0, none⟩), .pointer (some ⟨e.blk, 0, none⟩), .pointer (some ⟨e.blk, 0, none⟩), .pointer (some ⟨e.blk, 0, none⟩), .slice av e.dat.length cv, .int .i64 (e.dat.length : Int), .pointer (some ⟨e.blk, 0, none⟩), .pointer (some ⟨e.blk, 1, none⟩)] := by
      refine arr_one (hsz.trans rfl) fun kk hkk => ?_
      match kk, hkk with
      | 0, _ => exact hout 0 (notDst_spec (by kernel_rfl))
      | 1, _ => exact hval 0 1 (by decide) rfl
      | 2, _ => exact hval 1 2 (by decide) rfl
      | 3, _ => exact hval 2 3 (by decide) rfl
      | 4, _ => exact hval 3 4 (by decide) rfl
      | 5, _ => exact hval 4 5 (by decide) rfl
      | 6, _ => exact hval 5 6 (by decide) rfl
      | 7, _ => exact hval 6 7 (by decide) rfl
      | 8, _ => exact hval 7 8 (by decide) rfl
      | n + 9, h => exact absurd h (by simp)
    obtain ⟨tt, dd⟩ := aa
    simp only at hat hdf
    subst hat hdf
    clear hsz hout hval
    rw [show SS [8].length = SS 1 from rfl]
    go_end0
    exact ⟨⟨_, rfl⟩, HFIN.out⟩
  --END a
theorem alloc_size (w : World) (o : Obj) : (w.alloc o).heap.size = w.heap.size + 1 := by simp
set_option maxRecDepth 100000 in
set_option maxHeartbeats 1000000 in
theorem sync_is (w : World) (d : Nat) (O : Nat → Prop) (S : Ds) (s : ByteArray) (h : DK w d O S) (ha : S.acts < 4611686018427387904) :
    Calls Tryz.prog 57 #[.pointer (some ⟨d, 0, none⟩), .string s] w fun e w' => e = .returned (.int .i64 ((sync S s).1 : Int)) ∧ Nx O w d (sync S s).2 w' := by
  obtain ⟨m, es, h⟩ := h
  obtain ⟨p, hp, hp0⟩ := fans_eq h s true
  have HF := hd (find_is w d m es O S s true h)
  rw [hp] at HF
  have HA : Hid (Calls Tryz.prog 43 #[.pointer (some ⟨d, 0, none⟩), .int .i64 (look S s true : Int), .func (.func 80) #[] #[.pointer (some ⟨w.heap.size, 0, none⟩)]] (w.alloc (.cells #[.pointer p] TP)) fun e w' => e = .returned (.int .i64 ((sync S s).1 : Int)) ∧ Nx O w d (sync S s).2 w') := by
    refine (act_nx _ d m es O S _ _ (look S s true) (gSync s) (h.alloc _) ha (cf39 _) ?_).mono ?_
    · intro h0 w1 ht h1
      obtain ⟨e, hfe, rfl, _⟩ := hp0 h0
      have hb1 : Blk (w.alloc (.cells #[.pointer (some ⟨e.blk, 0, none⟩)] TP)) w.heap.size TP [.pointer (some ⟨e.blk, 0, none⟩)] := Blk.new w _ [.pointer (some ⟨e.blk, 0, none⟩)]
      exact sync1_is w1 d m es O (tick S) s e w.heap.size h1 hfe ((ht.block _ hb1.lt (by have := h.box.lt; omega)).trans hb1)
    · rintro e w' ⟨rfl, hn⟩
      exact ⟨rfl, hn.after (Tr.alloc O w _)⟩
  clear h hp hp0
  generalize look S s true = r at *
  go_enter Tryz.func57, Tryz.ntmps57
  go_wp2_with fail
  refine Calls.mono HF.out ?_
  rintro e w1 ⟨rfl, rfl⟩
  go_wp2_with fail
  refine Calls.mono HA.out ?_
  rintro e w2 ⟨rfl, hn⟩
  have HN := hd hn
  clear hn HA
  go_wp2_with fail
  go_ret
  exact ⟨rfl, HN.out⟩
def sizeOf_ (S : Ds) (s : ByteArray) : Nat := if look S s true ≠ 0 then 0 else ((get S.fs s).map fun f => f.dat.length).getD 0
end Dk
end Go.Proofs.YtnakaomgceoobaaGreat
