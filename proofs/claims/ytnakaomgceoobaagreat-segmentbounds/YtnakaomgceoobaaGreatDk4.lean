/-
  AN ACT, WHATEVER ITS CLOSURE DOES: what act leaves of the disk's state; the walks of Create.
-/
import Derived.Test.YtnakaomgceoobaaGreatDk3
import Derived.BigQuiet
namespace Go.Proofs.YtnakaomgceoobaaGreat
open Go.RowKit Go.Maps
namespace Dk
open Vt
/-- the disk's own struct alone has turned -/
theorem DKm.turn {w w1 : World} {d m : Nat} {es : List En} {O : Nat → Prop} {S S1 : Ds} (h : DKm w d m es O S) (ht : Tr (fun b => b = d) w w1) (hb : Blk w1 d TD (cells S1 m)) (hf : S1.fs = S.fs) (hg : Good S1) : DKm w1 d m es O S1 := by
  have hne : ∀ e ∈ es, e.blk ≠ d := by
    rintro e he rfl
    have h1 : w.heap[e.blk]? = some (.cells (cells S m).toArray TD (0, 0)) := h.box
    have h2 : w.heap[e.blk]? = some (.cells [e.val, .int .i64 (e.las : Int)].toArray TF (0, 0)) := (h.file e he).1
    rw [h1] at h2
    injection h2 with h2
    injection h2 with _ h3 _
    cases h3
  have hm : m ≠ d := fun e => h.map.notBlk h.box e.symm
  refine ⟨hf.trans h.fs, hb, h.map.same (ht.block m h.map.lt hm), fun e he => ⟨(ht.block _ (h.file e he).1.lt (hne e he)).trans (h.file e he).1, ?_⟩, h.apart, h.own, fun b q => Nat.lt_of_lt_of_le (h.olt b q) ht.size, hg⟩
  obtain ⟨h0, h1, ⟨h2, h3⟩ | ⟨g, cap, cur, h2, h3, h4, h5⟩⟩ := (h.file e he).2
  · exact ⟨h0, h1, .inl ⟨h2, h3⟩⟩
  · have hgd : g ≠ d := by
      rintro rfl
      have h6 : w.heap[g]? = some (.cells (cells S m).toArray TD (0, 0)) := h.box
      rw [h4] at h6
      injection h6 with h6
      injection h6 with _ h7 _
      cases h7
    exact ⟨h0, h1, .inr ⟨g, cap, cur, h2, h3, (ht.block g (Array.getElem?_eq_some_iff.1 h4).1 hgd).trans h4, h5⟩⟩
theorem Nx.after {O : Nat → Prop} {w w1 w2 : World} {d : Nat} {S : Ds} (h : Nx O w1 d S w2) (ht : Tr O w w1) : Nx O w d S w2 := by
  obtain ⟨O', h1, h2, h3⟩ := h
  exact ⟨O', h1, ht.trans h2 (fun x q => .inl q), fun b q => (h3 b q).elim .inl (fun q => .inr (Nat.le_trans ht.size q))⟩
theorem Nx.then_ {O O1 : Nat → Prop} {w w1 w2 : World} {d : Nat} {S : Ds} (h : Nx O1 w1 d S w2) (ht : Tr O w w1) (hO : ∀ b, O1 b → O b ∨ w.heap.size ≤ b) : Nx O w d S w2 := by
  obtain ⟨O', h1, h2, h3⟩ := h
  exact ⟨O', h1, ht.trans h2 hO, fun b q => (h3 b q).elim (hO b) (fun q => .inr (Nat.le_trans ht.size q))⟩
theorem Good.dn {S : Ds} (h : Good S) (b : Bool) : Good { S with down := b } := ⟨h.cap, h.used, h.room, h.names, h.isnm, h.las, h.fail, h.brk, h.cnt⟩
theorem act_nx (w : World) (d m : Nat) (es : List En) (O : Nat → Prop) (S : Ds) (ff : Nat) (caps : Array Value) (r : Nat) (g : Ds → Ds) (h : DKm w d m es O S) (ha : S.acts < 4611686018427387904) (hcf : ∀ w, (callFunc ff caps).run Tryz.prog w = .ok (.enter ff caps) w)
    (hdo : r = 0 → ∀ w1, Tr (fun b => b = d) w w1 → DKm w1 d m es O (tick S) → Calls Tryz.prog ff caps w1 fun e w2 => (∃ v, e = .returned v) ∧ Nx O w1 d (g (tick S)) w2) :
    Calls Tryz.prog 43 #[.pointer (some ⟨d, 0, none⟩), .int .i64 (r : Int), .func (.func ff) #[] caps] w fun e w' => e = .returned (.int .i64 ((actOf S r g).1 : Int)) ∧ Nx O w d (actOf S r g).2 w' := by
  unfold actOf
  by_cases hr : r = 0
  · subst hr
    simp only [ne_eq, not_true_eq_false, if_false]
    have hO : ∀ {a b : World}, Tr (fun b => b = d) a b → Tr O a b := fun q => q.mono fun x e _ => by rw [e]; exact h.own.1
    refine Calls.mono (act_is w d m S ff caps h.box h.good ha hcf (fun r' w' => r' = (run S g).1 ∧ Nx O w d (run S g).2 w') ?_ ?_ ?_) ?_
    · intro hb hf w1 ht hb1
      unfold run
      rw [if_neg hb, if_pos hf]
      exact ⟨rfl, O, ⟨m, es, h.turn ht hb1 rfl h.good.tick⟩, hO ht, fun _ q => .inl q⟩
    · intro hb hf w1 ht hb1
      unfold run
      rw [if_pos hb, hf]
      exact ⟨rfl, O, ⟨m, es, h.turn ht hb1 rfl (h.good.tick.dn true)⟩, hO ht, fun _ q => .inl q⟩
    · intro hc w1 ht hb1
      refine (hdo rfl w1 ht (h.turn ht hb1 rfl h.good.tick)).mono ?_
      rintro e w2 ⟨hv, hnx⟩
      have hnx2 := hnx.after (hO ht)
      refine ⟨hv, fun hb => ?_, fun hb => ?_⟩
      · rcases hc with ⟨q, _⟩ | ⟨_, hf⟩
        · exact absurd q hb
        · unfold run
          rw [if_neg hb, if_neg hf]
          exact ⟨rfl, hnx2⟩
      · rcases hc with ⟨_, hdn⟩ | ⟨q, _⟩
        · obtain ⟨O', ⟨m', es', h'⟩, ht', hO'⟩ := hnx2
          refine ⟨⟨_, h'.box.cell 4 _ rfl⟩, h'.box.frozen 4, ?_⟩
          unfold run
          rw [if_pos hb, hdn]
          have hts : Tr (fun b => b = d) w2 (w2.setCell ⟨d, 4, none⟩ (.bool true)) := Tr.set (p := ⟨d, 4, none⟩) (O := fun b => b = d) rfl _
          refine ⟨rfl, O', ⟨m', es', h'.turn hts (h'.box.set _) rfl (h'.good.dn true)⟩, ht'.trans hts (fun x e => .inl (by rw [e]; exact h.own.1)), hO'⟩
        · exact absurd hb q
    · rintro e w' ⟨r', rfl, rfl, hq⟩
      exact ⟨rfl, hq⟩
  · rw [if_pos hr]
    refine (act_ref w _ r _ hr).mono ?_
    rintro e w' ⟨rfl, rfl⟩
    exact ⟨rfl, Nx.same ⟨m, es, h⟩⟩
theorem cf36 (caps : Array Value) (w : World) : (callFunc 77 caps).run Tryz.prog w = .ok (.enter 77 caps) w := by kernel_rfl
set_option maxRecDepth 100000 in
set_option maxHeartbeats 1000000 in
theorem create1_is (w : World) (d m : Nat) (es : List En) (O : Nat → Prop) (S : Ds) (sn : ByteArray) (b1 b2 : Nat) (h : DKm w d m es O S) (h1 : Blk w b1 23 [.pointer (some ⟨d, 0, none⟩)]) (h2 : Blk w b2 TS [.string sn]) (hs : isNm sn = true) (hn : fnd es sn = none) (hc : S.fs.length + 1 ≤ S.acts + 200) (ha : S.acts ≤ 4611686018427387904) :
    Calls Tryz.prog 77 #[.pointer (some ⟨b1, 0, none⟩), .pointer (some ⟨b2, 0, none⟩)] w fun e w2 => (∃ v, e = .returned v) ∧ Nx O w d (gCreate sn S) w2 := by
  have hmx : Tryz.prog.follows .mixedOrders = true := by kernel_rfl
  have hfg : get S.fs sn = none := by rw [h.fs, fnd_get, hn]; rfl
  have hlen : es.length < maxLen := by have := h.good.cnt; rw [h.fs, List.length_map] at hc; unfold maxLen; omega
  have htA : Tr O w (w.alloc (.cells #[.slice none 0 0, .int .i64 0] TF)) := Tr.alloc O w _
  have hA := h.keep (w' := (w.alloc (.cells #[.slice none 0 0, .int .i64 0] TF)).drew) (fun b q => (MapKept.heap_alloc w _).2 b (h.olt b q)) (by simp)
  obtain ⟨w2, hr, hM2, ht2⟩ := hA.map.store ⟨sn, w.heap.size, .slice none 0 0, [], 0⟩ (isNm_len hs) hn hlen
  obtain ⟨SS, hS0, hS1, hS2⟩ : ∃ SS : Nat → World, SS 0 = w.drew ∧ SS 1 = (w.alloc (.cells #[.slice none 0 0, .int .i64 0] TF)).drew ∧ SS 2 = w2 := ⟨fun s => match s with | 0 => w.drew | 1 => (w.alloc (.cells #[.slice none 0 0, .int .i64 0] TF)).drew | _ => w2, rfl, rfl, rfl⟩
  have CC : ∀ j, j ≤ 1 → (SS j).cell? ⟨b1, 0, none⟩ = some (.pointer (some ⟨d, 0, none⟩)) ∧ (SS j).cell? ⟨b2, 0, none⟩ = some (.string sn) ∧ (SS j).cell? ⟨d, 2, none⟩ = some (.map (some m)) := by
    intro j hj
    obtain rfl | rfl : j = 0 ∨ j = 1 := by omega
    · rw [hS0]; exact ⟨h1.cell 0 _ rfl, h2.cell 0 _ rfl, h.box.cell 2 _ rfl⟩
    · rw [hS1]; exact ⟨(h1.alloc _).cell 0 _ rfl, (h2.alloc _).cell 0 _ rfl, (h.box.alloc _).cell 2 _ rfl⟩
  have HFIN : Hid (Nx O w d (gCreate sn S) w2) := by
    have hT : Tr (fun b => O b ∨ b = w.heap.size) (w.alloc (.cells #[.slice none 0 0, .int .i64 0] TF)) w2 := (Tr.drew (fun b => O b ∨ b = w.heap.size) _).trans (Tr.turned (O := fun b => O b ∨ b = w.heap.size) ht2 (.inl h.own.2.1)) fun x q => .inl q
    have hbk : ∀ b, b ≠ m → b < w.heap.size + 1 → w2.heap[b]? = (w.alloc (.cells #[.slice none 0 0, .int .i64 0] TF)).heap[b]? := fun b hb hlt => ht2.grown.block b (by simpa using hlt) (fun q => hb (by injection q))
    have hnew : Blk w2 w.heap.size TF [.slice none 0 0, .int .i64 0] := by
      show w2.heap[w.heap.size]? = _
      rw [hbk _ (by have := h.map.lt; omega) (by omega)]
      exact Blk.new w TF [.slice none 0 0, .int .i64 0]
    have hkeep : ∀ b, O b → b ≠ m → w2.heap[b]? = w.heap[b]? := fun b hb hm => by
      rw [hbk b hm (by have := h.olt b hb; omega)]
      exact (MapKept.heap_alloc w _).2 b (h.olt b hb)
    refine ⟨fun b => O b ∨ b = w.heap.size, ⟨m, es ++ [⟨sn, w.heap.size, .slice none 0 0, [], 0⟩], ?_⟩, htA.trans hT (fun x q => q.elim .inl (fun e => .inr (by omega))), fun b q => q.elim .inl (fun e => .inr (by omega))⟩
    refine ⟨?_, ?_, hM2, ?_, ?_, ⟨.inl h.own.1, .inl h.own.2.1, ?_⟩, ?_, h.good.create hs hfg hc⟩
    · show S.fs ++ [_] = _
      rw [h.fs, List.map_append]; rfl
    · exact (hkeep d h.own.1 (fun e => h.map.notBlk h.box e)).trans h.box
    · intro e he
      rcases List.mem_append.1 he with he | he
      · have hkm : e.blk ≠ m := fun q => h.map.notBlk (h.file e he).1 q
        refine ⟨(hkeep _ (h.own.2.2 e he).1 hkm).trans (h.file e he).1, ?_⟩
        obtain ⟨q0, q1, ⟨q2, q3⟩ | ⟨g, cap, cur, q2, q3, q4, q5⟩⟩ := (h.file e he).2
        · exact ⟨q0, q1, .inl ⟨q2, q3⟩⟩
        · refine ⟨q0, q1, .inr ⟨g, cap, cur, q2, q3, (hkeep g ((h.own.2.2 e he).2 g (by rw [q2]; rfl)) ?_).trans q4, q5⟩⟩
          rintro rfl
          obtain ⟨D, ⟨x, c, q6, _⟩, _⟩ := h.map
          rw [q4] at q6
          cases q6
      · rw [List.mem_singleton.1 he]
        exact ⟨hnew, jb_nil _ _⟩
    · rw [List.pairwise_append]
      refine ⟨h.apart, List.pairwise_singleton _ _, fun a ha b hb => ?_⟩
      rw [List.mem_singleton.1 hb]
      exact ⟨fun q => by have := (h.file a ha).1.lt; simp only at q; omega, fun g _ q => by cases q⟩
    · intro e he
      rcases List.mem_append.1 he with he | he
      · exact ⟨.inl (h.own.2.2 e he).1, fun g q => .inl ((h.own.2.2 e he).2 g q)⟩
      · rw [List.mem_singleton.1 he]
        exact ⟨.inr rfl, fun g q => by cases q⟩
    · intro b q
      have := ht2.grown.size
      simp at this
      rcases q with q | q
      · have := h.olt b q; omega
      · omega
  have HS0 := hd hS0
  have HS1 := hd hS1
  have HS2 := hd hS2
  clear hS0 hS1 hS2 hM2 ht2 hA htA h h1 h2 hfg hlen hc hn hs
  go_enter Tryz.func77, Tryz.ntmps77
  go_wp2_with fail
  --REGION a
  refine region_chain (fun i => match i with
    | 0 => .pointer (some ⟨d, 0, none⟩)
    | 1 => .pointer (some ⟨d, 0, none⟩)
    | 2 => .pointer (some ⟨d, 2, none⟩)
    | 3 => .map (some m)
    | 4 => .string sn
    | 5 => .agg #[.slice none 0 0, .int .i64 0]
    | 6 => .pointer (some ⟨w.heap.size, 0, none⟩)
    | 7 => undef
    | _ => undef) [6, 7] SS hmx (by kernel_rfl) (by kernel_rfl) (by kernel_rfl) (by kernel_rfl) HS0.out ?_ ?_ (by decide)
  · intro i o ho s a hsr hlo hhi hout haf hun
    have e0 := getq (show a.tmps.getD 0 undef = Value.pointer (some { block := b1, off := 0 }) from hout 0 (notDst_spec (by kernel_rfl)))
    have e1 := getq (show a.tmps.getD 1 undef = Value.pointer (some { block := b2, off := 0 }) from hout 1 (notDst_spec (by kernel_rfl)))
    clear hout
    match i, ho, hlo, hhi, haf, hun with
    | 0, ho, hlo, hhi, haf, hun =>
      obtain rfl := Option.some.inj ho
      have hst : s = 0 ∨ s = 1 := by have := hhi 1 (by decide) (.inr (by kernel_rfl)); simp at hsr; omega
      refine step_c (w' := SS s) rfl fun K hK => ?_
      simp only [List.getElem_toArray, List.getElem_cons_zero] at hK ⊢
      clear haf hlo hhi hun ho hsr
      have hc := (CC s (by omega)).1
      go_simp
      exact hK
    | 1, ho, hlo, hhi, haf, hun =>
      obtain rfl := Option.some.inj ho
      have f0 := getq (show a.tmps.getD 2 undef = .pointer (some ⟨d, 0, none⟩) from haf ⟨0, .data⟩ (by simp) rfl 2 rfl)
      refine step_c (w' := SS s) rfl fun K hK => ?_
      simp only [List.getElem_toArray, List.getElem_cons_succ, List.getElem_cons_zero] at hK ⊢
      clear haf hlo hhi hun ho hsr
      go_simp
      exact hK
    | 2, ho, hlo, hhi, haf, hun =>
      obtain rfl := Option.some.inj ho
      have f1 := getq (show a.tmps.getD 3 undef = .pointer (some ⟨d, 0, none⟩) from haf ⟨1, .data⟩ (by simp) rfl 3 rfl)
      refine step_c (w' := SS s) rfl fun K hK => ?_
      simp only [List.getElem_toArray, List.getElem_cons_succ, List.getElem_cons_zero] at hK ⊢
      clear haf hlo hhi hun ho hsr
      go_simp
      exact hK
    | 3, ho, hlo, hhi, haf, hun =>
      obtain rfl := Option.some.inj ho
      have f2 := getq (show a.tmps.getD 4 undef = .pointer (some ⟨d, 2, none⟩) from haf ⟨2, .data⟩ (by simp) rfl 4 rfl)
      have hst : s = 0 ∨ s = 1 := by have := hhi 1 (by decide) (.inr (by kernel_rfl)); simp at hsr; omega
      refine step_c (w' := SS s) rfl fun K hK => ?_
      simp only [List.getElem_toArray, List.getElem_cons_succ, List.getElem_cons_zero] at hK ⊢
      clear haf hlo hhi hun ho hsr
      have hc := (CC s (by omega)).2.2
      go_simp
      exact hK
    | 4, ho, hlo, hhi, haf, hun =>
      obtain rfl := Option.some.inj ho
      have hst : s = 0 ∨ s = 1 := by have := hhi 1 (by decide) (.inr (by kernel_rfl)); simp at hsr; omega
      refine step_c (w' := SS s) rfl fun K hK => ?_
      simp only [List.getElem_toArray, List.getElem_cons_succ, List.getElem_cons_zero] at hK ⊢
      clear haf hlo hhi hun ho hsr
      have hc := (CC s (by omega)).2.1
      go_simp
      exact hK
    | 5, ho, hlo, hhi, haf, hun =>
      obtain rfl := Option.some.inj ho
      obtain rfl : s = 0 := by have := hhi 0 (by decide) (.inr (by kernel_rfl)); simp at hsr; omega
      refine step_c (w' := SS 0) rfl fun K hK => ?_
      simp only [List.getElem_toArray, List.getElem_cons_succ, List.getElem_cons_zero] at hK ⊢
      clear haf hlo hhi hun ho hsr
      go_simp
      exact hK
    | 6, ho, hlo, hhi, haf, hun =>
      obtain rfl := Option.some.inj ho
      have f5 := getq (show a.tmps.getD 7 undef = .agg #[.slice none 0 0, .int .i64 0] from haf ⟨5, .data⟩ (by simp) rfl 7 rfl)
      obtain rfl : s = 0 := by have := hhi 0 (by decide) (.inl (by kernel_rfl)); omega
      refine step_c (w' := SS 1) rfl fun K hK => ?_
      simp only [List.getElem_toArray, List.getElem_cons_succ, List.getElem_cons_zero] at hK ⊢
      clear haf hlo hhi hun ho hsr
      rw [HS1.out] at hK
      rw [HS0.out]
      go_simp
      exact hK
    | 7, ho, hlo, hhi, haf, hun =>
      obtain rfl := Option.some.inj ho
      have f3 := getq (show a.tmps.getD 5 undef = .map (some m) from haf ⟨3, .data⟩ (by simp) rfl 5 rfl)
      have f4 := getq (show a.tmps.getD 6 undef = .string sn from haf ⟨4, .data⟩ (by simp) rfl 6 rfl)
      have f6 := getq (show a.tmps.getD 8 undef = .pointer (some ⟨w.heap.size, 0, none⟩) from haf ⟨6, .data⟩ (by simp) rfl 8 rfl)
      obtain rfl : s = 1 := by have := hlo 0 (by decide) (by kernel_rfl); have := hhi 1 (by decide) (.inl (by kernel_rfl)); omega
      refine step_c (w' := SS 2) rfl fun K hK => ?_
      simp only [List.getElem_toArray, List.getElem_cons_succ, List.getElem_cons_zero] at hK ⊢
      clear haf hlo hhi hun ho hsr
      rw [HS2.out] at hK
      rw [HS1.out]
      go_simp
      exact hK
    | n + 8, ho, _, _, _, _ => simp at ho
  · intro aa hdf hsz hout hval
    have hat : aa.tmps = #[Value.pointer (some { block := b1, off := 0 }), Value.pointer (some { block := b2, off := 0 }), .pointer (some ⟨d, 0, none⟩), .pointer (some ⟨d, 0, none⟩), .pointer (some ⟨d, 2, none⟩), .map (some m), .string sn, .agg #[.slice none 0 0, .int .i64 0], .pointer (some ⟨w.heap.size, 0, none⟩)] := by
      refine arr_one (hsz.trans rfl) fun kk hkk => ?_
      match kk, hkk with
      | 0, _ => exact hout 0 (notDst_spec (by kernel_rfl))
      | 1, _ => exact hout 1 (notDst_spec (by kernel_rfl))
      | 2, _ => exact hval 0 2 (by decide) rfl
      | 3, _ => exact hval 1 3 (by decide) rfl
      | 4, _ => exact hval 2 4 (by decide) rfl
      | 5, _ => exact hval 3 5 (by decide) rfl
      | 6, _ => exact hval 4 6 (by decide) rfl
      | 7, _ => exact hval 5 7 (by decide) rfl
      | 8, _ => exact hval 6 8 (by decide) rfl
      | n + 9, h => exact absurd h (by simp)
    obtain ⟨tt, dd⟩ := aa
    simp only at hat hdf
    subst hat hdf
    clear hsz hout hval
    rw [show SS [6, 7].length = w2 from HS2.out]
    go_end0
    exact ⟨⟨_, rfl⟩, HFIN.out⟩
  --END a
theorem DKm.drewN {w : World} {d m : Nat} {es : List En} {O : Nat → Prop} {S : Ds} (h : DKm w d m es O S) (n : Nat) : DKm (w.drewN n) d m es O S := h.keep (fun _ _ => rfl) (Nat.le_refl _)
theorem DKm.alloc {w : World} {d m : Nat} {es : List En} {O : Nat → Prop} {S : Ds} (h : DKm w d m es O S) (o : Obj) : DKm (w.alloc o) d m es O S := h.keep (fun b q => (MapKept.heap_alloc w o).2 b (h.olt b q)) (by simp)
theorem rCreate_bar {S : Ds} {s : ByteArray} {r : Nat} (h : bar S (isNm s) = r) (hr : r ≠ 0) : rCreate S s = r := by unfold rCreate; rw [h, if_pos hr]
theorem rCreate_get {S : Ds} {s : ByteArray} (h : bar S (isNm s) = 0) : rCreate S s = if (get S.fs s).isSome then 72 else 0 := by unfold rCreate; rw [h]; simp
theorem bar_zero {S : Ds} {b : Bool} (h : bar S b = 0) : b = true := by
  unfold bar at h
  cases b
  · cases hd : S.down <;> rw [hd] at h <;> simp at h
  · rfl
set_option maxRecDepth 100000 in
set_option maxHeartbeats 1000000 in
theorem create_is (w : World) (d : Nat) (O : Nat → Prop) (S : Ds) (s : ByteArray) (h : DK w d O S) (ha : S.acts < 4611686018427387904) :
    Calls Tryz.prog 54 #[.pointer (some ⟨d, 0, none⟩), .string s] w fun e w' => e = .returned (.int .i64 ((create S s).1 : Int)) ∧ Nx O w d (create S s).2 w' := by
  obtain ⟨m, es, h⟩ := h
  obtain ⟨W, hW⟩ : ∃ W, W = (w.alloc (.cells #[.pointer (some ⟨d, 0, none⟩)] 23)).alloc (.cells #[.string s] TS) := ⟨_, rfl⟩
  have hK : DKm W d m es O S := by rw [hW]; exact (h.alloc _).alloc _
  have htW : Tr O w W := by rw [hW]; exact (Tr.alloc O w _).trans (Tr.alloc O _ _) fun x q => .inl q
  have hb1 : Blk W w.heap.size 23 [.pointer (some ⟨d, 0, none⟩)] := by rw [hW]; exact (Blk.new w _ [.pointer (some ⟨d, 0, none⟩)]).alloc _
  have hb2 : Blk W (w.heap.size + 1) TS [.string s] := by
    rw [hW]
    have := Blk.new (w.alloc (.cells #[.pointer (some ⟨d, 0, none⟩)] 23)) TS [.string s]
    rwa [show (w.alloc (.cells #[.pointer (some ⟨d, 0, none⟩)] 23)).heap.size = w.heap.size + 1 by simp] at this
  obtain ⟨r, hr⟩ : ∃ r, bar S (isNm s) = r := ⟨_, rfl⟩
  have HI : Hid (∀ n, Calls Tryz.prog 26 #[.string s] (W.drewN n) fun e w' => e = .returned (.bool (isNm s)) ∧ w' = W.drewN n) := fun n => isName_is s _
  have HB : Hid (∀ n, Calls Tryz.prog 66 #[.pointer (some ⟨d, 0, none⟩), .bool (isNm s)] (W.drewN n) fun e w' => e = .returned (.int .i64 (r : Int)) ∧ w' = W.drewN n) := by
    intro n
    rw [← hr]
    exact bar_is (W.drewN n) d O S (isNm s) ⟨m, es, hK.drewN n⟩
  have HA : Hid (∀ n, Calls Tryz.prog 43 #[.pointer (some ⟨d, 0, none⟩), .int .i64 (rCreate S s : Int), .func (.func 77) #[] #[.pointer (some ⟨w.heap.size, 0, none⟩), .pointer (some ⟨w.heap.size + 1, 0, none⟩)]] (W.drewN n) fun e w' => e = .returned (.int .i64 ((create S s).1 : Int)) ∧ Nx O w d (create S s).2 w') := by
    intro n
    refine (act_nx (W.drewN n) d m es O S _ _ (rCreate S s) (gCreate s) (hK.drewN n) ha (cf36 _) ?_).mono ?_
    · intro h0 w1 ht h1
      have hbz : bar S (isNm s) = 0 := by
        by_cases q : bar S (isNm s) = 0
        · exact q
        · rw [rCreate_bar rfl q] at h0; exact absurd h0 q
      have hg0 : get S.fs s = none := by
        rw [rCreate_get hbz] at h0
        cases hg : get S.fs s
        · rfl
        · rw [hg] at h0; simp at h0
      have hfn : fnd es s = none := by
        rw [h.fs, fnd_get] at hg0
        simpa using hg0
      have hd1 : w.heap.size ≠ d := by have := h.box.lt; omega
      have hd2 : w.heap.size + 1 ≠ d := by have := h.box.lt; omega
      refine create1_is w1 d m es O (tick S) s _ _ h1 ((ht.block _ (hb1.lt) hd1).trans hb1) ((ht.block _ (hb2.lt) hd2).trans hb2) (bar_zero hbz) hfn ?_ ?_
      · show S.fs.length + 1 ≤ S.acts + 1 + 200
        have := h.good.cnt
        omega
      · show S.acts + 1 ≤ _; omega
    · rintro e w' ⟨rfl, hn⟩
      exact ⟨rfl, hn.after (htW.trans (Tr.drewN O W n) fun x q => .inl q)⟩
  have c0 : ∀ n, (W.drewN n).cell? ⟨w.heap.size, 0, none⟩ = some (.pointer (some ⟨d, 0, none⟩)) := fun n => hb1.cell 0 _ rfl
  have c1 : ∀ n, (W.drewN n).cell? ⟨w.heap.size + 1, 0, none⟩ = some (.string s) := fun n => hb2.cell 0 _ rfl
  have HW := hd hW
  have HH := hd h
  have HKK := hd hK
  have HR := hd hr
  clear h hW hK hr htW hb1 hb2
  go_enter Tryz.func54, Tryz.ntmps54
  go_wp2_with fail
  rw [← HW.out]
  go_quiet (first | (go_at_call 26; exact Calls.quiet_of_same (HI.out _)) | (go_at_call 66; exact Calls.quiet_of_same (HB.out _)))
  obtain ⟨W2, hW2⟩ : ∃ W2, W2 = W.drewN nq := ⟨_, rfl⟩
  have dd : ∀ n, W2.drewN n = W.drewN (nq + n) := fun n => by rw [hW2, World.drewN_drewN]
  have c0' : ∀ n, (W2.drewN n).cell? ⟨w.heap.size, 0, none⟩ = some (.pointer (some ⟨d, 0, none⟩)) := fun n => by rw [dd]; exact c0 _
  have c1' : ∀ n, (W2.drewN n).cell? ⟨w.heap.size + 1, 0, none⟩ = some (.string s) := fun n => by rw [dd]; exact c1 _
  have c2' : ∀ n, (W2.drewN n).cell? ⟨d, 2, none⟩ = some (.map (some m)) := fun n => by rw [dd]; exact (HKK.out.drewN _).box.cell 2 _ rfl
  have HA' : Hid (∀ n, Calls Tryz.prog 43 #[.pointer (some ⟨d, 0, none⟩), .int .i64 (rCreate S s : Int), .func (.func 77) #[] #[.pointer (some ⟨w.heap.size, 0, none⟩), .pointer (some ⟨w.heap.size + 1, 0, none⟩)]] (W2.drewN n) fun e w' => e = .returned (.int .i64 ((create S s).1 : Int)) ∧ Nx O w d (create S s).2 w') := fun n => by rw [dd]; exact HA.out _
  have HDD := hd dd
  clear HA HI HB c0 c1 dd
  rw [← hW2]
  clear hW2
  by_cases hr0 : r = 0
  · subst hr0
    have hl : ∀ n, (Instr.lookup TM (.map (some m)) (.string s) false).run Tryz.prog (W2.drewN n) = .ok (ptrV ((fnd es s).map En.blk)) (W2.drewN n) := fun n => by rw [HDD.out]; exact (HKK.out.drewN _).map.look (isNm_len (bar_zero HR.out))
    have HRC : Hid (rCreate S s = if (fnd es s).isSome then 72 else 0) := by
      show rCreate S s = _
      rw [rCreate_get HR.out, HH.out.fs, fnd_get, Option.isSome_map]
    cases hf : fnd es s with
    | none =>
      rw [hf] at hl HRC
      simp only [Option.map_none, ptrV] at hl
      rw [HRC.out] at HA'
      clear HRC hf
      go_wp2_with fail
      go_quiet (fail)
      go_wp2_with fail
      refine Calls.mono (HA'.out _) ?_
      rintro e w1 ⟨rfl, hn⟩
      have HN := hd hn
      clear hn
      go_wp2_with fail
      go_ret
      exact ⟨rfl, HN.out⟩
    | some e0 =>
      rw [hf] at hl HRC
      simp only [Option.map_some, ptrV] at hl
      rw [HRC.out] at HA'
      clear HRC hf
      go_wp2_with fail
      go_quiet (fail)
      go_wp2_with fail
      refine Calls.mono (HA'.out _) ?_
      rintro e w1 ⟨rfl, hn⟩
      have HN := hd hn
      clear hn
      go_wp2_with fail
      go_ret
      exact ⟨rfl, HN.out⟩
  · have hr0' : ¬ ((r : Int) = 0) := by omega
    rw [rCreate_bar HR.out hr0] at HA'
    go_wp2_with fail
    go_quiet (fail)
    go_wp2_with fail
    refine Calls.mono (HA'.out _) ?_
    rintro e w1 ⟨rfl, hn⟩
    have HN := hd hn
    clear hn
    go_wp2_with fail
    go_ret
    exact ⟨rfl, HN.out⟩
end Dk
end Go.Proofs.YtnakaomgceoobaaGreat
