/-
  THE WALK OF Crash.
  A frame behind a region whose operations write neighbouring slots, told at once. No condition beyond those that the theorem bears.
  A SLICE OF LINES AS A PARAMETER.
-/
import Derived.Test.YtolddolfpnkndaaGreatXuah
import Derived.Test.YtolddolfpnkndaaGreatXuai
import Derived.Test.YtolddolfpnkndaaGreatXuap
import Derived.Test.YtolddolfpnkndaaGreatXubi
import Derived.Deep.Matrix
namespace Go.Proofs.YtolddolfpnkndaaGreat
open Go.RowKit Go.Maps Go.WideMaps
namespace Dk
open Vt
attribute [local go_sem ↓] slice_hid min_hid max_hid
theorem invK (key : Value) (l : Lit) (h : keyOf Tryz.prog TS key = some l) : ∃ x, key = Value.string x := by
  obtain ⟨s, h1, _⟩ := string_of_keyOf Tryz.underlying9 h
  exact ⟨s, h1⟩
theorem invV (v : Value) (y : DataW Unit × List MemPlace) (h : ptrElem v = some y) : ∃ c, v = ptrV c := by
  obtain ⟨x, h1, _⟩ := ptrElem_inv h
  exact ⟨x, h1⟩
/-- Crash's loop under way -/
structure Cr (w : World) (d m : Nat) (es : List En) (O : Nat → Prop) (S : Ds) (keep : Int) (D : DataW Unit) (r : Nat) (wr : World) (lf : Lit → Bool) (cnt : Nat) (es' : List En) (O' : Nat → Prop) : Prop where
  rng : wr.ranges Tryz.prog TS ptrElem m r es.length D lf cnt
  q : DKq wr d m es' O' (cells { S with used := gone lf (fun e => (crashed keep e.fi).dat.length) es } m)
  blk : es'.map En.blk = es.map En.blk
  fi : es'.map En.fi = crs keep lf es
  tr : Tr O w wr
  sub : ∀ b, O' b → O b ∨ w.heap.size ≤ b
  nr : ¬ O' r
theorem ranges_same {w w' : World} {m r n : Nat} {D : DataW Unit} {lf : Lit → Bool} {cnt : Nat} (h : w.ranges Tryz.prog TS ptrElem m r n D lf cnt) (h1 : w'.heap[m]? = w.heap[m]?) (h2 : w'.heap[r]? = w.heap[r]?) : w'.ranges Tryz.prog TS ptrElem m r n D lf cnt := by
  obtain ⟨es, clock, since, seen, c0, hb, F, hs, hD, hr, hrest⟩ := h
  exact ⟨es, clock, since, seen, c0, h1.trans hb, F, hs, hD, h2.trans hr, hrest⟩
theorem Cr.step {w : World} {d m : Nat} {es : List En} {O : Nat → Prop} {S : Ds} {keep : Int} {D : DataW Unit} {wr : World} {lf : Lit → Bool} {cnt : Nat} {es' : List En} {O' : Nat → Prop} (hC : Cr w d m es O S keep D w.heap.size wr lf cnt es' O')
    (hnm : es.Pairwise fun a b => a.nm ≠ b.nm) {s : ByteArray} (hs : s.size ≤ maxLen) (hl : lf (kl s) = true) {e e0 : En} (hfe : fnd es s = some e) (hfe0 : fnd es' s = some e0) (_hbe : e0.blk = e.blk) (hfi : e0.fi = e.fi) {n : Nat} (hn : n = left keep e.fi) (hnle : n ≤ e0.dat.length)
    {w1 w2 wf : World} {cnt1 : Nat} (hg1 : wr.grownBy w1 (some w.heap.size)) (hrg1 : w1.ranges Tryz.prog TS ptrElem m w.heap.size es.length D (strike lf (kl s)) cnt1) {v' x : Value} (hb2 : Blk w2 e0.blk TF [v', x]) (hJ2 : JB w2 0 v' (e0.dat.take n)) (ht2 : Tr (fun b => b = e0.blk) w1.drew w2) (hl2 : ∀ g, v'.ownBlock = some g → w1.drew.heap.size ≤ g)
    (hwf : wf = (w2.setCell ⟨e0.blk, 1, none⟩ (.int .i64 (n : Int))).drew.setCell ⟨d, 1, none⟩ (.int .i64 ((gone lf (fun e => (crashed keep e.fi).dat.length) es : Int) + (n : Int)))) :
    Cr w d m es O S keep D w.heap.size wf (strike lf (kl s)) cnt1 (updE es' s { e0 with val := v', dat := e0.dat.take n, las := n }) (fun b => O' b ∨ v'.ownBlock = some b) := by
  have ht1 : Tr (fun b => b = w.heap.size) wr w1 := Tr.grown (O := fun b => b = w.heap.size) hg1 fun k q => by injection q with q; exact q.symm
  have hq1 := hC.q.aside ht1 (fun b q z => hC.nr (by rw [← z]; exact q))
  obtain ⟨hm0, hs0⟩ := fnd_mem hfe0
  obtain ⟨hfb, hJ⟩ := hq1.file e0 hm0
  have hed : e0.blk ≠ d := blk_ne hfb hq1.box (by decide)
  have hlw : (e0.dat.take n).length = n := by rw [List.length_take]; omega
  have hdat : e0.dat = e.dat := congrArg Fi.dat hfi
  have hcr : (crashed keep e.fi).dat.length = n := by
    show (e.dat.take (left keep e.fi)).length = n
    rw [← hn, ← hdat]; exact hlw
  have hbd2 : Blk w2 d TD _ := (ht2.block d hq1.box.lt (fun q => hed q.symm)).trans hq1.box
  have hsz1 : wr.heap.size ≤ w1.heap.size := hg1.size
  have hsz2 : w1.heap.size ≤ w2.heap.size := ht2.size
  have hwr : w.heap.size < wr.heap.size := hC.rng.lt
  have hwfs : wf.heap.size = w2.heap.size := by rw [hwf, set_size]; exact set_size _ _ _ _
  have hblk : ∀ b, b ≠ e0.blk → b ≠ d → wf.heap[b]? = w2.heap[b]? := by
    intro b q1 q2
    rw [hwf, set_heap _ _ _ _ _ q2]
    exact set_heap _ _ _ _ _ q1
  have hblk1 : ∀ b, b < w1.heap.size → b ≠ e0.blk → b ≠ d → wf.heap[b]? = w1.heap[b]? := fun b h1 q1 q2 => (hblk b q1 q2).trans (ht2.block b h1 q1)
  have hmd : m ≠ d := fun q => hq1.map.notBlk hq1.box q.symm
  have hme : m ≠ e0.blk := fun q => hq1.map.notBlk hfb q.symm
  have hrO : ∀ b, O' b → b ≠ w.heap.size := fun b q z => hC.nr (by rw [← z]; exact q)
  refine ⟨ranges_same hrg1 (hblk1 m hq1.map.lt hme hmd) (hblk1 _ (by omega) (fun q => hrO _ (hq1.own.2.2 e0 hm0).1 q.symm) (fun q => hrO _ hq1.own.1 q.symm)), ?_, ?_, ?_, ?_, ?_, ?_⟩
  · refine hq1.put hfe0 rfl rfl (fun b hb q1 q2 _ => hblk1 b (hq1.olt b hb) q1 q2) (by omega) ?_ ?_ ?_ ?_
    · rw [gone_step hnm hfe hs hl, hcr, hwf]
      exact Blk.set (W := (w2.setCell ⟨e0.blk, 1, none⟩ (.int .i64 (n : Int))).drew) (Blk.other (W := w2) hbd2 hed _) _
    · rw [hwf]
      exact Blk.other (W := (w2.setCell ⟨e0.blk, 1, none⟩ (.int .i64 (n : Int))).drew) (hb2.set _) (fun q => hed q.symm) _
    · exact JB.same hJ2 fun g hg => hblk g (jb_ne hJ2 hg hb2 (by decide)) (jb_ne hJ2 hg hbd2 (by decide))
    · exact fun g q => .inr (hl2 g q)
  · rw [← hC.blk]
    unfold updE
    rw [List.map_map]
    refine List.map_congr_left fun z hz => ?_
    simp only [Function.comp]
    split
    · rename_i q
      rw [one_nm hq1.names hfe0 hz q]
    · rfl
  · rw [← crs_step hs hl, ← hC.fi]
    refine updE_fi fun z hz q => ?_
    rw [one_nm hq1.names hfe0 hz q]
    show (⟨e0.nm, e0.dat.take n, n⟩ : Fi) = ⟨e0.nm, e0.dat.take (left keep e0.fi), (e0.dat.take (left keep e0.fi)).length⟩
    rw [hfi, ← hn, hlw]
  · have t1 : Tr O w w1 := hC.tr.trans ht1 fun b q => .inr (by omega)
    have t2 : Tr O w w2 := (t1.trans (Tr.drew O w1) fun b q => .inl q).trans ht2 fun b q => by rw [q]; exact hC.sub _ (hq1.own.2.2 e0 hm0).1
    have t3 : Tr O w (w2.setCell ⟨e0.blk, 1, none⟩ (.int .i64 (n : Int))).drew := (t2.trans (Tr.set (O := fun b => b = e0.blk) (p := ⟨e0.blk, 1, none⟩) rfl _) fun b q => by rw [q]; exact hC.sub _ (hq1.own.2.2 e0 hm0).1).trans (Tr.drew O _) fun b q => .inl q
    rw [hwf]
    exact t3.trans (Tr.set (O := fun b => b = d) (p := ⟨d, 1, none⟩) rfl _) fun b q => by rw [q]; exact hC.sub _ hq1.own.1
  · intro b q
    rcases q with q | q
    · exact hC.sub b q
    · have : w1.heap.size ≤ b := hl2 b q
      exact .inr (by omega)
  · rintro (q | q)
    · exact hC.nr q
    · have : w1.heap.size ≤ w.heap.size := hl2 _ q
      omega
theorem get_crs (keep : Int) (lf : Lit → Bool) (es : List En) (s : ByteArray) : get (crs keep lf es) s = (fnd es s).map fun e => if lf (kl e.nm) then e.fi else crashed keep e.fi := by
  unfold get crs fnd
  rw [List.find?_map]
  congr 2
  funext e
  simp only [Function.comp]
  rw [crs_nm]
theorem crash_find {w : World} {d m : Nat} {es : List En} {O : Nat → Prop} {S : Ds} {keep : Int} {D : DataW Unit} {r : Nat} {wr : World} {lf : Lit → Bool} {cnt : Nat} {es' : List En} {O' : Nat → Prop}
    (hat : ∀ s : ByteArray, s.size ≤ maxLen → D.atKey (kl s) .nil = rdP ((fnd es s).map En.blk)) (hhas : ∀ s : ByteArray, s.size ≤ maxLen → Maps.has D (kl s) = (fnd es s).isSome) (h : Cr w d m es O S keep D r wr lf cnt es' O') {s : ByteArray} (hs : s.size ≤ maxLen) (hl : lf (kl s) = true)
    {c : Option Nat} {y : DataW Unit} {yp : List MemPlace} (hy : ptrElem (ptrV c) = some (y, yp)) (hya : ∀ zd, D.atKey (kl s) zd = y) : ∃ e e0, fnd es s = some e ∧ c = some e.blk ∧ fnd es' s = some e0 ∧ e0.blk = e.blk ∧ e0.fi = e.fi := by
  have h1 := Maps.has_true_of_atKey hya
  rw [hhas s hs] at h1
  cases hf : fnd es s with
  | none => rw [hf] at h1; cases h1
  | some e =>
    have h2 := hya .nil
    rw [hat s hs, hf] at h2
    rw [ptrElem_mk] at hy
    injection hy with hy
    have h3 : rdP c = y := congrArg Prod.fst hy
    have hc : c = some e.blk := rdP_inj (h3.trans h2.symm)
    have hnm : es'.map En.nm = es.map En.nm := by
      have := congrArg (List.map Fi.nm) h.fi
      unfold crs at this
      rw [List.map_map, List.map_map] at this
      refine this.trans (List.map_congr_left fun x _ => ?_)
      exact crs_nm keep lf x
    have h4 := fnd_blk h.blk hnm s
    rw [hf] at h4
    cases hf' : fnd es' s with
    | none => rw [hf'] at h4; cases h4
    | some e0 =>
      rw [hf'] at h4
      have h5 : e0.blk = e.blk := by simpa using h4
      have h6 : get (es'.map En.fi) s = some e0.fi := by rw [fnd_get, hf']; rfl
      rw [h.fi, get_crs, hf] at h6
      have h7 : (fnd_mem hf).2 = (fnd_mem hf).2 := rfl
      simp only [Option.map_some, (fnd_mem hf).2, hl, if_true] at h6
      injection h6 with h6
      exact ⟨e, e0, rfl, hc, rfl, h5, h6.symm⟩
theorem crash_len {w : World} {d m : Nat} {es : List En} {O : Nat → Prop} {S : Ds} (h : DKm w d m es O S) {s : ByteArray} {e e0 : En} (hf : fnd es s = some e) (hfi : e0.fi = e.fi) : e0.las ≤ e0.dat.length ∧ e0.dat.length ≤ 4194304 := by
  have h1 : e0.las = e.las := congrArg Fi.las hfi
  have h2 : e0.dat = e.dat := congrArg Fi.dat hfi
  have h3 := h.good.las e.fi (by rw [h.fs]; exact List.mem_map.2 ⟨e, (fnd_mem hf).1, rfl⟩)
  have h4 : e.dat.length ≤ S.used := by rw [h.good.used, h.fs]; exact get_len_le (f := e.fi) (by rw [fnd_get, hf]; rfl)
  have h5 := h.good.room
  have h6 := h.good.cap
  have h7 : e.las ≤ e.dat.length := h3
  rw [h1, h2]
  omega
set_option maxRecDepth 100000 in
set_option maxHeartbeats 1000000 in
theorem crash_is (w : World) (d : Nat) (O : Nat → Prop) (S : Ds) (keep : Int) (h : DK w d O S) :
    Calls Tryz.prog 13 #[.pointer (some ⟨d, 0, none⟩), .int .i64 keep] w fun e w' => e = .returned (.int .i64 0) ∧ Nx O w d (crash keep S) w' := by
  have hmx : Tryz.prog.follows .mixedOrders = true := by kernel_rfl
  obtain ⟨m, es, h⟩ := h
  obtain ⟨W, hW⟩ : ∃ W, W = w.setCell ⟨d, 1, none⟩ (.int .i64 0) := ⟨_, rfl⟩
  have htd : Tr (fun b => b = d) w W := by rw [hW]; exact Tr.set (O := fun b => b = d) (p := ⟨d, 1, none⟩) rfl _
  have hq0 : DKq W d m es O (cells { S with used := 0 } m) := h.q.turn htd (by rw [hW]; exact h.box.set _)
  have hO : ∀ {a b : World}, Tr (fun b => b = d) a b → Tr O a b := fun q => q.mono fun x e _ => by rw [e]; exact h.own.1
  have htW : Tr O w W := hO htd
  obtain ⟨D, hown, hat, hhas, hsz⟩ := hq0.map
  have c1 := h.box.cell 1 _ rfl
  have f1 := h.box.frozen 1
  have c2 : W.cell? ⟨d, 2, none⟩ = some (.map (some m)) := hq0.box.cell 2 _ rfl
  have HW := hd hW
  have H := hd h
  have HQ0 := hd hq0
  have HTW := hd htW
  have hWs : W.heap.size = w.heap.size := by rw [hW]; exact set_size _ _ _ _
  have HWs := hd hWs
  clear hW h hq0 htW htd hWs
  go_enter Tryz.func13, Tryz.ntmps13
  rw [HW.out] at hown c2
  go_wp2_with (first
    | (at_range; refine wpList_range_own _ rfl _ TM rfl TS TP law Tryz.underlying84 _ m es.length _ rfl hown ?_; intro w0 hrg0 hg0 hs0; rw [← HW.out] at hrg0 hg0 hs0)
    | go_in)
  go_frame
  rw [show (w.setCell ⟨d, 1, none⟩ (.int .i64 0)).heap.size = w.heap.size from set_size _ _ _ _]
  rw [HWs.out] at hrg0 hs0
  have START : Cr w d m es O S keep D w.heap.size w0 (Maps.has D) (Maps.size D) es O := by
    have hall : ∀ e ∈ es, Maps.has D (kl e.nm) = true := by
      intro e he
      have hnm := H.out.good.isnm e.fi (by rw [H.out.fs]; exact List.mem_map.2 ⟨e, he, rfl⟩)
      rw [hhas e.nm (isNm_len hnm)]
      cases hf : fnd es e.nm with
      | none => exact absurd rfl (fnd_none.1 hf e he)
      | some _ => rfl
    have hTg : Tr (fun _ => False) W w0 := Tr.grown hg0 fun k q => by cases q
    refine ⟨hrg0, ?_, rfl, (crs_start hall).symm, HTW.out.trans hTg (fun x q => q.elim), fun b q => .inl q, fun q => by have := H.out.olt _ q; omega⟩
    rw [gone_none hall]
    exact HQ0.out.aside hTg (fun _ _ q => q)
  have HST := hd START
  clear START hrg0 hg0 hs0 hown c1 c2 f1
  go_loopw [6] (fun _ wr => ∃ lf cnt es' O', Cr w d m es O S keep D w.heap.size wr lf cnt es' O') (fun _ wr => wr.rangeLeft m w.heap.size)
  case atStart => exact ⟨_, _, _, _, HST.out⟩
  case round =>
    obtain ⟨lf, cnt, es', O', hC⟩ := hrel
    have HC := hd hC
    have hrg := hC.rng
    clear hC
    go_wp2_with (first
      | (at_next; refine wpList_next_ranges _ rfl _ rfl TS law ptrElem Value.string ptrV invK invV m w.heap.size es.length D lf cnt rfl hrg ?_ ?_)
      | go_in)
    · intro _ hl0
      have hb := HC.out.q.box
      have c4 := hb.cell 4 _ rfl
      have f4 := hb.frozen 4
      have c5 := hb.cell 5 _ rfl
      have f5 := hb.frozen 5
      have c6 := hb.cell 6 _ rfl
      have f6 := hb.frozen 6
      have c7 := hb.cell 7 _ rfl
      have f7 := hb.frozen 7
      have FIN : Hid (Nx O w d (crash keep S) ((((wr.setCell ⟨d, 4, none⟩ (.bool false)).setCell ⟨d, 5, none⟩ (.int .i64 0)).setCell ⟨d, 6, none⟩ (.int .i64 0)).setCell ⟨d, 7, none⟩ (.bool false))) := by
        have hu : gone lf (fun e => (crashed keep e.fi).dat.length) es = (crash keep S).used := by
          rw [gone_all hl0]
          show _ = tot (S.fs.map (crashed keep))
          rw [H.out.fs]
          unfold tot
          rw [List.map_map, List.map_map]
          rfl
        have ht : Tr (fun b => b = d) wr ((((wr.setCell ⟨d, 4, none⟩ (.bool false)).setCell ⟨d, 5, none⟩ (.int .i64 0)).setCell ⟨d, 6, none⟩ (.int .i64 0)).setCell ⟨d, 7, none⟩ (.bool false)) :=
          (((Tr.set (O := fun b => b = d) (p := ⟨d, 4, none⟩) rfl _).trans (Tr.set (O := fun b => b = d) (p := ⟨d, 5, none⟩) rfl _) fun b q => .inl q).trans (Tr.set (O := fun b => b = d) (p := ⟨d, 6, none⟩) rfl _) fun b q => .inl q).trans (Tr.set (O := fun b => b = d) (p := ⟨d, 7, none⟩) rfl _) fun b q => .inl q
        rw [hu] at hb
        have hq := HC.out.q.turn ht ((((hb.set (j := 4) _).set (j := 5) _).set (j := 6) _).set (j := 7) _)
        refine ⟨O', ⟨m, es', DKq.m (S := crash keep S) hq ?_ (H.out.good.crash keep)⟩, HC.out.tr.trans ht (fun b q => by rw [q]; exact HC.out.sub _ HC.out.q.own.1), HC.out.sub⟩
        rw [HC.out.fi, crs_end hl0, ← H.out.fs]
        rfl
      clear hb
      go_wp2_with fail
      go_ret
      exact ⟨rfl, FIN.out⟩
    · intro s c kk y yp w1 cnt1 hkk hlk hy hyat hrg1 hlt hg1 hs1 hen
      obtain ⟨s', es1, rfl, hsl⟩ := string_of_keyOf Tryz.underlying9 hkk
      injection es1 with es1
      subst es1
      obtain ⟨e, e0, hfe, hce, hfe0, hbe, hfie⟩ := crash_find hat hhas HC.out hsl hlk hy hyat
      subst hce
      have hq1 := HC.out.q.aside (Tr.grown (O := fun b => b = w.heap.size) hg1 fun k q => by injection q with q; exact q.symm) (fun b q z => HC.out.nr (by rw [← z]; exact q))
      obtain ⟨hm0, hs0⟩ := fnd_mem hfe0
      obtain ⟨hfb, hJ⟩ := hq1.file e0 hm0
      obtain ⟨av, cv, hv, hlc⟩ := hJ.shape
      have hle0 : e0.las ≤ e0.dat.length ∧ e0.dat.length ≤ 4194304 := crash_len H.out hfe hfie
      obtain ⟨hlas, hlen⟩ := hle0
      obtain ⟨kt, hkt⟩ : ∃ kt, kt = keep.toNat := ⟨_, rfl⟩
      obtain ⟨mn, hmn⟩ : ∃ mn, mn = min kt (e0.dat.length - e0.las) := ⟨_, rfl⟩
      have hn : e0.las + mn ≤ e0.dat.length := by omega
      have HN : Hid (e0.las + mn = left keep e.fi) := by rw [hmn, hkt, ← hfie]; rfl
      have R1 : ∀ w, (mxO #[3, 3] 3 #[.int .i64 keep, .int .i64 0]).run Tryz.prog w = .ok (.int .i64 (kt : Int)) w := run_mxO _ _ _ _ _ (by split <;> omega)
      have R2 : ∀ w, (mnO #[3, 3] 3 #[.int .i64 (kt : Int), .int .i64 ((e0.dat.length : Int) - (e0.las : Int))]).run Tryz.prog w = .ok (.int .i64 (mn : Int)) w := run_mnO _ _ _ _ _ (by split <;> omega)
      have HWR1 : Hid (IntKind.i64.wrap ((e0.dat.length : Int) - (e0.las : Int)) = (e0.dat.length : Int) - (e0.las : Int)) := by show IntKind.i64.wrap _ = _; rw [IntKind.wrap_i64]; omega
      have HWR2 : Hid (IntKind.i64.wrap ((e0.las : Int) + (mn : Int)) = (e0.las : Int) + (mn : Int)) := by show IntKind.i64.wrap _ = _; rw [IntKind.wrap_i64]; omega
      have HCUT : Hid (Calls Tryz.prog 32 #[.pointer (some ⟨e0.blk, 0, none⟩), .int .i64 ((e0.las : Int) + (mn : Int))] w1.drew fun e w' => (∃ u, e = .returned u) ∧ ∃ v', Blk w' e0.blk TF [v', .int .i64 ((min e0.las (e0.las + mn) : Nat) : Int)] ∧ JB w' 0 v' (e0.dat.take (e0.las + mn)) ∧ Tr (fun b => b = e0.blk) w1.drew w' ∧ ∀ g, v'.ownBlock = some g → w1.drew.heap.size ≤ g) := cut_is w1.drew e0.blk e0.val e0.dat e0.las (e0.las + mn) hfb hJ hn (by omega)
      have C1 : w1.drew.cell? ⟨e0.blk, 0, none⟩ = some (.slice av e0.dat.length cv) := by rw [← hv]; exact hfb.cell 0 _ rfl
      have C2 : w1.drew.cell? ⟨e0.blk, 1, none⟩ = some (.int .i64 (e0.las : Int)) := hfb.cell 1 _ rfl
      have HQ1 := hd hq1
      have HG1 := hd hg1
      have HR1 := hd hrg1
      have HFE := hd hfe
      have HFE0 := hd hfe0
      have HBE := hd hbe
      have HFI := hd hfie
      have HLT := hd hlt
      have HLK := hd hlk
      have hen' : (Instr.entry (.pointer (some ⟨w.heap.size, 0, none⟩))).run Tryz.prog w1 = .ok (.tuple #[.string s, .pointer (some ⟨e0.blk, 0, none⟩)]) w1 := by rw [hbe]; exact hen
      clear hq1 hg1 hrg1 hfe hfe0 hbe hfie hlt hlk hen hy hyat hkk hfb hJ hv hmn hkt
      go_wp2_with fail
      --REGION a
      refine region_end (fun i => match i with
        | 0 => Value.pointer (some { block := e0.blk, off := 0 })
        | 1 => Value.pointer (some { block := e0.blk, off := 0 })
        | 2 => Value.pointer (some { block := e0.blk, off := 0 })
        | 3 => .pointer (some ⟨e0.blk, 1, none⟩)
        | 4 => .int .i64 (e0.las : Int)
        | 5 => Value.int IntKind.i64 keep
        | 6 => .int .i64 (kt : Int)
        | 7 => Value.pointer (some { block := e0.blk, off := 0 })
        | 8 => Value.pointer (some { block := e0.blk, off := 0 })
        | 9 => .pointer (some ⟨e0.blk, 0, none⟩)
        | 10 => .slice av e0.dat.length cv
        | 11 => .int .i64 (e0.dat.length : Int)
        | 12 => Value.pointer (some { block := e0.blk, off := 0 })
        | 13 => Value.pointer (some { block := e0.blk, off := 0 })
        | 14 => .pointer (some ⟨e0.blk, 1, none⟩)
        | 15 => .int .i64 (e0.las : Int)
        | 16 => .int .i64 ((e0.dat.length : Int) - (e0.las : Int))
        | 17 => .int .i64 (mn : Int)
        | 18 => .int .i64 ((e0.las : Int) + (mn : Int))
        | 19 => undef
        | _ => undef) 19 hmx (by kernel_rfl) (by kernel_rfl) (by kernel_rfl) (by kernel_rfl) ?_ ?_
      · intro i o hiE ho a hout haf
        have ee1 := getq (show a.tmps.getD 1 undef = Value.int IntKind.i64 keep from hout 1 (notDst_spec (by kernel_rfl)))
        have ee6 := getq (show a.tmps.getD 6 undef = Value.pointer (some { block := e0.blk, off := 0 }) from hout 6 (notDst_spec (by kernel_rfl)))
        clear hout
        match i, hiE, ho, haf with
        | 0, hiE, ho, haf =>
          obtain rfl := Option.some.inj ho
          refine step_c (w' := w1.drew) rfl fun K hK => ?_
          simp only [List.getElem_toArray, List.getElem_cons_zero] at hK ⊢
          clear haf ho hiE
          go_simp
          exact hK
        | 1, hiE, ho, haf =>
          obtain rfl := Option.some.inj ho
          refine step_c (w' := w1.drew) rfl fun K hK => ?_
          simp only [List.getElem_toArray, List.getElem_cons_succ, List.getElem_cons_zero] at hK ⊢
          clear haf ho hiE
          go_simp
          exact hK
        | 2, hiE, ho, haf =>
          obtain rfl := Option.some.inj ho
          have f1 := getq (show a.tmps.getD 20 undef = Value.pointer (some { block := e0.blk, off := 0 }) from haf ⟨1, .data⟩ (by simp) rfl 20 rfl)
          refine step_c (w' := w1.drew) rfl fun K hK => ?_
          simp only [List.getElem_toArray, List.getElem_cons_succ, List.getElem_cons_zero] at hK ⊢
          clear haf ho hiE
          go_simp
          exact hK
        | 3, hiE, ho, haf =>
          obtain rfl := Option.some.inj ho
          have f2 := getq (show a.tmps.getD 21 undef = Value.pointer (some { block := e0.blk, off := 0 }) from haf ⟨2, .data⟩ (by simp) rfl 21 rfl)
          refine step_c (w' := w1.drew) rfl fun K hK => ?_
          simp only [List.getElem_toArray, List.getElem_cons_succ, List.getElem_cons_zero] at hK ⊢
          clear haf ho hiE
          go_simp
          exact hK
        | 4, hiE, ho, haf =>
          obtain rfl := Option.some.inj ho
          have f3 := getq (show a.tmps.getD 22 undef = .pointer (some ⟨e0.blk, 1, none⟩) from haf ⟨3, .data⟩ (by simp) rfl 22 rfl)
          refine step_c (w' := w1.drew) rfl fun K hK => ?_
          simp only [List.getElem_toArray, List.getElem_cons_succ, List.getElem_cons_zero] at hK ⊢
          clear haf ho hiE
          go_simp
          exact hK
        | 5, hiE, ho, haf =>
          obtain rfl := Option.some.inj ho
          refine step_c (w' := w1.drew) rfl fun K hK => ?_
          simp only [List.getElem_toArray, List.getElem_cons_succ, List.getElem_cons_zero] at hK ⊢
          clear haf ho hiE
          go_simp
          exact hK
        | 6, hiE, ho, haf =>
          obtain rfl := Option.some.inj ho
          have f5 := getq (show a.tmps.getD 24 undef = Value.int IntKind.i64 keep from haf ⟨5, .data⟩ (by simp) rfl 24 rfl)
          refine step_c (w' := w1.drew) rfl fun K hK => ?_
          simp only [List.getElem_toArray, List.getElem_cons_succ, List.getElem_cons_zero] at hK ⊢
          clear haf ho hiE
          go_simp
          exact hK
        | 7, hiE, ho, haf =>
          obtain rfl := Option.some.inj ho
          refine step_c (w' := w1.drew) rfl fun K hK => ?_
          simp only [List.getElem_toArray, List.getElem_cons_succ, List.getElem_cons_zero] at hK ⊢
          clear haf ho hiE
          go_simp
          exact hK
        | 8, hiE, ho, haf =>
          obtain rfl := Option.some.inj ho
          have f7 := getq (show a.tmps.getD 26 undef = Value.pointer (some { block := e0.blk, off := 0 }) from haf ⟨7, .data⟩ (by simp) rfl 26 rfl)
          refine step_c (w' := w1.drew) rfl fun K hK => ?_
          simp only [List.getElem_toArray, List.getElem_cons_succ, List.getElem_cons_zero] at hK ⊢
          clear haf ho hiE
          go_simp
          exact hK
        | 9, hiE, ho, haf =>
          obtain rfl := Option.some.inj ho
          have f8 := getq (show a.tmps.getD 27 undef = Value.pointer (some { block := e0.blk, off := 0 }) from haf ⟨8, .data⟩ (by simp) rfl 27 rfl)
          refine step_c (w' := w1.drew) rfl fun K hK => ?_
          simp only [List.getElem_toArray, List.getElem_cons_succ, List.getElem_cons_zero] at hK ⊢
          clear haf ho hiE
          go_simp
          exact hK
        | 10, hiE, ho, haf =>
          obtain rfl := Option.some.inj ho
          have f9 := getq (show a.tmps.getD 28 undef = .pointer (some ⟨e0.blk, 0, none⟩) from haf ⟨9, .data⟩ (by simp) rfl 28 rfl)
          refine step_c (w' := w1.drew) rfl fun K hK => ?_
          simp only [List.getElem_toArray, List.getElem_cons_succ, List.getElem_cons_zero] at hK ⊢
          clear haf ho hiE
          go_simp
          exact hK
        | 11, hiE, ho, haf =>
          obtain rfl := Option.some.inj ho
          have f10 := getq (show a.tmps.getD 29 undef = .slice av e0.dat.length cv from haf ⟨10, .data⟩ (by simp) rfl 29 rfl)
          refine step_c (w' := w1.drew) rfl fun K hK => ?_
          simp only [List.getElem_toArray, List.getElem_cons_succ, List.getElem_cons_zero] at hK ⊢
          clear haf ho hiE
          go_simp
          exact hK
        | 12, hiE, ho, haf =>
          obtain rfl := Option.some.inj ho
          refine step_c (w' := w1.drew) rfl fun K hK => ?_
          simp only [List.getElem_toArray, List.getElem_cons_succ, List.getElem_cons_zero] at hK ⊢
          clear haf ho hiE
          go_simp
          exact hK
        | 13, hiE, ho, haf =>
          obtain rfl := Option.some.inj ho
          have f12 := getq (show a.tmps.getD 31 undef = Value.pointer (some { block := e0.blk, off := 0 }) from haf ⟨12, .data⟩ (by simp) rfl 31 rfl)
          refine step_c (w' := w1.drew) rfl fun K hK => ?_
          simp only [List.getElem_toArray, List.getElem_cons_succ, List.getElem_cons_zero] at hK ⊢
          clear haf ho hiE
          go_simp
          exact hK
        | 14, hiE, ho, haf =>
          obtain rfl := Option.some.inj ho
          have f13 := getq (show a.tmps.getD 32 undef = Value.pointer (some { block := e0.blk, off := 0 }) from haf ⟨13, .data⟩ (by simp) rfl 32 rfl)
          refine step_c (w' := w1.drew) rfl fun K hK => ?_
          simp only [List.getElem_toArray, List.getElem_cons_succ, List.getElem_cons_zero] at hK ⊢
          clear haf ho hiE
          go_simp
          exact hK
        | 15, hiE, ho, haf =>
          obtain rfl := Option.some.inj ho
          have f14 := getq (show a.tmps.getD 33 undef = .pointer (some ⟨e0.blk, 1, none⟩) from haf ⟨14, .data⟩ (by simp) rfl 33 rfl)
          refine step_c (w' := w1.drew) rfl fun K hK => ?_
          simp only [List.getElem_toArray, List.getElem_cons_succ, List.getElem_cons_zero] at hK ⊢
          clear haf ho hiE
          go_simp
          exact hK
        | 16, hiE, ho, haf =>
          obtain rfl := Option.some.inj ho
          have f11 := getq (show a.tmps.getD 30 undef = .int .i64 (e0.dat.length : Int) from haf ⟨11, .data⟩ (by simp) rfl 30 rfl)
          have f15 := getq (show a.tmps.getD 34 undef = .int .i64 (e0.las : Int) from haf ⟨15, .data⟩ (by simp) rfl 34 rfl)
          refine step_c (w' := w1.drew) rfl fun K hK => ?_
          simp only [List.getElem_toArray, List.getElem_cons_succ, List.getElem_cons_zero] at hK ⊢
          clear haf ho hiE
          go_simp
          rw [HWR1.out]
          exact hK
        | 17, hiE, ho, haf =>
          obtain rfl := Option.some.inj ho
          have f6 := getq (show a.tmps.getD 25 undef = .int .i64 (kt : Int) from haf ⟨6, .data⟩ (by simp) rfl 25 rfl)
          have f16 := getq (show a.tmps.getD 35 undef = .int .i64 ((e0.dat.length : Int) - (e0.las : Int)) from haf ⟨16, .data⟩ (by simp) rfl 35 rfl)
          refine step_c (w' := w1.drew) rfl fun K hK => ?_
          simp only [List.getElem_toArray, List.getElem_cons_succ, List.getElem_cons_zero] at hK ⊢
          clear haf ho hiE
          go_simp
          exact hK
        | 18, hiE, ho, haf =>
          obtain rfl := Option.some.inj ho
          have f4 := getq (show a.tmps.getD 23 undef = .int .i64 (e0.las : Int) from haf ⟨4, .data⟩ (by simp) rfl 23 rfl)
          have f17 := getq (show a.tmps.getD 36 undef = .int .i64 (mn : Int) from haf ⟨17, .data⟩ (by simp) rfl 36 rfl)
          refine step_c (w' := w1.drew) rfl fun K hK => ?_
          simp only [List.getElem_toArray, List.getElem_cons_succ, List.getElem_cons_zero] at hK ⊢
          clear haf ho hiE
          go_simp
          rw [HWR2.out]
          exact hK
        | 19, hiE, ho, haf => exact absurd rfl hiE
        | n + 20, _, ho, _ => simp at ho
      · intro o ho aa hdf hsz hout hval hown
        obtain rfl := Option.some.inj ho
        have hat : aa.tmps = #[Value.pointer (some { block := d, off := 0 }), Value.int IntKind.i64 keep, undef, undef, Value.int IntKind.i64 0, undef, Value.pointer (some { block := e0.blk, off := 0 }), Value.pointer (some { block := d, off := 0 }), Value.pointer (some { block := d, off := 0 }), Value.pointer (some { block := d, off := 1 }), Value.pointer (some { block := d, off := 0 }), Value.pointer (some { block := d, off := 0 }), Value.pointer (some { block := d, off := 2 }), Value.map (some m), Value.pointer (some { block := w.heap.size, off := 0 }), Value.tuple #[Value.bool true, Value.string s, ptrV (some e.blk)], Value.bool true, Value.tuple #[Value.string s, Value.pointer (some { block := e0.blk, off := 0 })], Value.pointer (some { block := e0.blk, off := 0 }), Value.pointer (some { block := e0.blk, off := 0 }), Value.pointer (some { block := e0.blk, off := 0 }), Value.pointer (some { block := e0.blk, off := 0 }), .pointer (some ⟨e0.blk, 1, none⟩), .int .i64 (e0.las : Int), Value.int IntKind.i64 keep, .int .i64 (kt : Int), Value.pointer (some { block := e0.blk, off := 0 }), Value.pointer (some { block := e0.blk, off := 0 }), .pointer (some ⟨e0.blk, 0, none⟩), .slice av e0.dat.length cv, .int .i64 (e0.dat.length : Int), Value.pointer (some { block := e0.blk, off := 0 }), Value.pointer (some { block := e0.blk, off := 0 }), .pointer (some ⟨e0.blk, 1, none⟩), .int .i64 (e0.las : Int), .int .i64 ((e0.dat.length : Int) - (e0.las : Int)), .int .i64 (mn : Int), .int .i64 ((e0.las : Int) + (mn : Int)), u38, u39, u40, u41, u42, u43, u44, u45, u46, u47, u48, u49, u50, u51, u52, u53, u54, u55, u56, u57, u58, undef, undef, undef, undef, undef, undef, undef, undef, undef, undef, undef, undef] := by
          refine arr_one (hsz.trans rfl) fun kk hkk => ?_
          match kk, hkk with
          | 0, _ => exact hout 0 (notDst_spec (by kernel_rfl))
          | 1, _ => exact hout 1 (notDst_spec (by kernel_rfl))
          | 2, _ => exact hout 2 (notDst_spec (by kernel_rfl))
          | 3, _ => exact hout 3 (notDst_spec (by kernel_rfl))
          | 4, _ => exact hout 4 (notDst_spec (by kernel_rfl))
          | 5, _ => exact hout 5 (notDst_spec (by kernel_rfl))
          | 6, _ => exact hout 6 (notDst_spec (by kernel_rfl))
          | 7, _ => exact hout 7 (notDst_spec (by kernel_rfl))
          | 8, _ => exact hout 8 (notDst_spec (by kernel_rfl))
          | 9, _ => exact hout 9 (notDst_spec (by kernel_rfl))
          | 10, _ => exact hout 10 (notDst_spec (by kernel_rfl))
          | 11, _ => exact hout 11 (notDst_spec (by kernel_rfl))
          | 12, _ => exact hout 12 (notDst_spec (by kernel_rfl))
          | 13, _ => exact hout 13 (notDst_spec (by kernel_rfl))
          | 14, _ => exact hout 14 (notDst_spec (by kernel_rfl))
          | 15, _ => exact hout 15 (notDst_spec (by kernel_rfl))
          | 16, _ => exact hout 16 (notDst_spec (by kernel_rfl))
          | 17, _ => exact hout 17 (notDst_spec (by kernel_rfl))
          | 18, _ => exact hout 18 (notDst_spec (by kernel_rfl))
          | 19, _ => exact hval 0 19 (by decide) (by decide) rfl
          | 20, _ => exact hval 1 20 (by decide) (by decide) rfl
          | 21, _ => exact hval 2 21 (by decide) (by decide) rfl
          | 22, _ => exact hval 3 22 (by decide) (by decide) rfl
          | 23, _ => exact hval 4 23 (by decide) (by decide) rfl
          | 24, _ => exact hval 5 24 (by decide) (by decide) rfl
          | 25, _ => exact hval 6 25 (by decide) (by decide) rfl
          | 26, _ => exact hval 7 26 (by decide) (by decide) rfl
          | 27, _ => exact hval 8 27 (by decide) (by decide) rfl
          | 28, _ => exact hval 9 28 (by decide) (by decide) rfl
          | 29, _ => exact hval 10 29 (by decide) (by decide) rfl
          | 30, _ => exact hval 11 30 (by decide) (by decide) rfl
          | 31, _ => exact hval 12 31 (by decide) (by decide) rfl
          | 32, _ => exact hval 13 32 (by decide) (by decide) rfl
          | 33, _ => exact hval 14 33 (by decide) (by decide) rfl
          | 34, _ => exact hval 15 34 (by decide) (by decide) rfl
          | 35, _ => exact hval 16 35 (by decide) (by decide) rfl
          | 36, _ => exact hval 17 36 (by decide) (by decide) rfl
          | 37, _ => exact hval 18 37 (by decide) (by decide) rfl
          | 38, _ => exact hown 38 rfl
          | 39, _ => exact hout 39 (notDst_spec (by kernel_rfl))
          | 40, _ => exact hout 40 (notDst_spec (by kernel_rfl))
          | 41, _ => exact hout 41 (notDst_spec (by kernel_rfl))
          | 42, _ => exact hout 42 (notDst_spec (by kernel_rfl))
          | 43, _ => exact hout 43 (notDst_spec (by kernel_rfl))
          | 44, _ => exact hout 44 (notDst_spec (by kernel_rfl))
          | 45, _ => exact hout 45 (notDst_spec (by kernel_rfl))
          | 46, _ => exact hout 46 (notDst_spec (by kernel_rfl))
          | 47, _ => exact hout 47 (notDst_spec (by kernel_rfl))
          | 48, _ => exact hout 48 (notDst_spec (by kernel_rfl))
          | 49, _ => exact hout 49 (notDst_spec (by kernel_rfl))
          | 50, _ => exact hout 50 (notDst_spec (by kernel_rfl))
          | 51, _ => exact hout 51 (notDst_spec (by kernel_rfl))
          | 52, _ => exact hout 52 (notDst_spec (by kernel_rfl))
          | 53, _ => exact hout 53 (notDst_spec (by kernel_rfl))
          | 54, _ => exact hout 54 (notDst_spec (by kernel_rfl))
          | 55, _ => exact hout 55 (notDst_spec (by kernel_rfl))
          | 56, _ => exact hout 56 (notDst_spec (by kernel_rfl))
          | 57, _ => exact hout 57 (notDst_spec (by kernel_rfl))
          | 58, _ => exact hout 58 (notDst_spec (by kernel_rfl))
          | 59, _ => exact hout 59 (notDst_spec (by kernel_rfl))
          | 60, _ => exact hout 60 (notDst_spec (by kernel_rfl))
          | 61, _ => exact hout 61 (notDst_spec (by kernel_rfl))
          | 62, _ => exact hout 62 (notDst_spec (by kernel_rfl))
          | 63, _ => exact hout 63 (notDst_spec (by kernel_rfl))
          | 64, _ => exact hout 64 (notDst_spec (by kernel_rfl))
          | 65, _ => exact hout 65 (notDst_spec (by kernel_rfl))
          | 66, _ => exact hout 66 (notDst_spec (by kernel_rfl))
          | 67, _ => exact hout 67 (notDst_spec (by kernel_rfl))
          | 68, _ => exact hout 68 (notDst_spec (by kernel_rfl))
          | 69, _ => exact hout 69 (notDst_spec (by kernel_rfl))
          | 70, _ => exact hout 70 (notDst_spec (by kernel_rfl))
          | n + 71, h => exact absurd h (by simp)
        obtain ⟨tt, dd⟩ := aa
        simp only at hat hdf
        subst hat hdf
        clear hsz hout hval hown ho
        simp only [List.getElem_toArray, List.getElem_cons_succ, List.getElem_cons_zero]
        go_simp
        refine Calls.mono HCUT.out ?_
        rintro e9 w2 ⟨⟨u9, rfl⟩, v', hb2, hJ2, ht2, hl2⟩
        have hln : (e0.dat.take (e0.las + mn)).length = e0.las + mn := by rw [List.length_take]; omega
        obtain ⟨a2, c2, hv2, _⟩ := hJ2.shape
        rw [hln] at hv2
        obtain ⟨gu, hgu⟩ : ∃ gu, gu = gone lf (fun e => (crashed keep e.fi).dat.length) es := ⟨_, rfl⟩
        have hgl : gu ≤ 4194304 := by
          have h1 := gone_le (lf := lf) (f := fun e => (crashed keep e.fi).dat.length) (g := fun e => e.fi.dat.length) (es := es) (fun x _ => by simp [crashed]; omega)
          have h2 := H.out.good.used
          have h3 := H.out.good.room
          have h4 := H.out.good.cap
          rw [H.out.fs] at h2
          unfold tot at h2
          rw [List.map_map] at h2
          have h5 : (es.map fun e => e.fi.dat.length) = es.map ((fun f => f.dat.length) ∘ En.fi) := rfl
          rw [hgu]
          rw [h5] at h1
          omega
        have C5 : w2.cell? ⟨e0.blk, 0, none⟩ = some (.slice a2 (e0.las + mn) c2) := by rw [← hv2]; exact hb2.cell 0 _ rfl
        have C6 := hb2.cell 1 _ rfl
        have F6 := hb2.frozen 1
        have hed : e0.blk ≠ d := blk_ne (HQ1.out.file e0 hm0).1 HQ1.out.box (by decide)
        have hbd : Blk w2 d TD (cells { S with used := gu } m) := by rw [hgu]; exact (ht2.block d HQ1.out.box.lt (fun q => hed q.symm)).trans HQ1.out.box
        obtain ⟨WW, hWW⟩ : ∃ WW, WW = w2.setCell ⟨e0.blk, 1, none⟩ (.int .i64 ((e0.las : Int) + (mn : Int))) := ⟨_, rfl⟩
        have hWd : Blk WW d TD (cells { S with used := gu } m) := by rw [hWW]; exact hbd.other hed _
        have hWf : Blk WW e0.blk TF [v', .int .i64 ((e0.las : Int) + (mn : Int))] := by rw [hWW]; exact hb2.set _
        obtain ⟨SS, hS0, hS1⟩ : ∃ SS : Nat → World, SS 0 = WW.drew ∧ SS 1 = (SS 0).setCell ⟨d, 1, none⟩ (.int .i64 ((gu : Int) + ((e0.las : Int) + (mn : Int)))) := ⟨fun s => match s with | 0 => WW.drew | _ => WW.drew.setCell ⟨d, 1, none⟩ (.int .i64 ((gu : Int) + ((e0.las : Int) + (mn : Int)))), rfl, rfl⟩
        have D1 : (SS 0).cell? ⟨d, 1, none⟩ = some (.int .i64 (gu : Int)) := by rw [hS0]; exact hWd.cell 1 _ rfl
        have E1 : (SS 0).frozen? ⟨d, 1, none⟩ = false := by rw [hS0]; exact hWd.frozen 1
        have D2 : (SS 0).cell? ⟨e0.blk, 0, none⟩ = some (.slice a2 (e0.las + mn) c2) := by rw [hS0, ← hv2]; exact hWf.cell 0 _ rfl
        have HWR3 : Hid (IntKind.i64.wrap ((gu : Int) + ((e0.las : Int) + (mn : Int))) = (gu : Int) + ((e0.las : Int) + (mn : Int))) := by show IntKind.i64.wrap _ = _; rw [IntKind.wrap_i64]; omega
        have NEXT : Hid (Cr w d m es O S keep D w.heap.size (SS 1) (strike lf (kl s)) cnt1 (updE es' s { e0 with val := v', dat := e0.dat.take (e0.las + mn), las := e0.las + mn }) (fun b => O' b ∨ v'.ownBlock = some b)) :=
          HC.out.step H.out.names hsl HLK.out HFE.out HFE0.out HBE.out HFI.out HN.out hn HG1.out HR1.out hb2 hJ2 ht2 hl2 (by rw [hS1, hS0, hWW, hgu]; rfl)
        have HS0 := hd hS0
        have HS1 := hd hS1
        have HWW := hd hWW
        clear hv2 hb2 hJ2 ht2 hl2 hln hgu C1 C2 R1 R2 hS0 hS1 hWW hWd hWf hbd
        go_wp2_with fail
        rw [← HWW.out]
        --REGION b
        refine region_chain (fun i => match i with
          | 0 => Value.pointer (some { block := d, off := 0 })
          | 1 => Value.pointer (some { block := d, off := 0 })
          | 2 => .pointer (some ⟨d, 1, none⟩)
          | 3 => .int .i64 (gu : Int)
          | 4 => Value.pointer (some { block := e0.blk, off := 0 })
          | 5 => Value.pointer (some { block := e0.blk, off := 0 })
          | 6 => .pointer (some ⟨e0.blk, 0, none⟩)
          | 7 => .slice a2 (e0.las + mn) c2
          | 8 => .int .i64 ((e0.las : Int) + (mn : Int))
          | 9 => .int .i64 ((gu : Int) + ((e0.las : Int) + (mn : Int)))
          | 10 => Value.pointer (some { block := d, off := 0 })
          | 11 => .pointer (some ⟨d, 1, none⟩)
          | 12 => undef
          | _ => undef) [12] SS hmx (by kernel_rfl) (by kernel_rfl) (by kernel_rfl) (by kernel_rfl) HS0.out ?_ ?_ (by decide)
        · intro i o ho s a hsr hlo hhi hout haf hun
          have ee0 := getq (show a.tmps.getD 0 undef = Value.pointer (some { block := d, off := 0 }) from hout 0 (notDst_spec (by kernel_rfl)))
          have ee6 := getq (show a.tmps.getD 6 undef = Value.pointer (some { block := e0.blk, off := 0 }) from hout 6 (notDst_spec (by kernel_rfl)))
          clear hout
          match i, ho, hlo, hhi, haf, hun with
          | 0, ho, hlo, hhi, haf, hun =>
            obtain rfl := Option.some.inj ho
            obtain rfl : s = 0 := by have := hhi 0 (by decide) (.inr (by kernel_rfl)); simp at hsr; omega
            refine step_c (w' := SS 0) rfl fun K hK => ?_
            simp only [List.getElem_toArray, List.getElem_cons_zero] at hK ⊢
            clear haf hlo hhi hun ho hsr
            go_simp
            exact hK
          | 1, ho, hlo, hhi, haf, hun =>
            obtain rfl := Option.some.inj ho
            have f0 := getq (show a.tmps.getD 47 undef = Value.pointer (some { block := d, off := 0 }) from haf ⟨0, .data⟩ (by simp) rfl 47 rfl)
            obtain rfl : s = 0 := by have := hhi 0 (by decide) (.inr (by kernel_rfl)); simp at hsr; omega
            refine step_c (w' := SS 0) rfl fun K hK => ?_
            simp only [List.getElem_toArray, List.getElem_cons_succ, List.getElem_cons_zero] at hK ⊢
            clear haf hlo hhi hun ho hsr
            go_simp
            exact hK
          | 2, ho, hlo, hhi, haf, hun =>
            obtain rfl := Option.some.inj ho
            have f1 := getq (show a.tmps.getD 48 undef = Value.pointer (some { block := d, off := 0 }) from haf ⟨1, .data⟩ (by simp) rfl 48 rfl)
            obtain rfl : s = 0 := by have := hhi 0 (by decide) (.inr (by kernel_rfl)); simp at hsr; omega
            refine step_c (w' := SS 0) rfl fun K hK => ?_
            simp only [List.getElem_toArray, List.getElem_cons_succ, List.getElem_cons_zero] at hK ⊢
            clear haf hlo hhi hun ho hsr
            go_simp
            exact hK
          | 3, ho, hlo, hhi, haf, hun =>
            obtain rfl := Option.some.inj ho
            have f2 := getq (show a.tmps.getD 49 undef = .pointer (some ⟨d, 1, none⟩) from haf ⟨2, .data⟩ (by simp) rfl 49 rfl)
            obtain rfl : s = 0 := by have := hhi 0 (by decide) (.inr (by kernel_rfl)); simp at hsr; omega
            refine step_c (w' := SS 0) rfl fun K hK => ?_
            simp only [List.getElem_toArray, List.getElem_cons_succ, List.getElem_cons_zero] at hK ⊢
            clear haf hlo hhi hun ho hsr
            go_simp
            exact hK
          | 4, ho, hlo, hhi, haf, hun =>
            obtain rfl := Option.some.inj ho
            obtain rfl : s = 0 := by have := hhi 0 (by decide) (.inr (by kernel_rfl)); simp at hsr; omega
            refine step_c (w' := SS 0) rfl fun K hK => ?_
            simp only [List.getElem_toArray, List.getElem_cons_succ, List.getElem_cons_zero] at hK ⊢
            clear haf hlo hhi hun ho hsr
            go_simp
            exact hK
          | 5, ho, hlo, hhi, haf, hun =>
            obtain rfl := Option.some.inj ho
            have f4 := getq (show a.tmps.getD 51 undef = Value.pointer (some { block := e0.blk, off := 0 }) from haf ⟨4, .data⟩ (by simp) rfl 51 rfl)
            obtain rfl : s = 0 := by have := hhi 0 (by decide) (.inr (by kernel_rfl)); simp at hsr; omega
            refine step_c (w' := SS 0) rfl fun K hK => ?_
            simp only [List.getElem_toArray, List.getElem_cons_succ, List.getElem_cons_zero] at hK ⊢
            clear haf hlo hhi hun ho hsr
            go_simp
            exact hK
          | 6, ho, hlo, hhi, haf, hun =>
            obtain rfl := Option.some.inj ho
            have f5 := getq (show a.tmps.getD 52 undef = Value.pointer (some { block := e0.blk, off := 0 }) from haf ⟨5, .data⟩ (by simp) rfl 52 rfl)
            obtain rfl : s = 0 := by have := hhi 0 (by decide) (.inr (by kernel_rfl)); simp at hsr; omega
            refine step_c (w' := SS 0) rfl fun K hK => ?_
            simp only [List.getElem_toArray, List.getElem_cons_succ, List.getElem_cons_zero] at hK ⊢
            clear haf hlo hhi hun ho hsr
            go_simp
            exact hK
          | 7, ho, hlo, hhi, haf, hun =>
            obtain rfl := Option.some.inj ho
            have f6 := getq (show a.tmps.getD 53 undef = .pointer (some ⟨e0.blk, 0, none⟩) from haf ⟨6, .data⟩ (by simp) rfl 53 rfl)
            obtain rfl : s = 0 := by have := hhi 0 (by decide) (.inr (by kernel_rfl)); simp at hsr; omega
            refine step_c (w' := SS 0) rfl fun K hK => ?_
            simp only [List.getElem_toArray, List.getElem_cons_succ, List.getElem_cons_zero] at hK ⊢
            clear haf hlo hhi hun ho hsr
            go_simp
            exact hK
          | 8, ho, hlo, hhi, haf, hun =>
            obtain rfl := Option.some.inj ho
            have f7 := getq (show a.tmps.getD 54 undef = .slice a2 (e0.las + mn) c2 from haf ⟨7, .data⟩ (by simp) rfl 54 rfl)
            obtain rfl : s = 0 := by have := hhi 0 (by decide) (.inr (by kernel_rfl)); simp at hsr; omega
            refine step_c (w' := SS 0) rfl fun K hK => ?_
            simp only [List.getElem_toArray, List.getElem_cons_succ, List.getElem_cons_zero] at hK ⊢
            clear haf hlo hhi hun ho hsr
            go_simp
            exact hK
          | 9, ho, hlo, hhi, haf, hun =>
            obtain rfl := Option.some.inj ho
            have f3 := getq (show a.tmps.getD 50 undef = .int .i64 (gu : Int) from haf ⟨3, .data⟩ (by simp) rfl 50 rfl)
            have f8 := getq (show a.tmps.getD 55 undef = .int .i64 ((e0.las : Int) + (mn : Int)) from haf ⟨8, .data⟩ (by simp) rfl 55 rfl)
            obtain rfl : s = 0 := by have := hhi 0 (by decide) (.inr (by kernel_rfl)); simp at hsr; omega
            refine step_c (w' := SS 0) rfl fun K hK => ?_
            simp only [List.getElem_toArray, List.getElem_cons_succ, List.getElem_cons_zero] at hK ⊢
            clear haf hlo hhi hun ho hsr
            go_simp
            rw [HWR3.out]
            exact hK
          | 10, ho, hlo, hhi, haf, hun =>
            obtain rfl := Option.some.inj ho
            have f0 := getq (show a.tmps.getD 47 undef = Value.pointer (some { block := d, off := 0 }) from haf ⟨0, .data⟩ (by simp) rfl 47 rfl)
            obtain rfl : s = 0 := by have := hhi 0 (by decide) (.inr (by kernel_rfl)); simp at hsr; omega
            refine step_c (w' := SS 0) rfl fun K hK => ?_
            simp only [List.getElem_toArray, List.getElem_cons_succ, List.getElem_cons_zero] at hK ⊢
            clear haf hlo hhi hun ho hsr
            go_simp
            exact hK
          | 11, ho, hlo, hhi, haf, hun =>
            obtain rfl := Option.some.inj ho
            have f10 := getq (show a.tmps.getD 57 undef = Value.pointer (some { block := d, off := 0 }) from haf ⟨10, .data⟩ (by simp) rfl 57 rfl)
            obtain rfl : s = 0 := by have := hhi 0 (by decide) (.inr (by kernel_rfl)); simp at hsr; omega
            refine step_c (w' := SS 0) rfl fun K hK => ?_
            simp only [List.getElem_toArray, List.getElem_cons_succ, List.getElem_cons_zero] at hK ⊢
            clear haf hlo hhi hun ho hsr
            go_simp
            exact hK
          | 12, ho, hlo, hhi, haf, hun =>
            obtain rfl := Option.some.inj ho
            have f11 := getq (show a.tmps.getD 58 undef = .pointer (some ⟨d, 1, none⟩) from haf ⟨11, .data⟩ (by simp) rfl 58 rfl)
            have f9 := getq (show a.tmps.getD 56 undef = .int .i64 ((gu : Int) + ((e0.las : Int) + (mn : Int))) from haf ⟨9, .data⟩ (by simp) rfl 56 rfl)
            obtain rfl : s = 0 := by have := hhi 0 (by decide) (.inl (by kernel_rfl)); omega
            refine step_c (w' := SS 1) rfl fun K hK => ?_
            simp only [List.getElem_toArray, List.getElem_cons_succ, List.getElem_cons_zero] at hK ⊢
            clear haf hlo hhi hun ho hsr
            rw [HS1.out] at hK
            go_simp
            exact hK
          | n + 13, ho, _, _, _, _ => simp at ho
        · intro aa hdf hsz hout hval
          have hat : aa.tmps = #[Value.pointer (some { block := d, off := 0 }), Value.int IntKind.i64 keep, undef, undef, Value.int IntKind.i64 0, undef, Value.pointer (some { block := e0.blk, off := 0 }), Value.pointer (some { block := d, off := 0 }), Value.pointer (some { block := d, off := 0 }), Value.pointer (some { block := d, off := 1 }), Value.pointer (some { block := d, off := 0 }), Value.pointer (some { block := d, off := 0 }), Value.pointer (some { block := d, off := 2 }), Value.map (some m), Value.pointer (some { block := w.heap.size, off := 0 }), Value.tuple #[Value.bool true, Value.string s, ptrV (some e.blk)], Value.bool true, Value.tuple #[Value.string s, Value.pointer (some { block := e0.blk, off := 0 })], Value.pointer (some { block := e0.blk, off := 0 }), Value.pointer (some { block := e0.blk, off := 0 }), Value.pointer (some { block := e0.blk, off := 0 }), Value.pointer (some { block := e0.blk, off := 0 }), Value.pointer (some { block := e0.blk, off := 1 }), Value.int IntKind.i64 ↑e0.las, Value.int IntKind.i64 keep, Value.int IntKind.i64 ↑kt, Value.pointer (some { block := e0.blk, off := 0 }), Value.pointer (some { block := e0.blk, off := 0 }), Value.pointer (some { block := e0.blk, off := 0 }), Value.slice av e0.dat.length cv, Value.int IntKind.i64 ↑e0.dat.length, Value.pointer (some { block := e0.blk, off := 0 }), Value.pointer (some { block := e0.blk, off := 0 }), Value.pointer (some { block := e0.blk, off := 1 }), Value.int IntKind.i64 ↑e0.las, Value.int IntKind.i64 (↑e0.dat.length - ↑e0.las), Value.int IntKind.i64 ↑mn, Value.int IntKind.i64 (↑e0.las + ↑mn), u9, Value.pointer (some { block := e0.blk, off := 0 }), Value.pointer (some { block := e0.blk, off := 0 }), Value.pointer (some { block := e0.blk, off := 0 }), Value.pointer (some { block := e0.blk, off := 0 }), Value.slice a2 (e0.las + mn) c2, Value.int IntKind.i64 (↑e0.las + ↑mn), Value.pointer (some { block := e0.blk, off := 0 }), Value.pointer (some { block := e0.blk, off := 1 }), Value.pointer (some { block := d, off := 0 }), Value.pointer (some { block := d, off := 0 }), .pointer (some ⟨d, 1, none⟩), .int .i64 (gu : Int), Value.pointer (some { block := e0.blk, off := 0 }), Value.pointer (some { block := e0.blk, off := 0 }), .pointer (some ⟨e0.blk, 0, none⟩), .slice a2 (e0.las + mn) c2, .int .i64 ((e0.las : Int) + (mn : Int)), .int .i64 ((gu : Int) + ((e0.las : Int) + (mn : Int))), Value.pointer (some { block := d, off := 0 }), .pointer (some ⟨d, 1, none⟩), undef, undef, undef, undef, undef, undef, undef, undef, undef, undef, undef, undef] := by
            refine arr_one (hsz.trans rfl) fun kk hkk => ?_
            match kk, hkk with
            | 0, _ => exact hout 0 (notDst_spec (by kernel_rfl))
            | 1, _ => exact hout 1 (notDst_spec (by kernel_rfl))
            | 2, _ => exact hout 2 (notDst_spec (by kernel_rfl))
            | 3, _ => exact hout 3 (notDst_spec (by kernel_rfl))
            | 4, _ => exact hout 4 (notDst_spec (by kernel_rfl))
            | 5, _ => exact hout 5 (notDst_spec (by kernel_rfl))
            | 6, _ => exact hout 6 (notDst_spec (by kernel_rfl))
            | 7, _ => exact hout 7 (notDst_spec (by kernel_rfl))
            | 8, _ => exact hout 8 (notDst_spec (by kernel_rfl))
            | 9, _ => exact hout 9 (notDst_spec (by kernel_rfl))
            | 10, _ => exact hout 10 (notDst_spec (by kernel_rfl))
            | 11, _ => exact hout 11 (notDst_spec (by kernel_rfl))
            | 12, _ => exact hout 12 (notDst_spec (by kernel_rfl))
            | 13, _ => exact hout 13 (notDst_spec (by kernel_rfl))
            | 14, _ => exact hout 14 (notDst_spec (by kernel_rfl))
            | 15, _ => exact hout 15 (notDst_spec (by kernel_rfl))
            | 16, _ => exact hout 16 (notDst_spec (by kernel_rfl))
            | 17, _ => exact hout 17 (notDst_spec (by kernel_rfl))
            | 18, _ => exact hout 18 (notDst_spec (by kernel_rfl))
            | 19, _ => exact hout 19 (notDst_spec (by kernel_rfl))
            | 20, _ => exact hout 20 (notDst_spec (by kernel_rfl))
            | 21, _ => exact hout 21 (notDst_spec (by kernel_rfl))
            | 22, _ => exact hout 22 (notDst_spec (by kernel_rfl))
            | 23, _ => exact hout 23 (notDst_spec (by kernel_rfl))
            | 24, _ => exact hout 24 (notDst_spec (by kernel_rfl))
            | 25, _ => exact hout 25 (notDst_spec (by kernel_rfl))
            | 26, _ => exact hout 26 (notDst_spec (by kernel_rfl))
            | 27, _ => exact hout 27 (notDst_spec (by kernel_rfl))
            | 28, _ => exact hout 28 (notDst_spec (by kernel_rfl))
            | 29, _ => exact hout 29 (notDst_spec (by kernel_rfl))
            | 30, _ => exact hout 30 (notDst_spec (by kernel_rfl))
            | 31, _ => exact hout 31 (notDst_spec (by kernel_rfl))
            | 32, _ => exact hout 32 (notDst_spec (by kernel_rfl))
            | 33, _ => exact hout 33 (notDst_spec (by kernel_rfl))
            | 34, _ => exact hout 34 (notDst_spec (by kernel_rfl))
            | 35, _ => exact hout 35 (notDst_spec (by kernel_rfl))
            | 36, _ => exact hout 36 (notDst_spec (by kernel_rfl))
            | 37, _ => exact hout 37 (notDst_spec (by kernel_rfl))
            | 38, _ => exact hout 38 (notDst_spec (by kernel_rfl))
            | 39, _ => exact hout 39 (notDst_spec (by kernel_rfl))
            | 40, _ => exact hout 40 (notDst_spec (by kernel_rfl))
            | 41, _ => exact hout 41 (notDst_spec (by kernel_rfl))
            | 42, _ => exact hout 42 (notDst_spec (by kernel_rfl))
            | 43, _ => exact hout 43 (notDst_spec (by kernel_rfl))
            | 44, _ => exact hout 44 (notDst_spec (by kernel_rfl))
            | 45, _ => exact hout 45 (notDst_spec (by kernel_rfl))
            | 46, _ => exact hout 46 (notDst_spec (by kernel_rfl))
            | 47, _ => exact hval 0 47 (by decide) rfl
            | 48, _ => exact hval 1 48 (by decide) rfl
            | 49, _ => exact hval 2 49 (by decide) rfl
            | 50, _ => exact hval 3 50 (by decide) rfl
            | 51, _ => exact hval 4 51 (by decide) rfl
            | 52, _ => exact hval 5 52 (by decide) rfl
            | 53, _ => exact hval 6 53 (by decide) rfl
            | 54, _ => exact hval 7 54 (by decide) rfl
            | 55, _ => exact hval 8 55 (by decide) rfl
            | 56, _ => exact hval 9 56 (by decide) rfl
            | 57, _ => exact hval 10 57 (by decide) rfl
            | 58, _ => exact hval 11 58 (by decide) rfl
            | 59, _ => exact hout 59 (notDst_spec (by kernel_rfl))
            | 60, _ => exact hout 60 (notDst_spec (by kernel_rfl))
            | 61, _ => exact hout 61 (notDst_spec (by kernel_rfl))
            | 62, _ => exact hout 62 (notDst_spec (by kernel_rfl))
            | 63, _ => exact hout 63 (notDst_spec (by kernel_rfl))
            | 64, _ => exact hout 64 (notDst_spec (by kernel_rfl))
            | 65, _ => exact hout 65 (notDst_spec (by kernel_rfl))
            | 66, _ => exact hout 66 (notDst_spec (by kernel_rfl))
            | 67, _ => exact hout 67 (notDst_spec (by kernel_rfl))
            | 68, _ => exact hout 68 (notDst_spec (by kernel_rfl))
            | 69, _ => exact hout 69 (notDst_spec (by kernel_rfl))
            | 70, _ => exact hout 70 (notDst_spec (by kernel_rfl))
            | n + 71, h => exact absurd h (by simp)
          obtain ⟨tt, dd⟩ := aa
          simp only at hat hdf
          subst hat hdf
          clear hsz hout hval
          rw [show SS [12].length = SS 1 from rfl]
          go_wp2_with fail
          go_roundw
          case rel => exact ⟨_, _, _, _, NEXT.out⟩
          case measure => rw [NEXT.out.rng.left_eq, HC.out.rng.left_eq]; exact HLT.out
        --END b
      --END a
end Dk
end Go.Proofs.YtolddolfpnkndaaGreat
namespace Go.Proofs.YtolddolfpnkndaaGreat
open Go Go.RowKit
/-- all that the region writes lies from lo on, below hi -/
def dstsIn (ops : Array Oper) (lo hi : Nat) : Bool := (List.range ops.size).all fun j => match dstOf ops j with
  | none => true
  | some d => decide (lo ≤ d) && decide (d < hi)
theorem dstsIn_spec {ops : Array Oper} {lo hi k : Nat} (h : dstsIn ops lo hi = true) (hk : k < lo ∨ hi ≤ k) : ∀ j, j < ops.size → dstOf ops j ≠ some k := by
  intro j hj e
  have := List.all_eq_true.1 h j (by simpa using hj)
  rw [e] at this
  simp only [Bool.and_eq_true, decide_eq_true_eq] at this
  omega
theorem tmps_of {ops : Array Oper} {t t0 : Array Value} {lo : Nat} {vs : List Value} (hs : t.size = t0.size) (hd : dstsIn ops lo (lo + vs.length) = true) (hlo : lo + vs.length ≤ t0.size)
    (hout : ∀ k, (∀ j, j < ops.size → dstOf ops j ≠ some k) → t.getD k undef = t0.getD k undef) (hin : ∀ i, i < vs.length → t.getD (lo + i) undef = vs.getD i undef) :
    t = (t0.toList.take lo ++ (vs ++ t0.toList.drop (lo + vs.length))).toArray := by
  have hl0 : t0.toList.length = t0.size := Array.length_toList
  refine arr_one (by simp only [List.size_toArray, List.length_append, List.length_take, List.length_drop, hl0]; omega) fun k hk => ?_
  have e : ∀ X : List Value, X.toArray.getD k undef = X[k]?.getD undef := fun X => by rw [Array.getD_eq_getD_getElem?]; simp
  refine Eq.trans ?_ (e _).symm
  rw [Array.getD_eq_getD_getElem?]
  clear e
  by_cases h1 : k < lo
  · have := hout k (dstsIn_spec hd (.inl h1))
    rw [Array.getD_eq_getD_getElem?, Array.getD_eq_getD_getElem?] at this
    rw [this, List.getElem?_append_left (by rw [List.length_take, hl0]; omega), List.getElem?_take_of_lt h1, Array.getElem?_toList]
  · rw [List.getElem?_append_right (by rw [List.length_take, hl0]; omega), List.length_take, hl0, Nat.min_eq_left (by omega)]
    by_cases h2 : k < lo + vs.length
    · have := hin (k - lo) (by omega)
      rw [Array.getD_eq_getD_getElem?, List.getD_eq_getElem?_getD, show lo + (k - lo) = k by omega] at this
      rw [this, List.getElem?_append_left (by omega)]
    · have := hout k (dstsIn_spec hd (.inr (by omega)))
      rw [Array.getD_eq_getD_getElem?, Array.getD_eq_getD_getElem?] at this
      rw [this, List.getElem?_append_right (by omega), List.getElem?_drop, Array.getElem?_toList]
      congr 2
      omega
end Go.Proofs.YtolddolfpnkndaaGreat
namespace Go.Proofs.YtolddolfpnkndaaGreat
open Go.ChangeShapes Go.WideShapes Go.ChangeAt Go.RowKit Go.Deep
namespace Sg
open Vt Dk
theorem cell_ln : Tryz.prog.cellsOf TLn = 4 := by kernel_rfl
theorem cell_st : Tryz.prog.cellsOf 9 = 1 := by kernel_rfl
theorem cell_bo : Tryz.prog.cellsOf 4 = 1 := by kernel_rfl
theorem bytes_ln : Tryz.prog.bytesOf TLn = 40 := by kernel_rfl
theorem four {α : Type} {l : List α} (h : l.length = 4) : ∃ a b c d, l = [a, b, c, d] := by
  match l, h with
  | [a, b, c, d], _ => exact ⟨a, b, c, d, rfl⟩
theorem line_open {H : Type} {enc : TypeId × Value → H} {W : World} {base : Nat} {sp : Nat → Bool} {held : Bool} {fuel : Nat} {cs : List Value} {y : DataW H × List MemPlace} (h : DataW.trod enc Tryz.prog W base sp held fuel TLn cs = some y) (hl : cs.length = 4) :
    ∃ l : Ln, cs = lnv l ∧ l.val.size ≤ maxLen ∧ l.key.size ∈ y.1.weights Tryz.prog TLn := by
  obtain ⟨xs, k, hk, hxy, _, hxl, hf⟩ := DataW.trod_struct Tryz.underlying40 h
  obtain ⟨y0, y1, y2, y3, rfl⟩ := four (l := xs) hxl
  obtain ⟨v0, v1, v2, v3, rfl⟩ := four hl
  have g0 := hf 0 ⟨ "Key", 9, 0, false, "", "", 0⟩ rfl
  have g1 := hf 1 ⟨ "Value", 9, 1, false, "", "", 16⟩ rfl
  have g2 := hf 2 ⟨ "Gone", 4, 2, false, "", "", 32⟩ rfl
  have g3 := hf 3 ⟨ "Sync", 4, 3, false, "", "", 33⟩ rfl
  simp only [cell_st, List.drop_zero, List.take_succ_cons, List.take_zero, List.getElem?_cons_zero] at g0
  simp only [cell_st, List.drop_succ_cons, List.drop_zero, List.take_succ_cons, List.take_zero, List.getElem?_cons_succ, List.getElem?_cons_zero] at g1
  simp only [cell_bo, List.drop_succ_cons, List.drop_zero, List.take_succ_cons, List.take_zero, List.getElem?_cons_succ, List.getElem?_cons_zero] at g2 g3
  obtain ⟨s0, e0, x0, _⟩ := DataW.trod_string Tryz.underlying9 g0
  obtain ⟨s1, e1, _, z1⟩ := DataW.trod_string Tryz.underlying9 g1
  obtain ⟨b2, e2, _⟩ := DataW.trod_bool Tryz.underlying4 g2
  obtain ⟨b3, e3, _⟩ := DataW.trod_bool Tryz.underlying4 g3
  refine ⟨⟨s0, s1, b2, b3⟩, ?_, z1, ?_⟩
  · simp only [List.cons.injEq, and_true] at e0 e1 e2 e3
    subst e0 e1 e2 e3
    rfl
  · rw [hxy]
    show _ ∈ DataW.weights Tryz.prog TLn (.agg _)
    unfold DataW.weights
    rw [Tryz.underlying40]
    refine DataW.weights_mem_each (j := 0) (t := 9) (d := y0.1) rfl rfl _ ?_
    rw [x0]
    show s0.size ∈ [s0.data.toList.length]
    simp
theorem add_of (b off i : Nat) : Addr.add ⟨b, off, none⟩ i = ⟨b, off + i, none⟩ := by
  unfold Addr.add; split
  · subst_vars; rfl
  · rfl
theorem weights_all {H : Type} {P : Program} {e : TypeId} {ds : List (DataW H)} {d : DataW H} (h : d ∈ ds) {n : Nat} (hn : n ∈ d.weights P e) : n ∈ DataW.weightsAll P e ds := by
  induction ds with
  | nil => cases h
  | cons a r ih =>
    simp only [DataW.weightsAll, List.mem_append]
    rcases List.mem_cons.1 h with rfl | h
    · exact .inl hn
    · exact .inr (ih h)
theorem lines_open {H : Type} {enc : TypeId × Value → H} {W : World} {fuel : Nat} {y : DataW H × List MemPlace} {a0 : Option Addr} {len0 cap0 : Nat} (h : DataW.trod enc Tryz.prog W 0 (fun _ => true) true fuel 22 [.slice a0 len0 cap0] = some y)
    (hw : ∀ n ∈ y.1.weights Tryz.prog 22, n ≤ reachBytes) : ∃ ls : List Ln, IsL W.heap.size W (.slice a0 len0 cap0) ls := by
  rcases open_slice Tryz.underlying22 h with ⟨hcs, _⟩ | ⟨a, len, cap, m, n, D, Pl, hcs, _, hl, hm, hmm, hy, hx⟩
  · simp at hcs
    obtain ⟨rfl, rfl, rfl⟩ := hcs
    exact ⟨[], ⟨by simp, by simp, .inl ⟨rfl, _, _, rfl⟩⟩⟩
  · simp at hcs
    obtain ⟨rfl, rfl, rfl⟩ := hcs
    simp only [if_true] at hmm
    subst hmm
    rw [hy] at hw
    simp only [DataW.weights, Tryz.underlying22, List.length_map, List.length_range, bytes_ln] at hw
    have hlen : len0 ≤ 140737488355328 := by
      have := hw _ List.mem_cons_self
      unfold reachBytes at this
      omega
    by_cases h0 : len0 = 0
    · subst h0
      exact ⟨[], ⟨by simp, by simp, .inl ⟨rfl, _, _, rfl⟩⟩⟩
    · have hel : ∀ i, i < len0 → ∃ l : Ln, (l.key.size ≤ 140737488355328 ∧ l.val.size ≤ maxLen) ∧ ∀ j u, (lnv l)[j]? = some u → W.cell? (a.add (i * 4) |>.add j) = some u := by
        intro i hi
        obtain ⟨cs', h1, h2⟩ := hx i (by omega)
        rw [show Tryz.prog.cellsOf TLn = 4 from cell_ln] at h1
        obtain ⟨_, hlen', hcell⟩ := World.cells?_some h1
        obtain ⟨l, rfl, hv, hk⟩ := line_open h2 hlen'
        have hkb : l.key.size ≤ reachBytes := hw _ (List.mem_cons_of_mem _ (List.mem_append_left _ (weights_all (d := D i) (List.mem_map_of_mem (List.mem_range.2 hi)) hk)))
        refine ⟨l, ⟨by unfold reachBytes at hkb; omega, hv⟩, fun j u hu => ?_⟩
        have hj : j < 4 := (List.getElem?_eq_some_iff.1 hu).1
        rw [hcell j hj]
        exact hu
      haveI : Inhabited Ln := ⟨zl⟩
      obtain ⟨F, hF⟩ := choose_lt hel
      obtain ⟨b, off, spot⟩ := a
      have hc := (hF 0 (by omega)).2 0 _ rfl
      have hspot : spot = none := by simpa [Addr.add] using World.cell?_spot hc
      subst hspot
      have hbl : b < W.heap.size := by
        have := lt_of_cell hc
        rw [add_of, add_of] at this
        exact this
      refine ⟨(List.range len0).map F, ⟨?_, by simpa using hlen, .inr ⟨b, off, m, by simp, hbl, ?_⟩⟩⟩
      · intro r hr
        obtain ⟨i, hi, rfl⟩ := List.mem_map.1 hr
        exact (hF i (List.mem_range.1 hi)).1
      · intro i l hl j u hu
        rw [List.getElem?_map] at hl
        have hi : i < len0 := by
          rcases Nat.lt_or_ge i len0 with q | q
          · exact q
          · rw [List.getElem?_eq_none (by simpa using q)] at hl; cases hl
        rw [List.getElem?_range hi] at hl
        have : F i = l := by injection hl
        subst this
        have := (hF i hi).2 j u hu
        rwa [add_of, add_of] at this
end Sg
end Go.Proofs.YtolddolfpnkndaaGreat
