/-
  THE WALK OF Crash.
-/
import Derived.Test.YtnakaomgceoobaaGreatDka
import Derived.Test.YtnakaomgceoobaaGreatRg2
namespace Go.Proofs.YtnakaomgceoobaaGreat
open Go.RowKit Go.Maps Go.WideMaps
namespace Dk
open Vt
attribute [local go_sem ↓] slice_hid min_hid max_hid
theorem invK (key : Value) (l : Lit) (h : keyOf Tryz.prog TS key = some l) : ∃ x, key = Value.string x := by
  obtain ⟨s, h1, _⟩ := string_of_keyOf Tryz.underlying9 h
  exact ⟨s, h1⟩
theorem invV (v : Value) (y : DataW Unit × List MemPlace) (h : ptrElem v = some y) : ∃ c, v = ptrV c := by
  obtain ⟨x, h1, _⟩ := ptrElem_inv h
  exact ⟨x, h1⟩
/-- Crash's loop under way -/
structure Cr (w : World) (d m : Nat) (es : List En) (O : Nat → Prop) (S : Ds) (keep : Int) (D : DataW Unit) (r : Nat) (wr : World) (lf : Lit → Bool) (cnt : Nat) (es' : List En) (O' : Nat → Prop) : Prop where
  rng : wr.ranges Tryz.prog TS ptrElem m r es.length D lf cnt
  q : DKq wr d m es' O' (cells { S with used := gone lf (fun e => (crashed keep e.fi).dat.length) es } m)
  blk : es'.map En.blk = es.map En.blk
  fi : es'.map En.fi = crs keep lf es
  tr : Tr O w wr
  sub : ∀ b, O' b → O b ∨ w.heap.size ≤ b
  nr : ¬ O' r
theorem ranges_same {w w' : World} {m r n : Nat} {D : DataW Unit} {lf : Lit → Bool} {cnt : Nat} (h : w.ranges Tryz.prog TS ptrElem m r n D lf cnt) (h1 : w'.heap[m]? = w.heap[m]?) (h2 : w'.heap[r]? = w.heap[r]?) : w'.ranges Tryz.prog TS ptrElem m r n D lf cnt := by
  obtain ⟨es, clock, since, seen, c0, hb, F, hs, hD, hr, hrest⟩ := h
  exact ⟨es, clock, since, seen, c0, h1.trans hb, F, hs, hD, h2.trans hr, hrest⟩
theorem Cr.step {w : World} {d m : Nat} {es : List En} {O : Nat → Prop} {S : Ds} {keep : Int} {D : DataW Unit} {wr : World} {lf : Lit → Bool} {cnt : Nat} {es' : List En} {O' : Nat → Prop} (hC : Cr w d m es O S keep D w.heap.size wr lf cnt es' O')
    (hnm : es.Pairwise fun a b => a.nm ≠ b.nm) {s : ByteArray} (hs : s.size ≤ maxLen) (hl : lf (kl s) = true) {e e0 : En} (hfe : fnd es s = some e) (hfe0 : fnd es' s = some e0) (_hbe : e0.blk = e.blk) (hfi : e0.fi = e.fi) {n : Nat} (hn : n = left keep e.fi) (hnle : n ≤ e0.dat.length)
    {w1 w2 wf : World} {cnt1 : Nat} (hg1 : wr.grownBy w1 (some w.heap.size)) (hrg1 : w1.ranges Tryz.prog TS ptrElem m w.heap.size es.length D (strike lf (kl s)) cnt1) {v' x : Value} (hb2 : Blk w2 e0.blk TF [v', x]) (hJ2 : JB w2 0 v' (e0.dat.take n)) (ht2 : Tr (fun b => b = e0.blk) w1.drew w2) (hl2 : ∀ g, v'.ownBlock = some g → w1.drew.heap.size ≤ g)
    (hwf : wf = (w2.setCell ⟨e0.blk, 1, none⟩ (.int .i64 (n : Int))).drew.setCell ⟨d, 1, none⟩ (.int .i64 ((gone lf (fun e => (crashed keep e.fi).dat.length) es : Int) + (n : Int)))) :
    Cr w d m es O S keep D w.heap.size wf (strike lf (kl s)) cnt1 (updE es' s { e0 with val := v', dat := e0.dat.take n, las := n }) (fun b => O' b ∨ v'.ownBlock = some b) := by
  have ht1 : Tr (fun b => b = w.heap.size) wr w1 := Tr.grown (O := fun b => b = w.heap.size) hg1 fun k q => by injection q with q; exact q.symm
  have hq1 := hC.q.aside ht1 (fun b q z => hC.nr (by rw [← z]; exact q))
  obtain ⟨hm0, hs0⟩ := fnd_mem hfe0
  obtain ⟨hfb, hJ⟩ := hq1.file e0 hm0
  have hed : e0.blk ≠ d := blk_ne hfb hq1.box (by decide)
  have hlw : (e0.dat.take n).length = n := by rw [List.length_take]; omega
  have hdat : e0.dat = e.dat := congrArg Fi.dat hfi
  have hcr : (crashed keep e.fi).dat.length = n := by
    show (e.dat.take (left keep e.fi)).length = n
    rw [← hn, ← hdat]; exact hlw
  have hbd2 : Blk w2 d TD _ := (ht2.block d hq1.box.lt (fun q => hed q.symm)).trans hq1.box
  have hsz1 : wr.heap.size ≤ w1.heap.size := hg1.size
  have hsz2 : w1.heap.size ≤ w2.heap.size := ht2.size
  have hwr : w.heap.size < wr.heap.size := hC.rng.lt
  have hwfs : wf.heap.size = w2.heap.size := by rw [hwf, set_size]; exact set_size _ _ _ _
  have hblk : ∀ b, b ≠ e0.blk → b ≠ d → wf.heap[b]? = w2.heap[b]? := by
    intro b q1 q2
    rw [hwf, set_heap _ _ _ _ _ q2]
    exact set_heap _ _ _ _ _ q1
  have hblk1 : ∀ b, b < w1.heap.size → b ≠ e0.blk → b ≠ d → wf.heap[b]? = w1.heap[b]? := fun b h1 q1 q2 => (hblk b q1 q2).trans (ht2.block b h1 q1)
  have hmd : m ≠ d := fun q => hq1.map.notBlk hq1.box q.symm
  have hme : m ≠ e0.blk := fun q => hq1.map.notBlk hfb q.symm
  have hrO : ∀ b, O' b → b ≠ w.heap.size := fun b q z => hC.nr (by rw [← z]; exact q)
  refine ⟨ranges_same hrg1 (hblk1 m hq1.map.lt hme hmd) (hblk1 _ (by omega) (fun q => hrO _ (hq1.own.2.2 e0 hm0).1 q.symm) (fun q => hrO _ hq1.own.1 q.symm)), ?_, ?_, ?_, ?_, ?_, ?_⟩
  · refine hq1.put hfe0 rfl rfl (fun b hb q1 q2 _ => hblk1 b (hq1.olt b hb) q1 q2) (by omega) ?_ ?_ ?_ ?_
    · rw [gone_step hnm hfe hs hl, hcr, hwf]
      exact Blk.set (W := (w2.setCell ⟨e0.blk, 1, none⟩ (.int .i64 (n : Int))).drew) (Blk.other (W := w2) hbd2 hed _) _
    · rw [hwf]
      exact Blk.other (W := (w2.setCell ⟨e0.blk, 1, none⟩ (.int .i64 (n : Int))).drew) (hb2.set _) (fun q => hed q.symm) _
    · exact JB.same hJ2 fun g hg => hblk g (jb_ne hJ2 hg hb2 (by decide)) (jb_ne hJ2 hg hbd2 (by decide))
    · exact fun g q => .inr (hl2 g q)
  · rw [← hC.blk]
    unfold updE
    rw [List.map_map]
    refine List.map_congr_left fun z hz => ?_
    simp only [Function.comp]
    split
    · rename_i q
      rw [one_nm hq1.names hfe0 hz q]
    · rfl
  · rw [← crs_step hs hl, ← hC.fi]
    refine updE_fi fun z hz q => ?_
    rw [one_nm hq1.names hfe0 hz q]
    show (⟨e0.nm, e0.dat.take n, n⟩ : Fi) = ⟨e0.nm, e0.dat.take (left keep e0.fi), (e0.dat.take (left keep e0.fi)).length⟩
    rw [hfi, ← hn, hlw]
  · have t1 : Tr O w w1 := hC.tr.trans ht1 fun b q => .inr (by omega)
    have t2 : Tr O w w2 := (t1.trans (Tr.drew O w1) fun b q => .inl q).trans ht2 fun b q => by rw [q]; exact hC.sub _ (hq1.own.2.2 e0 hm0).1
    have t3 : Tr O w (w2.setCell ⟨e0.blk, 1, none⟩ (.int .i64 (n : Int))).drew := (t2.trans (Tr.set (O := fun b => b = e0.blk) (p := ⟨e0.blk, 1, none⟩) rfl _) fun b q => by rw [q]; exact hC.sub _ (hq1.own.2.2 e0 hm0).1).trans (Tr.drew O _) fun b q => .inl q
    rw [hwf]
    exact t3.trans (Tr.set (O := fun b => b = d) (p := ⟨d, 1, none⟩) rfl _) fun b q => by rw [q]; exact hC.sub _ hq1.own.1
  · intro b q
    rcases q with q | q
    · exact hC.sub b q
    · have : w1.heap.size ≤ b := hl2 b q
      exact .inr (by omega)
  · rintro (q | q)
    · exact hC.nr q
    · have : w1.heap.size ≤ w.heap.size := hl2 _ q
      omega
theorem get_crs (keep : Int) (lf : Lit → Bool) (es : List En) (s : ByteArray) : get (crs keep lf es) s = (fnd es s).map fun e => if lf (kl e.nm) then e.fi else crashed keep e.fi := by
  unfold get crs fnd
  rw [List.find?_map]
  congr 2
  funext e
  simp only [Function.comp]
  rw [crs_nm]
theorem crash_find {w : World} {d m : Nat} {es : List En} {O : Nat → Prop} {S : Ds} {keep : Int} {D : DataW Unit} {r : Nat} {wr : World} {lf : Lit → Bool} {cnt : Nat} {es' : List En} {O' : Nat → Prop}
    (hat : ∀ s : ByteArray, s.size ≤ maxLen → D.atKey (kl s) .nil = rdP ((fnd es s).map En.blk)) (hhas : ∀ s : ByteArray, s.size ≤ maxLen → Maps.has D (kl s) = (fnd es s).isSome) (h : Cr w d m es O S keep D r wr lf cnt es' O') {s : ByteArray} (hs : s.size ≤ maxLen) (hl : lf (kl s) = true)
    {c : Option Nat} {y : DataW Unit} {yp : List MemPlace} (hy : ptrElem (ptrV c) = some (y, yp)) (hya : ∀ zd, D.atKey (kl s) zd = y) : ∃ e e0, fnd es s = some e ∧ c = some e.blk ∧ fnd es' s = some e0 ∧ e0.blk = e.blk ∧ e0.fi = e.fi := by
  have h1 := Maps.has_true_of_atKey hya
  rw [hhas s hs] at h1
  cases hf : fnd es s with
  | none => rw [hf] at h1; cases h1
  | some e =>
    have h2 := hya .nil
    rw [hat s hs, hf] at h2
    rw [ptrElem_mk] at hy
    injection hy with hy
    have h3 : rdP c = y := congrArg Prod.fst hy
    have hc : c = some e.blk := rdP_inj (h3.trans h2.symm)
    have hnm : es'.map En.nm = es.map En.nm := by
      have := congrArg (List.map Fi.nm) h.fi
      unfold crs at this
      rw [List.map_map, List.map_map] at this
      refine this.trans (List.map_congr_left fun x _ => ?_)
      exact crs_nm keep lf x
    have h4 := fnd_blk h.blk hnm s
    rw [hf] at h4
    cases hf' : fnd es' s with
    | none => rw [hf'] at h4; cases h4
    | some e0 =>
      rw [hf'] at h4
      have h5 : e0.blk = e.blk := by simpa using h4
      have h6 : get (es'.map En.fi) s = some e0.fi := by rw [fnd_get, hf']; rfl
      rw [h.fi, get_crs, hf] at h6
      have h7 : (fnd_mem hf).2 = (fnd_mem hf).2 := rfl
      simp only [Option.map_some, (fnd_mem hf).2, hl, if_true] at h6
      injection h6 with h6
      exact ⟨e, e0, rfl, hc, rfl, h5, h6.symm⟩
theorem crash_len {w : World} {d m : Nat} {es : List En} {O : Nat → Prop} {S : Ds} (h : DKm w d m es O S) {s : ByteArray} {e e0 : En} (hf : fnd es s = some e) (hfi : e0.fi = e.fi) : e0.las ≤ e0.dat.length ∧ e0.dat.length ≤ 4194304 := by
  have h1 : e0.las = e.las := congrArg Fi.las hfi
  have h2 : e0.dat = e.dat := congrArg Fi.dat hfi
  have h3 := h.good.las e.fi (by rw [h.fs]; exact List.mem_map.2 ⟨e, (fnd_mem hf).1, rfl⟩)
  have h4 : e.dat.length ≤ S.used := by rw [h.good.used, h.fs]; exact get_len_le (f := e.fi) (by rw [fnd_get, hf]; rfl)
  have h5 := h.good.room
  have h6 := h.good.cap
  have h7 : e.las ≤ e.dat.length := h3
  rw [h1, h2]
  omega
end Dk
end Go.Proofs.YtnakaomgceoobaaGreat
