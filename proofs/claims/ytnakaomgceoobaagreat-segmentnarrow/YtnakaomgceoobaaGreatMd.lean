/-
  A REGION THAT DRAWS ITS ORDER, whose last operation comes behind all others and alone turns the world, in whatever way (a call). No condition beyond those that each theorem bears.
  THE WALK OF Crash.
  THE WALKS OF the law's sameBytes and pick; New without a file.
  BYTES AS A STRING, A STRING'S BYTES. No program here.
  THE PLAIN MATHEMATICS OF FILE NAMES, of lists of bytes: eight digits there and back, what a name of a class is, what Parse tells, and that both go with one another. No program here.
  The library's contracts, laid at this program's numbers. No condition beyond those that each row bears.
-/
import Derived.Test.YtnakaomgceoobaaGreatMb
import Derived.Test.YtnakaomgceoobaaGreatMc
import Derived.Deep.QuietTactic
import Derived.BigQuiet
import Derived.Deep.RegionWith
import Derived.OwnWalk
import Derived.Test.YtnakaomgceoobaaGreatMa
import Derived.Shelf.Small.Strs
import Derived.Shelf.Small.Wraps
import Derived.Shelf.Strings.Search1
import Derived.Shelf.Strings.Prefix
import Derived.Test.YtnakaomgceoobaaGreatRows
namespace Go.Proofs.YtnakaomgceoobaaGreat
open Go Go.RowKit
def lastOk (ops : Array Oper) (L : Nat) : Bool := decide (L < ops.size) && (List.range ops.size).all fun j => decide (j = L) || anc ops ops.size L j
theorem last_spec {ops : Array Oper} {L : Nat} (h : lastOk ops L = true) : L < ops.size ∧ ∀ j, j < ops.size → j ≠ L → anc ops ops.size L j = true := by
  unfold lastOk at h
  simp only [Bool.and_eq_true, decide_eq_true_eq, List.all_eq_true, List.mem_range, Bool.or_eq_true] at h
  exact ⟨h.1, fun j hj hne => (h.2 j hj).elim (fun e => absurd e hne) id⟩
theorem region_end {P : Program} {id : Nat} {ops : Array Oper} {Q : Exit → Act → World → Prop} {a0 : Act} {w0 : World} (val : Nat → Value) (E : Nat)
    (hm : P.follows .mixedOrders = true) (hg : (ops.all fun o => o.guard.isNone) = true) (hdf : dstsGood ops a0.tmps.size = true) (hah : aftersAhead ops = true) (hE : lastOk ops E = true)
    (step : ∀ i o, i ≠ E → ops[i]? = some o → ∀ (a : Act),
      (∀ k, (∀ j, j < ops.size → dstOf ops j ≠ some k) → a.tmps.getD k undef = a0.tmps.getD k undef) →
      (∀ e ∈ o.after, Region.binds .any e = true → ∀ d, dstOf ops e.on = some d → a.tmps.getD d undef = val e.on) →
      o.wp P a w0.drew (fun a' w' => a' = a.put o.dst (val i) ∧ w' = w0.drew) Q)
    (last : ∀ o, ops[E]? = some o → ∀ a, a.defers = a0.defers → a.tmps.size = a0.tmps.size →
      (∀ k, (∀ j, j < ops.size → dstOf ops j ≠ some k) → a.tmps.getD k undef = a0.tmps.getD k undef) →
      (∀ i d, i < ops.size → i ≠ E → dstOf ops i = some d → a.tmps.getD d undef = val i) →
      (∀ d, dstOf ops E = some d → a.tmps.getD d undef = a0.tmps.getD d undef) → o.wp P a w0.drew (fun a' w' => Q .normal a' w') Q) :
    (Code.region id ops true).wp P Q a0 w0 := by
  obtain ⟨hElt, hEanc⟩ := last_spec hE
  refine wp_region_any hm ?_
  refine wpAny_inv (fun L a w => L.size = ops.size ∧ ((L.getD E false = false ∧ ClosedL ops L ∧ w = w0.drew ∧ a.defers = a0.defers ∧ a.tmps.size = a0.tmps.size ∧
      (∀ k, (∀ j, j < ops.size → dstOf ops j ≠ some k) → a.tmps.getD k undef = a0.tmps.getD k undef) ∧
      (∀ i d, i < ops.size → L.getD i false = true → dstOf ops i = some d → a.tmps.getD d undef = val i) ∧
      (∀ d, dstOf ops E = some d → a.tmps.getD d undef = a0.tmps.getD d undef)) ∨ ((∀ j, j < ops.size → L.getD j false = true) ∧ Q .normal a w))) (fun L a w h => h.1) ?_ ?_ _ _ _ _ ?_ ?_
  · rintro L a w i ⟨h1, ⟨hE0, hcl, rfl, h3, h4, h5, h6, h7⟩ | ⟨hall, _⟩⟩ hi
    · obtain ⟨o, ho, hlt', hL, haf⟩ := ready_spec hi
      have hLf : L.getD i false = false := by
        rw [Array.getD_eq_getD_getElem?, Array.getElem?_eq_getElem (by omega)] at hL ⊢
        simpa using hL
      have hon : ∀ e ∈ o.after, Region.binds .any e = true → e.on < ops.size := fun e he hb => by
        have := haf e he hb
        rcases Nat.lt_or_ge e.on ops.size with h' | h'
        · exact h'
        · rw [Array.getD_eq_getD_getElem?, Array.getElem?_eq_none (by omega)] at this; simp at this
      have hgo : o.guard = none := by
        rw [Array.all_eq_true] at hg
        have := hg i hlt'
        have ho' : ops[i] = o := by rw [Array.getElem?_eq_getElem hlt'] at ho; injection ho
        rw [ho'] at this
        simpa using this
      unfold wpOp
      rw [ho]
      simp only [wanted_none hgo, if_true]
      by_cases hiE : i = E
      · subst hiE
        have hlist : ∀ j, j < ops.size → j ≠ i → L.getD j false = true := fun j hj hne => anc_ready hcl ho haf _ _ (hEanc j hj hne)
        refine .inl (Oper.wp_mono ?_ (last o ho a h3 h4 h5 (fun k d hk hne hd => h6 k d hk (hlist k hk hne) hd) h7))
        intro a' w' hq
        refine ⟨by rw [Array.size_setIfInBounds]; exact h1, .inr ⟨fun j hj => ?_, hq⟩⟩
        rw [set_getD' _ _ _ (by omega)]
        by_cases e : j = i
        · rw [if_pos e]
        · rw [if_neg e]; exact hlist j hj e
      · refine .inl (Oper.wp_mono ?_ (step i o hiE ho a h5 (fun e he hb d hd => h6 e.on d (hon e he hb) (haf e he hb) hd)))
        rintro a' w' ⟨rfl, rfl⟩
        refine ⟨by rw [Array.size_setIfInBounds]; exact h1, .inl ⟨?_, ?_, rfl, ?_, ?_, ?_, ?_, ?_⟩⟩
        · rw [set_getD' _ _ _ (by omega), if_neg (fun e => hiE e.symm)]; exact hE0
        · intro j p hp hj e he hb
          rw [set_getD' _ _ _ (by omega)] at hj ⊢
          by_cases hji : j = i
          · subst hji
            rw [ho] at hp
            injection hp with hp
            subst hp
            rw [haf e he hb]; simp
          · rw [if_neg hji] at hj
            rw [hcl j p hp hj e he hb]; simp
        · cases o.dst <;> exact h3
        · cases hod : o.dst with
          | none => exact h4
          | some d => simp only [Act.put, Array.size_setIfInBounds]; exact h4
        · intro k hk
          cases hod : o.dst with
          | none => exact h5 k hk
          | some d =>
            have hdi : dstOf ops i = some d := by simp [dstOf, ho, hod]
            rw [getD_put _ _ _ _ (by have := (good_spec hdf hlt' hdi).1; omega), if_neg (fun e => hk i hlt' (by rw [e]; exact hdi))]
            exact h5 k hk
        · intro j d hj hLj hdj
          rw [set_getD' _ _ _ (by omega)] at hLj
          cases hod : o.dst with
          | none =>
            by_cases hji : j = i
            · subst hji
              have : dstOf ops j = none := by simp [dstOf, ho, hod]
              rw [this] at hdj
              cases hdj
            · rw [if_neg hji] at hLj
              exact h6 j d hj hLj hdj
          | some d' =>
            have hdi : dstOf ops i = some d' := by simp [dstOf, ho, hod]
            have hf := good_spec hdf hlt' hdi
            rw [getD_put _ _ _ _ (by omega)]
            by_cases hji : j = i
            · subst hji
              rw [hdi] at hdj
              injection hdj with hdj
              rw [if_pos hdj.symm]
            · rw [if_neg hji] at hLj
              rw [if_neg (fun e => hf.2 j hj hji (by rw [← e]; exact hdj))]
              exact h6 j d hj hLj hdj
        · intro d hdj
          cases hod : o.dst with
          | none => exact h7 d hdj
          | some d' =>
            have hdi : dstOf ops i = some d' := by simp [dstOf, ho, hod]
            have hf := good_spec hdf hlt' hdi
            rw [getD_put _ _ _ _ (by omega), if_neg (fun e => hf.2 E hElt (fun q => hiE q.symm) (by rw [← e]; exact hdj))]
            exact h7 d hdj
    · exfalso
      obtain ⟨o, ho, hlt', hL, haf⟩ := ready_spec hi
      have := hall i hlt'
      rw [Array.getD_eq_getD_getElem?, Array.getElem?_eq_getElem (by omega)] at hL this
      simp at hL this
      rw [hL] at this
      cases this
  · rintro L a w ⟨h1, ⟨hE0, _⟩ | ⟨_, hq⟩⟩ hr
    · have hall := all_listed hah h1 hr
      rw [hall E hElt] at hE0
      cases hE0
    · exact hq
  · refine ⟨by simp, .inl ⟨?_, ?_, rfl, rfl, rfl, fun _ _ => rfl, fun i d hi h => ?_, fun _ _ => rfl⟩⟩
    · rw [Array.getD_eq_getD_getElem?, Array.getElem?_replicate]
      split <;> simp
    · intro j p hp hj
      rw [Array.getD_eq_getD_getElem?, Array.getElem?_replicate] at hj
      split at hj <;> simp at hj
    · rw [Array.getD_eq_getD_getElem?, Array.getElem?_replicate] at h
      simp [hi] at h
  · unfold left
    exact Nat.le_trans (List.countP_le_length) (by simp)
end Go.Proofs.YtnakaomgceoobaaGreat
namespace Go.Proofs.YtnakaomgceoobaaGreat
open Go.RowKit Go.Maps Go.WideMaps
namespace Dk
open Vt
attribute [local go_sem ↓] slice_hid min_hid max_hid
theorem invK (key : Value) (l : Lit) (h : keyOf Tryz.prog TS key = some l) : ∃ x, key = Value.string x := by
  obtain ⟨s, h1, _⟩ := string_of_keyOf Tryz.underlying9 h
  exact ⟨s, h1⟩
theorem invV (v : Value) (y : DataW Unit × List MemPlace) (h : ptrElem v = some y) : ∃ c, v = ptrV c := by
  obtain ⟨x, h1, _⟩ := ptrElem_inv h
  exact ⟨x, h1⟩
/-- Crash's loop under way -/
structure Cr (w : World) (d m : Nat) (es : List En) (O : Nat → Prop) (S : Ds) (keep : Int) (D : DataW Unit) (r : Nat) (wr : World) (lf : Lit → Bool) (cnt : Nat) (es' : List En) (O' : Nat → Prop) : Prop where
  rng : wr.ranges Tryz.prog TS ptrElem m r es.length D lf cnt
  q : DKq wr d m es' O' (cells { S with used := gone lf (fun e => (crashed keep e.fi).dat.length) es } m)
  blk : es'.map En.blk = es.map En.blk
  fi : es'.map En.fi = crs keep lf es
  tr : Tr O w wr
  sub : ∀ b, O' b → O b ∨ w.heap.size ≤ b
  nr : ¬ O' r
theorem ranges_same {w w' : World} {m r n : Nat} {D : DataW Unit} {lf : Lit → Bool} {cnt : Nat} (h : w.ranges Tryz.prog TS ptrElem m r n D lf cnt) (h1 : w'.heap[m]? = w.heap[m]?) (h2 : w'.heap[r]? = w.heap[r]?) : w'.ranges Tryz.prog TS ptrElem m r n D lf cnt := by
  obtain ⟨es, clock, since, seen, c0, hb, F, hs, hD, hr, hrest⟩ := h
  exact ⟨es, clock, since, seen, c0, h1.trans hb, F, hs, hD, h2.trans hr, hrest⟩
theorem Cr.step {w : World} {d m : Nat} {es : List En} {O : Nat → Prop} {S : Ds} {keep : Int} {D : DataW Unit} {wr : World} {lf : Lit → Bool} {cnt : Nat} {es' : List En} {O' : Nat → Prop} (hC : Cr w d m es O S keep D w.heap.size wr lf cnt es' O')
    (hnm : es.Pairwise fun a b => a.nm ≠ b.nm) {s : ByteArray} (hs : s.size ≤ maxLen) (hl : lf (kl s) = true) {e e0 : En} (hfe : fnd es s = some e) (hfe0 : fnd es' s = some e0) (_hbe : e0.blk = e.blk) (hfi : e0.fi = e.fi) {n : Nat} (hn : n = left keep e.fi) (hnle : n ≤ e0.dat.length)
    {w1 w2 wf : World} {cnt1 : Nat} (hg1 : wr.grownBy w1 (some w.heap.size)) (hrg1 : w1.ranges Tryz.prog TS ptrElem m w.heap.size es.length D (strike lf (kl s)) cnt1) {v' x : Value} (hb2 : Blk w2 e0.blk TF [v', x]) (hJ2 : JB w2 0 v' (e0.dat.take n)) (ht2 : Tr (fun b => b = e0.blk) w1.drew w2) (hl2 : ∀ g, v'.ownBlock = some g → w1.drew.heap.size ≤ g)
    (hwf : wf = (w2.setCell ⟨e0.blk, 1, none⟩ (.int .i64 (n : Int))).drew.setCell ⟨d, 1, none⟩ (.int .i64 ((gone lf (fun e => (crashed keep e.fi).dat.length) es : Int) + (n : Int)))) :
    Cr w d m es O S keep D w.heap.size wf (strike lf (kl s)) cnt1 (updE es' s { e0 with val := v', dat := e0.dat.take n, las := n }) (fun b => O' b ∨ v'.ownBlock = some b) := by
  have ht1 : Tr (fun b => b = w.heap.size) wr w1 := Tr.grown (O := fun b => b = w.heap.size) hg1 fun k q => by injection q with q; exact q.symm
  have hq1 := hC.q.aside ht1 (fun b q z => hC.nr (by rw [← z]; exact q))
  obtain ⟨hm0, hs0⟩ := fnd_mem hfe0
  obtain ⟨hfb, hJ⟩ := hq1.file e0 hm0
  have hed : e0.blk ≠ d := blk_ne hfb hq1.box (by decide)
  have hlw : (e0.dat.take n).length = n := by rw [List.length_take]; omega
  have hdat : e0.dat = e.dat := congrArg Fi.dat hfi
  have hcr : (crashed keep e.fi).dat.length = n := by
    show (e.dat.take (left keep e.fi)).length = n
    rw [← hn, ← hdat]; exact hlw
  have hbd2 : Blk w2 d TD _ := (ht2.block d hq1.box.lt (fun q => hed q.symm)).trans hq1.box
  have hsz1 : wr.heap.size ≤ w1.heap.size := hg1.size
  have hsz2 : w1.heap.size ≤ w2.heap.size := ht2.size
  have hwr : w.heap.size < wr.heap.size := hC.rng.lt
  have hwfs : wf.heap.size = w2.heap.size := by rw [hwf, set_size]; exact set_size _ _ _ _
  have hblk : ∀ b, b ≠ e0.blk → b ≠ d → wf.heap[b]? = w2.heap[b]? := by
    intro b q1 q2
    rw [hwf, set_heap _ _ _ _ _ q2]
    exact set_heap _ _ _ _ _ q1
  have hblk1 : ∀ b, b < w1.heap.size → b ≠ e0.blk → b ≠ d → wf.heap[b]? = w1.heap[b]? := fun b h1 q1 q2 => (hblk b q1 q2).trans (ht2.block b h1 q1)
  have hmd : m ≠ d := fun q => hq1.map.notBlk hq1.box q.symm
  have hme : m ≠ e0.blk := fun q => hq1.map.notBlk hfb q.symm
  have hrO : ∀ b, O' b → b ≠ w.heap.size := fun b q z => hC.nr (by rw [← z]; exact q)
  refine ⟨ranges_same hrg1 (hblk1 m hq1.map.lt hme hmd) (hblk1 _ (by omega) (fun q => hrO _ (hq1.own.2.2 e0 hm0).1 q.symm) (fun q => hrO _ hq1.own.1 q.symm)), ?_, ?_, ?_, ?_, ?_, ?_⟩
  · refine hq1.put hfe0 rfl rfl (fun b hb q1 q2 _ => hblk1 b (hq1.olt b hb) q1 q2) (by omega) ?_ ?_ ?_ ?_
    · rw [gone_step hnm hfe hs hl, hcr, hwf]
      exact Blk.set (W := (w2.setCell ⟨e0.blk, 1, none⟩ (.int .i64 (n : Int))).drew) (Blk.other (W := w2) hbd2 hed _) _
    · rw [hwf]
      exact Blk.other (W := (w2.setCell ⟨e0.blk, 1, none⟩ (.int .i64 (n : Int))).drew) (hb2.set _) (fun q => hed q.symm) _
    · exact JB.same hJ2 fun g hg => hblk g (jb_ne hJ2 hg hb2 (by decide)) (jb_ne hJ2 hg hbd2 (by decide))
    · exact fun g q => .inr (hl2 g q)
  · rw [← hC.blk]
    unfold updE
    rw [List.map_map]
    refine List.map_congr_left fun z hz => ?_
    simp only [Function.comp]
    split
    · rename_i q
      rw [one_nm hq1.names hfe0 hz q]
    · rfl
  · rw [← crs_step hs hl, ← hC.fi]
    refine updE_fi fun z hz q => ?_
    rw [one_nm hq1.names hfe0 hz q]
    show (⟨e0.nm, e0.dat.take n, n⟩ : Fi) = ⟨e0.nm, e0.dat.take (left keep e0.fi), (e0.dat.take (left keep e0.fi)).length⟩
    rw [hfi, ← hn, hlw]
  · have t1 : Tr O w w1 := hC.tr.trans ht1 fun b q => .inr (by omega)
    have t2 : Tr O w w2 := (t1.trans (Tr.drew O w1) fun b q => .inl q).trans ht2 fun b q => by rw [q]; exact hC.sub _ (hq1.own.2.2 e0 hm0).1
    have t3 : Tr O w (w2.setCell ⟨e0.blk, 1, none⟩ (.int .i64 (n : Int))).drew := (t2.trans (Tr.set (O := fun b => b = e0.blk) (p := ⟨e0.blk, 1, none⟩) rfl _) fun b q => by rw [q]; exact hC.sub _ (hq1.own.2.2 e0 hm0).1).trans (Tr.drew O _) fun b q => .inl q
    rw [hwf]
    exact t3.trans (Tr.set (O := fun b => b = d) (p := ⟨d, 1, none⟩) rfl _) fun b q => by rw [q]; exact hC.sub _ hq1.own.1
  · intro b q
    rcases q with q | q
    · exact hC.sub b q
    · have : w1.heap.size ≤ b := hl2 b q
      exact .inr (by omega)
  · rintro (q | q)
    · exact hC.nr q
    · have : w1.heap.size ≤ w.heap.size := hl2 _ q
      omega
theorem get_crs (keep : Int) (lf : Lit → Bool) (es : List En) (s : ByteArray) : get (crs keep lf es) s = (fnd es s).map fun e => if lf (kl e.nm) then e.fi else crashed keep e.fi := by
  unfold get crs fnd
  rw [List.find?_map]
  congr 2
  funext e
  simp only [Function.comp]
  rw [crs_nm]
theorem crash_find {w : World} {d m : Nat} {es : List En} {O : Nat → Prop} {S : Ds} {keep : Int} {D : DataW Unit} {r : Nat} {wr : World} {lf : Lit → Bool} {cnt : Nat} {es' : List En} {O' : Nat → Prop}
    (hat : ∀ s : ByteArray, s.size ≤ maxLen → D.atKey (kl s) .nil = rdP ((fnd es s).map En.blk)) (hhas : ∀ s : ByteArray, s.size ≤ maxLen → Maps.has D (kl s) = (fnd es s).isSome) (h : Cr w d m es O S keep D r wr lf cnt es' O') {s : ByteArray} (hs : s.size ≤ maxLen) (hl : lf (kl s) = true)
    {c : Option Nat} {y : DataW Unit} {yp : List MemPlace} (hy : ptrElem (ptrV c) = some (y, yp)) (hya : ∀ zd, D.atKey (kl s) zd = y) : ∃ e e0, fnd es s = some e ∧ c = some e.blk ∧ fnd es' s = some e0 ∧ e0.blk = e.blk ∧ e0.fi = e.fi := by
  have h1 := Maps.has_true_of_atKey hya
  rw [hhas s hs] at h1
  cases hf : fnd es s with
  | none => rw [hf] at h1; cases h1
  | some e =>
    have h2 := hya .nil
    rw [hat s hs, hf] at h2
    rw [ptrElem_mk] at hy
    injection hy with hy
    have h3 : rdP c = y := congrArg Prod.fst hy
    have hc : c = some e.blk := rdP_inj (h3.trans h2.symm)
    have hnm : es'.map En.nm = es.map En.nm := by
      have := congrArg (List.map Fi.nm) h.fi
      unfold crs at this
      rw [List.map_map, List.map_map] at this
      refine this.trans (List.map_congr_left fun x _ => ?_)
      exact crs_nm keep lf x
    have h4 := fnd_blk h.blk hnm s
    rw [hf] at h4
    cases hf' : fnd es' s with
    | none => rw [hf'] at h4; cases h4
    | some e0 =>
      rw [hf'] at h4
      have h5 : e0.blk = e.blk := by simpa using h4
      have h6 : get (es'.map En.fi) s = some e0.fi := by rw [fnd_get, hf']; rfl
      rw [h.fi, get_crs, hf] at h6
      have h7 : (fnd_mem hf).2 = (fnd_mem hf).2 := rfl
      simp only [Option.map_some, (fnd_mem hf).2, hl, if_true] at h6
      injection h6 with h6
      exact ⟨e, e0, rfl, hc, rfl, h5, h6.symm⟩
theorem crash_len {w : World} {d m : Nat} {es : List En} {O : Nat → Prop} {S : Ds} (h : DKm w d m es O S) {s : ByteArray} {e e0 : En} (hf : fnd es s = some e) (hfi : e0.fi = e.fi) : e0.las ≤ e0.dat.length ∧ e0.dat.length ≤ 4194304 := by
  have h1 : e0.las = e.las := congrArg Fi.las hfi
  have h2 : e0.dat = e.dat := congrArg Fi.dat hfi
  have h3 := h.good.las e.fi (by rw [h.fs]; exact List.mem_map.2 ⟨e, (fnd_mem hf).1, rfl⟩)
  have h4 : e.dat.length ≤ S.used := by rw [h.good.used, h.fs]; exact get_len_le (f := e.fi) (by rw [fnd_get, hf]; rfl)
  have h5 := h.good.room
  have h6 := h.good.cap
  have h7 : e.las ≤ e.dat.length := h3
  rw [h1, h2]
  omega
end Dk
end Go.Proofs.YtnakaomgceoobaaGreat
namespace Go.Proofs.YtnakaomgceoobaaGreat
open Go.RowKit Go.Maps
namespace Dk
open Vt
def ds0 (c : Nat) : Ds := ⟨c, 0, 0, false, 0, 0, false, []⟩
theorem good0 {c : Nat} (h : c ≤ 4194304) : Good (ds0 c) := ⟨h, rfl, Nat.zero_le _, List.Pairwise.nil, by simp [ds0], by simp [ds0], by simp [ds0], by simp [ds0], by simp [ds0]⟩
set_option maxRecDepth 100000 in
theorem idx0 (w : World) (F : Value) : Calls Tryz.prog 50 #[.slice none 0 0, F] w fun e w' => e = .returned (.int .i64 (-1)) ∧ w' = w := by
  go_enter Tryz.func50, Tryz.ntmps50
  go_wp2_with fail
  refine wp_loop_rounds 1 ?_
  rw [rounds_succ]
  go_wp2_with fail
  go_ret
  exact ⟨rfl, rfl⟩
set_option maxRecDepth 100000 in
theorem has0 (w : World) (F : Value) : Calls Tryz.prog 27 #[.slice none 0 0, F] w fun e w' => e = .returned (.bool false) ∧ w' = w := by
  go_enter Tryz.func27, Tryz.ntmps27
  go_wp2_with fail
  refine Calls.mono (idx0 _ _) ?_
  rintro e w1 ⟨rfl, rfl⟩
  go_wp2_with fail
  go_ret
  exact ⟨rfl, rfl⟩
set_option maxRecDepth 100000 in
set_option maxHeartbeats 1000000 in
theorem new0_is (w : World) (c : Nat) (hc : c ≤ 4194304) : Calls Tryz.prog 13 #[.int .i64 (c : Int), .slice none 0 0] w fun e w' => ∃ d O, e = .returned (.tuple #[.pointer (some ⟨d, 0, none⟩), .int .i64 0]) ∧ DK w' d O (ds0 c) ∧ Tr (fun _ => False) w w' ∧ ∀ b, O b → w.heap.size ≤ b := by
  have hmm := @run_makeMap Tryz.prog
  obtain ⟨W, hW⟩ : ∃ W, W = (w.alloc (.map #[] 0)).alloc (.cells #[.int .i64 (c : Int), .int .i64 0, .map (some w.heap.size), .int .i64 0, .bool false, .int .i64 0, .int .i64 0, .bool false] TD) := ⟨_, rfl⟩
  have hbx : Blk W (w.heap.size + 1) TD (cells (ds0 c) w.heap.size) := by
    rw [hW]
    have := Blk.new (w.alloc (.map #[] 0)) TD (cells (ds0 c) w.heap.size)
    rwa [alloc_size] at this
  have FIN : ∀ n, DK (W.drewN n) (w.heap.size + 1) (fun b => b = w.heap.size ∨ b = w.heap.size + 1) (ds0 c) ∧ Tr (fun _ => False) w (W.drewN n) := by
    intro n
    refine ⟨⟨w.heap.size, [], rfl, hbx, ?_, by simp, List.Pairwise.nil, ⟨.inr rfl, .inl rfl, by simp⟩, ?_, good0 hc⟩, ?_⟩
    · have h1 : MP (w.alloc (.map #[] 0)) w.heap.size [] := ⟨.map [], World.ownsMap_made w Tryz.prog TS ptrElem, fun s _ => rfl, fun s _ => rfl, rfl⟩
      refine MP.same h1 ?_
      rw [hW]
      exact (MapKept.heap_alloc _ _).2 _ (by rw [alloc_size]; omega)
    · intro b q
      have : W.heap.size = w.heap.size + 2 := by rw [hW, alloc_size, alloc_size]
      show b < W.heap.size
      omega
    · have h1 : Tr (fun _ => False) w W := by rw [hW]; exact (Tr.alloc (fun _ => False) w _).trans (Tr.alloc (fun _ => False) _ _) fun x q => .inl q
      exact h1.trans (Tr.drewN (fun _ => False) W n) fun x q => .inl q
  have HF := hd FIN
  have d0 : ∀ n, (W.drewN n).cell? ⟨w.heap.size + 1, 0, none⟩ = some (.int .i64 (c : Int)) := fun n => hbx.cell 0 _ rfl
  have d1 : ∀ n, (W.drewN n).cell? ⟨w.heap.size + 1, 1, none⟩ = some (.int .i64 0) := fun n => hbx.cell 1 _ rfl
  have HW := hd hW
  clear hW FIN hbx
  go_enter Tryz.func13, Tryz.ntmps13
  go_wp2_with fail
  refine Calls.mono (has0 _ _) ?_
  rintro e w1 ⟨rfl, rfl⟩
  go_wp2_with fail
  refine wp_loop_rounds 1 ?_
  rw [rounds_succ]
  go_wp2_with fail
  rw [← HW.out]
  go_quiet (fail)
  go_wp2_with fail
  refine wp_loop_rounds 1 ?_
  rw [rounds_succ]
  go_wp2_with fail
  go_ret2
  exact ⟨_, _, rfl, (HF.out _).1, (HF.out _).2, fun b q => by omega⟩
end Dk
end Go.Proofs.YtnakaomgceoobaaGreat
namespace Go.Proofs.YtnakaomgceoobaaGreat
namespace Vt
/-- bytes as a string -/
def str (l : List Nat) : ByteArray := (l.map fun x => ((x : Nat) : Int)).foldl (fun r n => r.push (UInt8.ofNat n.toNat)) ByteArray.empty
theorem str_data (l : List Nat) : (str l).data = (l.map UInt8.ofNat).toArray := by
  have key : ∀ (l : List Nat) (r : ByteArray), ((l.map fun x => ((x : Nat) : Int)).foldl (fun r n => r.push (UInt8.ofNat n.toNat)) r).data = r.data ++ (l.map UInt8.ofNat).toArray := by
    intro l
    induction l with
    | nil => intro r; simp
    | cons x q ih =>
      intro r
      simp only [List.map_cons, List.foldl_cons, Int.toNat_natCast]
      rw [ih]
      simp [ByteArray.push]
  have := key l ByteArray.empty
  unfold str
  rw [this]; simp
/-- a string's bytes -/
def bl (s : ByteArray) : List Nat := s.data.toList.map UInt8.toNat
theorem bl_len (s : ByteArray) : (bl s).length = s.size := by unfold bl; rw [List.length_map, Array.length_toList]; rfl
theorem bl_byt (s : ByteArray) : Byt (bl s) := by
  intro x hx
  unfold bl at hx
  obtain ⟨y, _, rfl⟩ := List.mem_map.1 hx
  exact y.toNat_lt
theorem bl_str {l : List Nat} (h : Byt l) : bl (str l) = l := by
  unfold bl
  rw [str_data, List.map_map]
  induction l with
  | nil => rfl
  | cons x q ih =>
    have hx := h x List.mem_cons_self
    rw [List.map_cons, ih fun z hz => h z (List.mem_cons_of_mem _ hz)]
    congr 1
    simp only [Function.comp, UInt8.toNat_ofNat']
    omega
theorem str_bl (s : ByteArray) : str (bl s) = s := by
  refine ByteArray.ext ?_
  rw [str_data]
  unfold bl
  rw [List.map_map, show (UInt8.ofNat ∘ UInt8.toNat) = id by funext y; simp]
  simp
theorem bl_inj {s t : ByteArray} (h : bl s = bl t) : s = t := by rw [← str_bl s, h, str_bl]
theorem str_size {l : List Nat} (h : Byt l) : (str l).size = l.length := by rw [← bl_len, bl_str h]
theorem str_inj {la lb : List Nat} (ha : Byt la) (hb : Byt lb) : str la = str lb ↔ la = lb := by
  constructor
  · intro h
    have h2 := congrArg ByteArray.data h
    rw [str_data, str_data] at h2
    have h3 : la.map UInt8.ofNat = lb.map UInt8.ofNat := by simpa using h2
    clear h h2
    induction la generalizing lb with
    | nil => cases lb with
      | nil => rfl
      | cons y r => simp at h3
    | cons x q ih =>
      cases lb with
      | nil => simp at h3
      | cons y r =>
        simp only [List.map_cons, List.cons.injEq] at h3
        have hx := ha x List.mem_cons_self
        have hy := hb y List.mem_cons_self
        have e := congrArg UInt8.toNat h3.1
        simp only [UInt8.toNat_ofNat'] at e
        rw [ih (fun z hz => ha z (List.mem_cons_of_mem _ hz)) (fun z hz => hb z (List.mem_cons_of_mem _ hz)) h3.2]
        congr 1
        omega
  · intro h; rw [h]
end Vt
end Go.Proofs.YtnakaomgceoobaaGreat
namespace Go.Proofs.YtnakaomgceoobaaGreat
namespace Nam
open Vt
/-- a digit's byte -/
def hx (d : Nat) : Nat := if d < 10 then 48 + d else 87 + d
/-- a byte's digit (16: it is none) -/
def hv (x : Nat) : Nat := if 48 ≤ x ∧ x < 58 then x - 48 else if 97 ≤ x ∧ x < 103 then x - 87 else 16
theorem hv_hx {d : Nat} (h : d < 16) : hv (hx d) = d := by unfold hv hx; split <;> split <;> (try split) <;> omega
theorem hx_hv {x : Nat} (h : hv x < 16) : hx (hv x) = x := by
  unfold hv at *
  by_cases h1 : 48 ≤ x ∧ x < 58
  · rw [if_pos h1]; unfold hx; rw [if_pos (by omega)]; omega
  · rw [if_neg h1] at h ⊢
    by_cases h2 : 97 ≤ x ∧ x < 103
    · rw [if_pos h2]; unfold hx; rw [if_neg (by omega)]; omega
    · rw [if_neg h2] at h; omega
theorem hx_lt {d : Nat} (h : d < 16) : hx d < 256 := by unfold hx; split <;> omega
/-- j digits of a number -/
def hex : Nat → Nat → List Nat
  | 0, _ => []
  | j + 1, n => hx (n / 16 ^ j % 16) :: hex j n
theorem hex_len (j n : Nat) : (hex j n).length = j := by induction j with
  | zero => rfl
  | succ j ih => simp [hex, ih]
theorem hex_byt (j n : Nat) : Byt (hex j n) := by
  induction j with
  | zero => exact byt_nil
  | succ j ih =>
    intro x hx
    rcases List.mem_cons.1 hx with rfl | hx
    · exact hx_lt (by omega)
    · exact ih x hx
theorem hex_good (j n : Nat) : ∀ x ∈ hex j n, hv x < 16 := by
  induction j with
  | zero => intro x hx; simp [hex] at hx
  | succ j ih =>
    intro x hx
    rcases List.mem_cons.1 hx with rfl | hx
    · rw [hv_hx (by omega)]; omega
    · exact ih x hx
/-- the number that digits write -/
def val : List Nat → Nat
  | [] => 0
  | x :: r => hv x * 16 ^ r.length + val r
theorem val_snoc (l : List Nat) (x : Nat) : val (l ++ [x]) = val l * 16 + hv x := by
  induction l with
  | nil => simp [val]
  | cons y r ih =>
    simp only [List.cons_append, val, ih, List.length_append, List.length_singleton, Nat.pow_succ, Nat.add_mul, Nat.mul_assoc]
    omega
theorem pow16 (j : Nat) : 0 < 16 ^ j := Nat.pow_pos (by omega)
theorem val_lt {l : List Nat} (h : ∀ x ∈ l, hv x < 16) : val l < 16 ^ l.length := by
  induction l with
  | nil => simp [val]
  | cons y r ih =>
    have h1 := ih fun x hx => h x (List.mem_cons_of_mem _ hx)
    have h2 := h y List.mem_cons_self
    have h3 : hv y * 16 ^ r.length ≤ 15 * 16 ^ r.length := Nat.mul_le_mul_right _ (by omega)
    simp only [val, List.length_cons, Nat.pow_succ]
    omega
theorem hex_add (j a m : Nat) : hex j (a * 16 ^ j + m) = hex j m := by
  induction j generalizing a with
  | zero => rfl
  | succ j ih =>
    have e : a * 16 ^ (j + 1) + m = a * 16 * 16 ^ j + m := by rw [Nat.pow_succ, Nat.mul_comm (16 ^ j), ← Nat.mul_assoc]
    rw [e]
    simp only [hex]
    rw [ih]
    congr 2
    rw [Nat.add_comm, Nat.add_mul_div_right _ _ (pow16 j)]
    omega
theorem hex_val {l : List Nat} (h : ∀ x ∈ l, hv x < 16) : hex l.length (val l) = l := by
  induction l with
  | nil => rfl
  | cons y r ih =>
    have h0 : ∀ x ∈ r, hv x < 16 := fun x hx => h x (List.mem_cons_of_mem _ hx)
    have h1 := val_lt h0
    have h2 := h y List.mem_cons_self
    simp only [List.length_cons, hex, val]
    rw [hex_add, ih h0, Nat.add_comm (hv y * _), Nat.add_mul_div_right _ _ (pow16 _), Nat.div_eq_of_lt h1, Nat.zero_add, Nat.mod_eq_of_lt h2, hx_hv h2]
theorem val_hex (j n : Nat) : val (hex j n) = n % 16 ^ j := by
  induction j with
  | zero => simp [hex, val, Nat.mod_one]
  | succ j ih =>
    simp only [hex, val, hex_len]
    rw [hv_hx (by omega), ih, Nat.pow_succ]
    have := Nat.mod_mul (x := n) (a := 16 ^ j) (b := 16)
    rw [this, Nat.mul_comm (16 ^ j)]
    omega
theorem val_hex8 {n : Nat} (h : n < 4294967296) : val (hex 8 n) = n := by
  rw [val_hex, Nat.mod_eq_of_lt (by omega)]
theorem hex8_inj {n m : Nat} (hn : n < 4294967296) (hm : m < 4294967296) (h : hex 8 n = hex 8 m) : n = m := by
  rw [← val_hex8 hn, h, val_hex8 hm]
/-- the digits written one by one from the end -/
theorem hex_step (c j n : Nat) (h : j < c) : (List.replicate (c - j) 0 ++ hex j n).set (c - 1 - j) (hx (n / 16 ^ j % 16)) = List.replicate (c - (j + 1)) 0 ++ hex (j + 1) n := by
  obtain ⟨r, hr⟩ : ∃ r, c = r + j + 1 := ⟨c - j - 1, by omega⟩
  subst hr
  rw [show r + j + 1 - j = r + 1 by omega, show r + j + 1 - 1 - j = r by omega, show r + j + 1 - (j + 1) = r by omega]
  rw [List.replicate_succ', List.append_assoc, List.set_append_right _ _ (by simp)]
  simp [hex]

def tmpL : List Nat := [46, 116, 109, 112]
def segL : List Nat := [115, 101, 103, 45]
def badL : List Nat := [98, 97, 100, 45]
def logL : List Nat := [46, 108, 111, 103]
def hintL : List Nat := [46, 104, 105, 110, 116]
def binL : List Nat := [46, 98, 105, 110]
/-- what stands ahead of a class's numbers, and behind them -/
def ahd (c : Nat) : List Nat := if c = 3 then badL else segL
def atl (c : Nat) : List Nat := if c = 1 then logL else if c = 2 then hintL else binL
/-- a class with numbers -/
def Cl (c : Nat) : Prop := c = 1 ∨ c = 2 ∨ c = 3
/-- a number that names may have -/
def Nu (n : Nat) : Prop := 0 < n ∧ n < 4294967296
def mk (c n : Nat) : List Nat := ahd c ++ (hex 8 n ++ atl c)
theorem ahd_len (c : Nat) : (ahd c).length = 4 := by unfold ahd; split <;> rfl
theorem mk_len {c : Nat} (n : Nat) : (mk c n).length = 12 + (atl c).length := by
  unfold mk; rw [List.length_append, List.length_append, ahd_len, hex_len]; omega
theorem ahd_byt (c : Nat) : Byt (ahd c) := by unfold ahd; split <;> (intro x hx; simp [badL, segL] at hx; omega)
theorem atl_byt (c : Nat) : Byt (atl c) := by
  unfold atl; split
  · intro x hx; simp [logL] at hx; omega
  · split
    · intro x hx; simp [hintL] at hx; omega
    · intro x hx; simp [binL] at hx; omega
theorem tmp_byt : Byt tmpL := by intro x hx; simp [tmpL] at hx; omega
theorem mk_byt (c n : Nat) : Byt (mk c n) := byt_app (ahd_byt c) (byt_app (hex_byt 8 n) (atl_byt c))
theorem mk_inj {c d n m : Nat} (hc : Cl c) (hd : Cl d) (hn : Nu n) (hm : Nu m) (h : mk c n = mk d m) : c = d ∧ n = m := by
  have h1 : ahd c = ahd d := by
    have := congrArg (List.take 4) h
    unfold mk at this
    rwa [List.take_left' (ahd_len c), List.take_left' (ahd_len d)] at this
  have h2 : hex 8 n ++ atl c = hex 8 m ++ atl d := by
    unfold mk at h; rw [h1] at h; exact List.append_cancel_left h
  have h3 : hex 8 n = hex 8 m := by
    have := congrArg (List.take 8) h2
    rwa [List.take_left' (hex_len 8 n), List.take_left' (hex_len 8 m)] at this
  rw [h3] at h2
  have h4 := List.append_cancel_left h2
  refine ⟨?_, hex8_inj hn.2 hm.2 h3⟩
  rcases hc with rfl | rfl | rfl <;> rcases hd with rfl | rfl | rfl <;> simp [ahd, atl, segL, badL, logL, hintL, binL] at h1 h4 ⊢
theorem mk_tmp {c n : Nat} (hc : Cl c) (t : List Nat) : mk c n ≠ t ++ tmpL := by
  intro h
  have h2 := congrArg List.getLast? h
  unfold mk at h2
  rw [← List.append_assoc] at h2
  rcases hc with rfl | rfl | rfl <;> simp [atl, logL, hintL, binL, tmpL, List.getLast?_append] at h2
/-- the number of a name of a class (0: it is none of this class) -/
def numIn (c : Nat) (s : List Nat) : Nat :=
  if s = ahd c ++ ((s.drop 4).take 8 ++ atl c) ∧ ((s.drop 4).take 8).length = 8 ∧ ∀ x ∈ (s.drop 4).take 8, hv x < 16 then val ((s.drop 4).take 8) else 0
theorem mid_mk (c : Nat) (t : List Nat) (h : t.length = 8) : ((ahd c ++ (t ++ atl c)).drop 4).take 8 = t := by
  rw [List.drop_left' (ahd_len c), List.take_left' h]
theorem numIn_mk {c n : Nat} (hn : Nu n) : numIn c (mk c n) = n := by
  unfold numIn
  have e : ((mk c n).drop 4).take 8 = hex 8 n := by unfold mk; exact mid_mk c _ (hex_len 8 n)
  rw [e, if_pos ⟨rfl, hex_len 8 n, hex_good 8 n⟩, val_hex8 hn.2]
theorem numIn_of {c : Nat} {s : List Nat} (h : 0 < numIn c s) : s = mk c (numIn c s) ∧ Nu (numIn c s) := by
  unfold numIn at *
  by_cases h1 : s = ahd c ++ ((s.drop 4).take 8 ++ atl c) ∧ ((s.drop 4).take 8).length = 8 ∧ ∀ x ∈ (s.drop 4).take 8, hv x < 16
  · rw [if_pos h1] at h ⊢
    obtain ⟨a, b, g⟩ := h1
    have hlt := val_lt g
    have hv := hex_val g
    rw [b] at hlt hv
    refine ⟨?_, h, by omega⟩
    unfold mk
    rw [hv]; exact a
  · rw [if_neg h1] at h; omega
theorem numIn_lt (c : Nat) (s : List Nat) : numIn c s < 4294967296 := by
  rcases Nat.eq_zero_or_pos (numIn c s) with h | h
  · omega
  · exact (numIn_of h).2.2
theorem numIn_other {c d n : Nat} (hc : Cl c) (hd : Cl d) (hn : Nu n) (h : c ≠ d) : numIn c (mk d n) = 0 := by
  rcases Nat.eq_zero_or_pos (numIn c (mk d n)) with h1 | h1
  · exact h1
  · obtain ⟨h2, h3⟩ := numIn_of h1
    exact absurd (mk_inj hd hc hn h3 h2).1.symm h
/-- what Parse tells -/
def prs (s : List Nat) : Nat × Nat :=
  if tmpL <:+ s then (4, 0)
  else if 0 < numIn 1 s then (1, numIn 1 s)
  else if 0 < numIn 2 s then (2, numIn 2 s)
  else if 0 < numIn 3 s then (3, numIn 3 s)
  else (0, 0)
theorem prs_mk {c n : Nat} (hc : Cl c) (hn : Nu n) : prs (mk c n) = (c, n) := by
  have ht : ¬ tmpL <:+ mk c n := by rintro ⟨t, h⟩; exact mk_tmp hc t h.symm
  have h0 := hn.1
  unfold prs
  rw [if_neg ht]
  rcases hc with rfl | rfl | rfl
  · rw [numIn_mk hn, if_pos h0]
  · rw [numIn_other (.inl rfl) (.inr (.inl rfl)) hn (by omega), if_neg (by omega), numIn_mk hn, if_pos h0]
  · rw [numIn_other (.inl rfl) (.inr (.inr rfl)) hn (by omega), if_neg (by omega), numIn_other (.inr (.inl rfl)) (.inr (.inr rfl)) hn (by omega), if_neg (by omega), numIn_mk hn, if_pos h0]
theorem prs_tmp (s : List Nat) : prs (s ++ tmpL) = (4, 0) := by unfold prs; rw [if_pos ⟨s, rfl⟩]
theorem prs_cases (s : List Nat) : (prs s = (4, 0) ∧ tmpL <:+ s) ∨ (prs s = (0, 0) ∧ ¬ tmpL <:+ s) ∨ ∃ c n, Cl c ∧ Nu n ∧ prs s = (c, n) ∧ s = mk c n ∧ ¬ tmpL <:+ s := by
  unfold prs
  by_cases h : tmpL <:+ s
  · exact .inl ⟨if_pos h, h⟩
  · rw [if_neg h]
    refine .inr ?_
    by_cases h1 : 0 < numIn 1 s
    · exact .inr ⟨1, _, .inl rfl, (numIn_of h1).2, if_pos h1, (numIn_of h1).1, h⟩
    · rw [if_neg h1]
      by_cases h2 : 0 < numIn 2 s
      · exact .inr ⟨2, _, .inr (.inl rfl), (numIn_of h2).2, if_pos h2, (numIn_of h2).1, h⟩
      · rw [if_neg h2]
        by_cases h3 : 0 < numIn 3 s
        · exact .inr ⟨3, _, .inr (.inr rfl), (numIn_of h3).2, if_pos h3, (numIn_of h3).1, h⟩
        · exact .inl ⟨if_neg h3, h⟩
theorem prs_le (s : List Nat) : (prs s).1 ≤ 4 := by
  rcases prs_cases s with ⟨h, _⟩ | ⟨h, _⟩ | ⟨c, n, hc, _, h, _⟩ <;> rw [h] <;> simp
  rcases hc with rfl | rfl | rfl <;> omega
theorem prs_lt (s : List Nat) : (prs s).2 < 4294967296 := by
  rcases prs_cases s with ⟨h, _⟩ | ⟨h, _⟩ | ⟨c, n, _, hn, h, _⟩ <;> rw [h] <;> simp
  exact hn.2
end Nam
end Go.Proofs.YtnakaomgceoobaaGreat
namespace Go.Proofs.YtnakaomgceoobaaGreat
namespace Nam
open Go.Shelf
def lays137_ren : Go.Shelf.Ren := ⟨fun | 137 => 124 | 217 => 132 | 266 => 134 | n => n, fun | 9 => 9 | 5 => 5 | 3 => 3 | n => n, fun | n => n⟩
theorem lays137 : Go.Proofs.Lays.n137 Tryz.prog lays137_ren := {
  mixed := by kernel_rfl
  f137 := Tryz.func124.trans (congrArg some (by kernel_rfl))
  f217 := Tryz.func132.trans (congrArg some (by kernel_rfl))
  f266 := Tryz.func134.trans (congrArg some (by kernel_rfl))
  t3 := Tryz.underlying3
  a3 := Tryz.isAgg3
  z3 := Tryz.sizeOf3
  v3 := Tryz.zeroValue3
  t5 := Tryz.underlying5
  a5 := Tryz.isAgg5
  z5 := Tryz.sizeOf5
  v5 := Tryz.zeroValue5
  t9 := Tryz.underlying9
  a9 := Tryz.isAgg9
  z9 := Tryz.sizeOf9
  v9 := Tryz.zeroValue9 }
open Go.RowKit in
theorem strings_IndexByte (s : ByteArray) (c : Int) (w : World) :
    Calls Tryz.prog 124 #[.string s, .int .u8 c] w fun e w' => e = .returned (.int .i64 (Lib.indexByte s.data.toList c.toNat.toUInt8)) ∧ w' = w := Any.strings_IndexByte lays137 s c w
def lays210_ren : Go.Shelf.Ren := ⟨fun | 210 => 122 | 206 => 131 | n => n, fun | 9 => 9 | 4 => 4 | 3 => 3 | n => n, fun | n => n⟩
theorem lays210 : Go.Proofs.Lays.n210 Tryz.prog lays210_ren := {
  mixed := by kernel_rfl
  f206 := Tryz.func131.trans (congrArg some (by kernel_rfl))
  f210 := Tryz.func122.trans (congrArg some (by kernel_rfl))
  t3 := Tryz.underlying3
  a3 := Tryz.isAgg3
  z3 := Tryz.sizeOf3
  v3 := Tryz.zeroValue3
  t4 := Tryz.underlying4
  a4 := Tryz.isAgg4
  z4 := Tryz.sizeOf4
  v4 := Tryz.zeroValue4
  t9 := Tryz.underlying9
  a9 := Tryz.isAgg9
  z9 := Tryz.sizeOf9
  v9 := Tryz.zeroValue9 }
open Go.RowKit in
theorem stringslite_CutPrefix (s p : ByteArray) (w : World) :
    Calls Tryz.prog 122 #[.string s, .string p] w fun e w' => e = .returned (.tuple #[.string ⟨(Lib.trimPrefix s.data.toList p.data.toList).toArray⟩, .bool (Lib.hasPrefix s.data.toList p.data.toList)]) ∧ w' = w := Any.stringslite_CutPrefix lays210 s p w
def lays103_ren : Go.Shelf.Ren := ⟨fun | 103 => 109 | 210 => 122 | 206 => 131 | n => n, fun | 9 => 9 | 4 => 4 | 24 => 175 | 3 => 3 | n => n, fun | n => n⟩
theorem lays103 : Go.Proofs.Lays.n103 Tryz.prog lays103_ren := {
  mixed := by kernel_rfl
  f103 := Tryz.func109.trans (congrArg some (by kernel_rfl))
  f206 := Tryz.func131.trans (congrArg some (by kernel_rfl))
  f210 := Tryz.func122.trans (congrArg some (by kernel_rfl))
  t3 := Tryz.underlying3
  a3 := Tryz.isAgg3
  z3 := Tryz.sizeOf3
  v3 := Tryz.zeroValue3
  t4 := Tryz.underlying4
  a4 := Tryz.isAgg4
  z4 := Tryz.sizeOf4
  v4 := Tryz.zeroValue4
  t9 := Tryz.underlying9
  a9 := Tryz.isAgg9
  z9 := Tryz.sizeOf9
  v9 := Tryz.zeroValue9
  t24 := Tryz.underlying175
  a24 := Tryz.isAgg175
  z24 := Tryz.sizeOf175
  v24 := Tryz.zeroValue175 }
open Go.RowKit in
theorem strings_CutPrefix (s p : ByteArray) (w : World) :
    Calls Tryz.prog 109 #[.string s, .string p] w fun e w' => e = .returned (.tuple #[.string ⟨(Lib.trimPrefix s.data.toList p.data.toList).toArray⟩, .bool (Lib.hasPrefix s.data.toList p.data.toList)]) ∧ w' = w := Any.strings_CutPrefix lays103 s p w
def lays211_ren : Go.Shelf.Ren := ⟨fun | 211 => 123 | 207 => 108 | n => n, fun | 9 => 9 | 4 => 4 | 3 => 3 | n => n, fun | n => n⟩
theorem lays211 : Go.Proofs.Lays.n211 Tryz.prog lays211_ren := {
  mixed := by kernel_rfl
  f207 := Tryz.func108.trans (congrArg some (by kernel_rfl))
  f211 := Tryz.func123.trans (congrArg some (by kernel_rfl))
  t3 := Tryz.underlying3
  a3 := Tryz.isAgg3
  z3 := Tryz.sizeOf3
  v3 := Tryz.zeroValue3
  t4 := Tryz.underlying4
  a4 := Tryz.isAgg4
  z4 := Tryz.sizeOf4
  v4 := Tryz.zeroValue4
  t9 := Tryz.underlying9
  a9 := Tryz.isAgg9
  z9 := Tryz.sizeOf9
  v9 := Tryz.zeroValue9 }
open Go.RowKit in
theorem stringslite_CutSuffix (s p : ByteArray) (w : World) (hs : s.size ≤ 9223372036854775807) :
    Calls Tryz.prog 123 #[.string s, .string p] w fun e w' => e = .returned (.tuple #[.string ⟨(Lib.trimSuffix s.data.toList p.data.toList).toArray⟩, .bool (Lib.hasSuffix s.data.toList p.data.toList)]) ∧ w' = w := Any.stringslite_CutSuffix lays211 s p w hs
def lays104_ren : Go.Shelf.Ren := ⟨fun | 104 => 110 | 211 => 123 | 207 => 108 | n => n, fun | 9 => 9 | 4 => 4 | 24 => 175 | 3 => 3 | n => n, fun | n => n⟩
theorem lays104 : Go.Proofs.Lays.n104 Tryz.prog lays104_ren := {
  mixed := by kernel_rfl
  f104 := Tryz.func110.trans (congrArg some (by kernel_rfl))
  f207 := Tryz.func108.trans (congrArg some (by kernel_rfl))
  f211 := Tryz.func123.trans (congrArg some (by kernel_rfl))
  t3 := Tryz.underlying3
  a3 := Tryz.isAgg3
  z3 := Tryz.sizeOf3
  v3 := Tryz.zeroValue3
  t4 := Tryz.underlying4
  a4 := Tryz.isAgg4
  z4 := Tryz.sizeOf4
  v4 := Tryz.zeroValue4
  t9 := Tryz.underlying9
  a9 := Tryz.isAgg9
  z9 := Tryz.sizeOf9
  v9 := Tryz.zeroValue9
  t24 := Tryz.underlying175
  a24 := Tryz.isAgg175
  z24 := Tryz.sizeOf175
  v24 := Tryz.zeroValue175 }
open Go.RowKit in
theorem strings_CutSuffix (s p : ByteArray) (w : World) (hs : s.size ≤ 9223372036854775807) :
    Calls Tryz.prog 110 #[.string s, .string p] w fun e w' => e = .returned (.tuple #[.string ⟨(Lib.trimSuffix s.data.toList p.data.toList).toArray⟩, .bool (Lib.hasSuffix s.data.toList p.data.toList)]) ∧ w' = w := Any.strings_CutSuffix lays104 s p w hs
def lays217_ren : Go.Shelf.Ren := ⟨fun | 217 => 132 | 266 => 134 | n => n, fun | 9 => 9 | 5 => 5 | 3 => 3 | n => n, fun | n => n⟩
theorem lays217 : Go.Proofs.Lays.n217 Tryz.prog lays217_ren := {
  mixed := by kernel_rfl
  f217 := Tryz.func132.trans (congrArg some (by kernel_rfl))
  f266 := Tryz.func134.trans (congrArg some (by kernel_rfl))
  t3 := Tryz.underlying3
  a3 := Tryz.isAgg3
  z3 := Tryz.sizeOf3
  v3 := Tryz.zeroValue3
  t5 := Tryz.underlying5
  a5 := Tryz.isAgg5
  z5 := Tryz.sizeOf5
  v5 := Tryz.zeroValue5
  t9 := Tryz.underlying9
  a9 := Tryz.isAgg9
  z9 := Tryz.sizeOf9
  v9 := Tryz.zeroValue9 }
open Go.RowKit Go.Lib in
theorem stringslite_IndexByte (s : ByteArray) (c : Int) (w : World) :
    Calls Tryz.prog 132 #[.string s, .int .u8 c] w fun e w' => e = .returned (.int .i64 (Lib.indexByte s.data.toList c.toNat.toUInt8)) ∧ w' = w := Any.stringslite_IndexByte lays217 s c w
def lays206_ren : Go.Shelf.Ren := ⟨fun | 206 => 131 | n => n, fun | 9 => 9 | 4 => 4 | 3 => 3 | n => n, fun | n => n⟩
theorem lays206 : Go.Proofs.Lays.n206 Tryz.prog lays206_ren := {
  mixed := by kernel_rfl
  f206 := Tryz.func131.trans (congrArg some (by kernel_rfl))
  t3 := Tryz.underlying3
  a3 := Tryz.isAgg3
  z3 := Tryz.sizeOf3
  v3 := Tryz.zeroValue3
  t4 := Tryz.underlying4
  a4 := Tryz.isAgg4
  z4 := Tryz.sizeOf4
  v4 := Tryz.zeroValue4
  t9 := Tryz.underlying9
  a9 := Tryz.isAgg9
  z9 := Tryz.sizeOf9
  v9 := Tryz.zeroValue9 }
open Go.RowKit Go.Lib in
theorem stringslite_HasPrefix (s p : ByteArray) (w : World) :
    Calls Tryz.prog 131 #[.string s, .string p] w fun e w' => e = .returned (.bool (Lib.hasPrefix s.data.toList p.data.toList)) ∧ w' = w := Any.stringslite_HasPrefix lays206 s p w
def lays207_ren : Go.Shelf.Ren := ⟨fun | 207 => 108 | n => n, fun | 9 => 9 | 4 => 4 | 3 => 3 | n => n, fun | n => n⟩
theorem lays207 : Go.Proofs.Lays.n207 Tryz.prog lays207_ren := {
  mixed := by kernel_rfl
  f207 := Tryz.func108.trans (congrArg some (by kernel_rfl))
  t3 := Tryz.underlying3
  a3 := Tryz.isAgg3
  z3 := Tryz.sizeOf3
  v3 := Tryz.zeroValue3
  t4 := Tryz.underlying4
  a4 := Tryz.isAgg4
  z4 := Tryz.sizeOf4
  v4 := Tryz.zeroValue4
  t9 := Tryz.underlying9
  a9 := Tryz.isAgg9
  z9 := Tryz.sizeOf9
  v9 := Tryz.zeroValue9 }
open Go.RowKit Go.Lib in
theorem stringslite_HasSuffix (s p : ByteArray) (w : World) (hs : s.size ≤ 9223372036854775807) :
    Calls Tryz.prog 108 #[.string s, .string p] w fun e w' => e = .returned (.bool (Lib.hasSuffix s.data.toList p.data.toList)) ∧ w' = w := Any.stringslite_HasSuffix lays207 s p w hs
def lays100_ren : Go.Shelf.Ren := ⟨fun | 100 => 101 | 207 => 108 | n => n, fun | 9 => 9 | 4 => 4 | 3 => 3 | n => n, fun | n => n⟩
theorem lays100 : Go.Proofs.Lays.n100 Tryz.prog lays100_ren := {
  mixed := by kernel_rfl
  f100 := Tryz.func101.trans (congrArg some (by kernel_rfl))
  f207 := Tryz.func108.trans (congrArg some (by kernel_rfl))
  t3 := Tryz.underlying3
  a3 := Tryz.isAgg3
  z3 := Tryz.sizeOf3
  v3 := Tryz.zeroValue3
  t4 := Tryz.underlying4
  a4 := Tryz.isAgg4
  z4 := Tryz.sizeOf4
  v4 := Tryz.zeroValue4
  t9 := Tryz.underlying9
  a9 := Tryz.isAgg9
  z9 := Tryz.sizeOf9
  v9 := Tryz.zeroValue9 }
open Go.RowKit Go.Lib in
theorem strings_HasSuffix (s p : ByteArray) (w : World) (hs : s.size ≤ 9223372036854775807) :
    Calls Tryz.prog 101 #[.string s, .string p] w fun e w' => e = .returned (.bool (Lib.hasSuffix s.data.toList p.data.toList)) ∧ w' = w := Any.strings_HasSuffix lays100 s p w hs
def lays209_ren : Go.Shelf.Ren := ⟨fun | 209 => 103 | 207 => 108 | n => n, fun | 9 => 9 | 4 => 4 | 3 => 3 | n => n, fun | n => n⟩
theorem lays209 : Go.Proofs.Lays.n209 Tryz.prog lays209_ren := {
  mixed := by kernel_rfl
  f207 := Tryz.func108.trans (congrArg some (by kernel_rfl))
  f209 := Tryz.func103.trans (congrArg some (by kernel_rfl))
  t3 := Tryz.underlying3
  a3 := Tryz.isAgg3
  z3 := Tryz.sizeOf3
  v3 := Tryz.zeroValue3
  t4 := Tryz.underlying4
  a4 := Tryz.isAgg4
  z4 := Tryz.sizeOf4
  v4 := Tryz.zeroValue4
  t9 := Tryz.underlying9
  a9 := Tryz.isAgg9
  z9 := Tryz.sizeOf9
  v9 := Tryz.zeroValue9 }
open Go.RowKit Go.Lib in
theorem stringslite_TrimSuffix (s p : ByteArray) (w : World) (hs : s.size ≤ 9223372036854775807) :
    Calls Tryz.prog 103 #[.string s, .string p] w fun e w' => e = .returned (.string ⟨(Lib.trimSuffix s.data.toList p.data.toList).toArray⟩) ∧ w' = w := Any.stringslite_TrimSuffix lays209 s p w hs
def lays102_ren : Go.Shelf.Ren := ⟨fun | 102 => 95 | 209 => 103 | 207 => 108 | n => n, fun | 9 => 9 | 4 => 4 | 3 => 3 | n => n, fun | n => n⟩
theorem lays102 : Go.Proofs.Lays.n102 Tryz.prog lays102_ren := {
  mixed := by kernel_rfl
  f102 := Tryz.func95.trans (congrArg some (by kernel_rfl))
  f207 := Tryz.func108.trans (congrArg some (by kernel_rfl))
  f209 := Tryz.func103.trans (congrArg some (by kernel_rfl))
  t3 := Tryz.underlying3
  a3 := Tryz.isAgg3
  z3 := Tryz.sizeOf3
  v3 := Tryz.zeroValue3
  t4 := Tryz.underlying4
  a4 := Tryz.isAgg4
  z4 := Tryz.sizeOf4
  v4 := Tryz.zeroValue4
  t9 := Tryz.underlying9
  a9 := Tryz.isAgg9
  z9 := Tryz.sizeOf9
  v9 := Tryz.zeroValue9 }
open Go.RowKit Go.Lib in
theorem strings_TrimSuffix (s p : ByteArray) (w : World) (hs : s.size ≤ 9223372036854775807) :
    Calls Tryz.prog 95 #[.string s, .string p] w fun e w' => e = .returned (.string ⟨(Lib.trimSuffix s.data.toList p.data.toList).toArray⟩) ∧ w' = w := Any.strings_TrimSuffix lays102 s p w hs
end Nam
end Go.Proofs.YtnakaomgceoobaaGreat
