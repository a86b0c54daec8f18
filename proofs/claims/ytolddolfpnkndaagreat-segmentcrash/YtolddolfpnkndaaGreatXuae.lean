/-
  A FILE IS WRITTEN: what stays of the disk; the walks of Append's and Sync's closures.
  THE WALKS OF Sync, Size, Used.
-/
import Derived.Test.YtolddolfpnkndaaGreatXuad
namespace Go.Proofs.YtolddolfpnkndaaGreat
open Go.RowKit Go.Maps
namespace Dk
open Vt
def apO (ats : Array TypeId) (ty : TypeId) (args : Array Value) : Sem Value := Builtin.append_ ats ty args
theorem append_hid (ats : Array TypeId) (ty : TypeId) (args : Array Value) : Builtin.append_ ats ty args = apO ats ty args := rfl
/-- append, and where the new list lies -/
theorem run_append_jbl (ty : TypeId) (w : World) (base : Nat) (v u : Value) (l r : List Nat) (hJ : JB w base v l) (hI : IsB w u r) (hb : l.length + r.length ≤ 140737488355328) (hbase : base ≤ w.heap.size) :
    ∃ a' cap w', (Builtin.append_ #[49, 49] ty #[v, u]).run Tryz.prog w = .ok (.slice a' (l.length + r.length) cap) w' ∧ JB w' base (.slice a' (l.length + r.length) cap) (l ++ r) ∧ w.grownBy w' v.ownBlock ∧ ∀ g, (Value.slice a' (l.length + r.length) cap).ownBlock = some g → v.ownBlock = some g ∨ w.heap.size ≤ g := by
  obtain ⟨i0, hi, hz0, hz1, hz2⟩ := info_parts info_u8
  by_cases h0 : r.length = 0
  · obtain rfl : r = [] := List.length_eq_zero_iff.1 h0
    obtain ⟨a, c, rfl⟩ := hI.shape
    obtain ⟨a', c', rfl, hlc⟩ := hJ.shape
    refine ⟨a', c', w, ?_, ?_, World.grownBy.refl _ _, fun g q => .inl ?_⟩
    · cases a <;> cases a' <;> simp [Builtin.append_, run_underlying Tryz.underlying49, sizeOf, typeInfo, hi, hlc, Builtin.lenOf, Builtin.firstCells, storeCells, loadCells, loadCellsFrom]
    · simpa using hJ
    · cases a' <;> exact q
  · obtain ⟨hbl, hml, ⟨rfl, _⟩ | ⟨bb, oo, cc, rfl, hlc, hcm, hbb, hrow⟩⟩ := hI
    · simp at h0
    · have hlen : (bs r).length = r.length * 1 := by simp [bs]
      obtain ⟨g, cap, w', hr, h2, h3, h4, _⟩ := run_append_lies (P := Tryz.prog) w 49 ty base 5 i0 (.int .u8 0) 1 1 Tryz.underlying49 hi hz0 hz1 hz2 rfl (by decide) v l.length (bs l) hJ.2 ⟨bb, oo, none⟩ r.length cc (bs r) hlen (news_of_row hrow) (bs_one r) (by omega) (by unfold maxLen; omega) (by omega) hbase w.heap.size rfl
      refine ⟨_, cap, w', hr, ⟨byt_app hJ.1 hbl, ?_⟩, h3, fun g' q => ?_⟩
      · rw [bs_app] at h2
        rw [List.length_append]; exact h2
      · have : g = g' := by simpa [Value.ownBlock] using q
        subst this
        rcases h4 with h4 | h4
        · exact .inl h4
        · exact .inr (Nat.le_of_eq h4.symm)
theorem pw_any {α : Type} {R : α → α → Prop} (sym : ∀ {a b : α}, R a b → R b a) {l : List α} (h : l.Pairwise R) {x y : α} (hx : x ∈ l) (hy : y ∈ l) (hne : x ≠ y) : R x y := by
  induction l with
  | nil => cases hx
  | cons a r ih =>
    rw [List.pairwise_cons] at h
    rcases List.mem_cons.1 hx with rfl | hx
    · rcases List.mem_cons.1 hy with rfl | hy
      · exact absurd rfl hne
      · exact h.1 y hy
    · rcases List.mem_cons.1 hy with e | hy
      · rw [e]; exact sym (h.1 x (by assumption))
      · exact ih h.2 (by assumption) hy
def updE (es : List En) (s : ByteArray) (e' : En) : List En := es.map fun x => if x.nm = s then e' else x
theorem DKm.names {w : World} {d m : Nat} {es : List En} {O : Nat → Prop} {S : Ds} (h : DKm w d m es O S) : es.Pairwise fun a b => a.nm ≠ b.nm := by
  have := h.good.names
  rw [h.fs, List.pairwise_map] at this
  exact this
theorem one_nm {es : List En} (hn : es.Pairwise fun a b => a.nm ≠ b.nm) {s : ByteArray} {e : En} (hf : fnd es s = some e) {x : En} (hx : x ∈ es) (hs : x.nm = s) : x = e := by
  induction es with
  | nil => cases hx
  | cons a r ih =>
    rw [List.pairwise_cons] at hn
    unfold fnd at hf
    rw [List.find?_cons] at hf
    by_cases ea : a.nm = s
    · simp [ea] at hf
      subst hf
      rcases List.mem_cons.1 hx with rfl | hx
      · rfl
      · exact absurd (ea.trans hs.symm) (hn.1 x hx)
    · simp only [ea, decide_false] at hf
      rcases List.mem_cons.1 hx with rfl | hx
      · exact absurd hs ea
      · exact ih hn.2 hf hx
theorem fnd_updE {es : List En} {s t : ByteArray} {e' : En} (he : e'.nm = s) : (fnd (updE es s e') t).isSome = (fnd es t).isSome ∧ ((∀ x ∈ es, x.nm = s → x.blk = e'.blk) → (fnd (updE es s e') t).map En.blk = (fnd es t).map En.blk) := by
  induction es with
  | nil => exact ⟨rfl, fun _ => rfl⟩
  | cons a r ih =>
    unfold fnd updE at ih ⊢
    rw [List.map_cons, List.find?_cons, List.find?_cons]
    by_cases ea : a.nm = s
    · rw [if_pos ea, he, ea]
      by_cases et : s = t
      · subst et
        simp only [decide_true]
        exact ⟨by simp, fun h => by simp [h a (List.mem_cons_self ..) ea]⟩
      · simp only [et, decide_false]
        exact ⟨ih.1, fun h => ih.2 fun x hx => h x (List.mem_cons_of_mem _ hx)⟩
    · rw [if_neg ea]
      by_cases et : a.nm = t
      · subst et
        simp
      · simp only [et, decide_false]
        exact ⟨ih.1, fun h => ih.2 fun x hx => h x (List.mem_cons_of_mem _ hx)⟩
theorem MP.upd {w : World} {m : Nat} {es : List En} (h : MP w m es) {s : ByteArray} {e' : En} (he : e'.nm = s) (hb : ∀ x ∈ es, x.nm = s → x.blk = e'.blk) : MP w m (updE es s e') := by
  obtain ⟨D, h1, h2, h3, h4⟩ := h
  have hl : (updE es s e').length = es.length := by unfold updE; rw [List.length_map]
  refine ⟨D, by rw [hl]; exact h1, fun t ht => ?_, fun t ht => ?_, by rw [hl]; exact h4⟩
  · rw [h2 t ht, (fnd_updE he).2 hb]
  · rw [h3 t ht, (fnd_updE he).1]
/-- one file is another one, under its name, in its block; all else is as it was -/
theorem DKm.put {w w2 : World} {d m : Nat} {es : List En} {O : Nat → Prop} {S S' : Ds} (h : DKm w d m es O S) {s : ByteArray} {e e' : En} (hf : fnd es s = some e) (hn : e'.nm = e.nm) (hbl : e'.blk = e.blk)
    (hoth : ∀ b, O b → b ≠ e.blk → b ≠ d → e.val.ownBlock ≠ some b → w2.heap[b]? = w.heap[b]?) (hsz : w.heap.size ≤ w2.heap.size)
    (hbox : Blk w2 d TD (cells S' m)) (hfile : Blk w2 e.blk TF [e'.val, .int .i64 (e'.las : Int)]) (hJ : JB w2 0 e'.val e'.dat)
    (hnew : ∀ g, e'.val.ownBlock = some g → e.val.ownBlock = some g ∨ w.heap.size ≤ g) (hfs : S'.fs = (updE es s e').map En.fi) (hgood : Good S') :
    DKm w2 d m (updE es s e') (fun b => O b ∨ e'.val.ownBlock = some b) S' := by
  obtain ⟨hm, hs⟩ := fnd_mem hf
  have hnd : ∀ x ∈ es, x.blk ≠ d := by
    rintro x hx rfl
    have h1 : w.heap[x.blk]? = some (.cells (cells S m).toArray TD (0, 0)) := h.box
    have h2 : w.heap[x.blk]? = some (.cells [x.val, .int .i64 (x.las : Int)].toArray TF (0, 0)) := (h.file x hx).1
    rw [h1] at h2
    injection h2 with h2
    injection h2 with _ h3 _
    cases h3
  have hrow : ∀ x ∈ es, ∀ g, x.val.ownBlock = some g → ∃ cur, w.heap[g]? = some (.cells cur 5 (0, 0)) := by
    intro x hx g hg
    obtain ⟨_, _, ⟨q2, _⟩ | ⟨g', cap, cur, q2, _, q4, _⟩⟩ := (h.file x hx).2
    · rw [q2] at hg; cases hg
    · rw [q2] at hg
      have : g' = g := by simpa [Value.ownBlock] using hg
      subst this
      exact ⟨cur, q4⟩
  have hrd : ∀ x ∈ es, ∀ g, x.val.ownBlock = some g → g ≠ d := by
    rintro x hx g hg rfl
    obtain ⟨cur, hq⟩ := hrow x hx g hg
    have h1 : w.heap[g]? = some (.cells (cells S m).toArray TD (0, 0)) := h.box
    rw [h1] at hq
    injection hq with hq
    injection hq with _ hq _
    cases hq
  have hrf : ∀ x ∈ es, ∀ y ∈ es, ∀ g, x.val.ownBlock = some g → g ≠ y.blk := by
    rintro x hx y hy g hg rfl
    obtain ⟨cur, hq⟩ := hrow x hx _ hg
    have h1 : w.heap[y.blk]? = some (.cells [y.val, .int .i64 (y.las : Int)].toArray TF (0, 0)) := (h.file y hy).1
    rw [h1] at hq
    injection hq with hq
    injection hq with _ hq _
    cases hq
  -- two unlike files are apart
  have hap : ∀ x ∈ es, x.nm ≠ s → x.blk ≠ e.blk ∧ ∀ g, x.val.ownBlock = some g → e.val.ownBlock ≠ some g := by
    intro x hx hxs
    have hxe : x ≠ e := fun q => hxs (by rw [q]; exact hs)
    have sym : ∀ {a b : En}, (a.blk ≠ b.blk ∧ ∀ g, a.val.ownBlock = some g → b.val.ownBlock ≠ some g) → (b.blk ≠ a.blk ∧ ∀ g, b.val.ownBlock = some g → a.val.ownBlock ≠ some g) := fun q => ⟨fun z => q.1 z.symm, fun g h1 h2 => q.2 g h2 h1⟩
    exact pw_any sym h.apart hx hm hxe
  have hmn : ∀ x ∈ es, x.blk ≠ m := fun x hx q => h.map.notBlk (h.file x hx).1 q
  have hrm : ∀ x ∈ es, ∀ g, x.val.ownBlock = some g → g ≠ m := by
    rintro x hx g hg rfl
    obtain ⟨cur, hq⟩ := hrow x hx g hg
    obtain ⟨D, ⟨y, c, q6, _⟩, _⟩ := h.map
    rw [hq] at q6
    cases q6
  have hmd : m ≠ d := fun q => h.map.notBlk h.box q.symm
  refine ⟨hfs, hbox, (h.map.same (hoth m h.own.2.1 (fun q => hmn e hm q.symm) hmd (fun q => hrm e hm m q rfl))).upd (hn.trans hs) (fun x hx q => by rw [one_nm h.names hf hx q, hbl]), ?_, ?_, ⟨.inl h.own.1, .inl h.own.2.1, ?_⟩, ?_, hgood⟩
  · intro x hx
    unfold updE at hx
    obtain ⟨x0, hx0, rfl⟩ := List.mem_map.1 hx
    by_cases q : x0.nm = s
    · rw [if_pos q, hbl]; exact ⟨hfile, hJ⟩
    · rw [if_neg q]
      obtain ⟨a1, a2⟩ := hap x0 hx0 q
      refine ⟨(hoth _ (h.own.2.2 x0 hx0).1 a1 (hnd x0 hx0) (fun z => hrf e hm x0 hx0 _ z rfl)).trans (h.file x0 hx0).1, ?_⟩
      obtain ⟨q0, q1, ⟨q2, q3⟩ | ⟨g, cap, cur, q2, q3, q4, q5⟩⟩ := (h.file x0 hx0).2
      · exact ⟨q0, q1, .inl ⟨q2, q3⟩⟩
      · have hgo : x0.val.ownBlock = some g := by rw [q2]; rfl
        exact ⟨q0, q1, .inr ⟨g, cap, cur, q2, q3, (hoth g ((h.own.2.2 x0 hx0).2 g hgo) (hrf x0 hx0 e hm g hgo) (hrd x0 hx0 g hgo) (a2 g hgo)).trans q4, q5⟩⟩
  · unfold updE
    rw [List.pairwise_map]
    refine List.Pairwise.imp_of_mem ?_ (h.apart.and h.names)
    rintro a b ha hb ⟨hab, habn⟩
    by_cases qa : a.nm = s
    · have qb : b.nm ≠ s := fun q => habn (qa.trans q.symm)
      rw [if_pos qa, if_neg qb, hbl]
      obtain ⟨a1, a2⟩ := hap b hb qb
      refine ⟨fun z => a1 z.symm, fun g hg z => ?_⟩
      rcases hnew g hg with z2 | z2
      · exact a2 g z z2
      · obtain ⟨cur, hq⟩ := hrow b hb g z
        have := (Array.getElem?_eq_some_iff.1 hq).1
        omega
    · rw [if_neg qa]
      by_cases qb : b.nm = s
      · rw [if_pos qb, hbl]
        obtain ⟨a1, a2⟩ := hap a ha qa
        refine ⟨a1, fun g hg z => ?_⟩
        rcases hnew g z with z2 | z2
        · exact a2 g hg z2
        · obtain ⟨cur, hq⟩ := hrow a ha g hg
          have := (Array.getElem?_eq_some_iff.1 hq).1
          omega
      · rw [if_neg qb]; exact hab
  · intro x hx
    unfold updE at hx
    obtain ⟨x0, hx0, rfl⟩ := List.mem_map.1 hx
    by_cases q : x0.nm = s
    · rw [if_pos q, hbl]; exact ⟨.inl (h.own.2.2 e hm).1, fun g z => .inr z⟩
    · rw [if_neg q]; exact ⟨.inl (h.own.2.2 x0 hx0).1, fun g z => .inl ((h.own.2.2 x0 hx0).2 g z)⟩
  · intro b q
    rcases q with q | q
    · exact Nat.lt_of_lt_of_le (h.olt b q) hsz
    · obtain ⟨_, _, ⟨q2, _⟩ | ⟨g', cap, cur, q2, _, q4, _⟩⟩ := hJ
      · rw [q2] at q; cases q
      · rw [q2] at q
        have : g' = b := by simpa [Value.ownBlock] using q
        subst this
        exact (Array.getElem?_eq_some_iff.1 q4).1
theorem updE_fi {es : List En} {s : ByteArray} {e' : En} {g : Fi → Fi} (h : ∀ x ∈ es, x.nm = s → e'.fi = g x.fi) : (updE es s e').map En.fi = upd (es.map En.fi) s g := by
  unfold updE upd
  rw [List.map_map, List.map_map]
  refine List.map_congr_left fun x hx => ?_
  simp only [Function.comp]
  by_cases q : x.nm = s
  · rw [if_pos q, if_pos (show x.fi.nm = s from q)]; exact h x hx q
  · rw [if_neg q, if_neg (show ¬ x.fi.nm = s from q)]
theorem fans_eq {w : World} {d m : Nat} {es : List En} {O : Nat → Prop} {S : Ds} (h : DKm w d m es O S) (s : ByteArray) (b : Bool) : ∃ p : Option Addr, fans es S s b = .tuple #[.pointer p, .int .i64 (look S s b : Int)] ∧ (look S s b = 0 → ∃ e, fnd es s = some e ∧ p = some ⟨e.blk, 0, none⟩ ∧ isNm s = true ∧ b = true ∧ S.down = false) := by
  unfold fans
  by_cases h0 : look S s b = 0
  · rw [if_pos h0, h0]
    unfold look at h0
    have hb : bar S (isNm s && b) = 0 := by
      by_cases q : bar S (isNm s && b) = 0
      · exact q
      · rw [if_pos q] at h0; exact h0
    rw [hb] at h0
    simp only [ne_eq, not_true_eq_false, if_false] at h0
    rw [h.fs, fnd_get, Option.isSome_map] at h0
    have hbz := bar_zero hb
    rw [Bool.and_eq_true] at hbz
    have hdn : S.down = false := by
      unfold bar at hb
      cases hd : S.down
      · rfl
      · rw [hd] at hb; simp at hb
    cases hf : fnd es s with
    | none => rw [hf] at h0; simp at h0
    | some e => exact ⟨some ⟨e.blk, 0, none⟩, rfl, fun _ => ⟨e, rfl, rfl, hbz.1, hbz.2, hdn⟩⟩
  · rw [if_neg h0]
    exact ⟨none, rfl, fun q => absurd q h0⟩
theorem blk_ne {w : World} {X Y : Nat} {T U : TypeId} {cs ds : List Value} (h1 : Blk w X T cs) (h2 : Blk w Y U ds) (hT : T ≠ U) : X ≠ Y := by
  rintro rfl
  have h1' : w.heap[X]? = some (.cells cs.toArray T (0, 0)) := h1
  have h2' : w.heap[X]? = some (.cells ds.toArray U (0, 0)) := h2
  rw [h1'] at h2'
  injection h2' with h
  injection h with _ h _
  exact hT h
theorem set_heap (w : World) (g j b : Nat) (u : Value) (h : b ≠ g) : (w.setCell ⟨g, j, none⟩ u).heap[b]? = w.heap[b]? := by
  show (w.heap.modify g _)[b]? = _
  rw [Array.getElem?_modify, if_neg (fun e => h e.symm)]
theorem set_size (w : World) (g j : Nat) (u : Value) : (w.setCell ⟨g, j, none⟩ u).heap.size = w.heap.size := by simp [World.setCell]
theorem JB.drew {w : World} {base : Nat} {v : Value} {l : List Nat} (h : JB w base v l) : JB w.drew base v l := h
theorem jb_row {w : World} {base g : Nat} {v : Value} {l : List Nat} (h : JB w base v l) (hg : v.ownBlock = some g) : ∃ cur, w.heap[g]? = some (.cells cur 5 (0, 0)) := by
  obtain ⟨_, _, ⟨q2, _⟩ | ⟨g', cap, cur, q2, _, q4, _⟩⟩ := h
  · rw [q2] at hg; cases hg
  · rw [q2] at hg
    have : g' = g := by simpa [Value.ownBlock] using hg
    subst this
    exact ⟨cur, q4⟩
theorem jb_ne {w : World} {base g X : Nat} {v : Value} {l cs : List _} {T : TypeId} (h : JB w base v l) (hg : v.ownBlock = some g) (hX : Blk w X T cs) (hT : T ≠ 5) : g ≠ X := by
  rintro rfl
  obtain ⟨cur, hq⟩ := jb_row h hg
  have hX' : w.heap[g]? = some (.cells cs.toArray T (0, 0)) := hX
  rw [hX'] at hq
  injection hq with hq
  injection hq with _ hq _
  exact hT hq
theorem JB.same {w w' : World} {base : Nat} {v : Value} {l : List Nat} (h : JB w base v l) (hb : ∀ g, v.ownBlock = some g → w'.heap[g]? = w.heap[g]?) : JB w' base v l := by
  obtain ⟨h0, h1, ⟨h2, h3⟩ | ⟨g, cap, cur, h2, h3, h4, h5⟩⟩ := h
  · exact ⟨h0, h1, .inl ⟨h2, h3⟩⟩
  · exact ⟨h0, h1, .inr ⟨g, cap, cur, h2, h3, (hb g (by rw [h2]; rfl)).trans h4, h5⟩⟩
end Dk
end Go.Proofs.YtolddolfpnkndaaGreat
namespace Go.Proofs.YtolddolfpnkndaaGreat
open Go.RowKit Go.Maps
namespace Dk
open Vt
theorem cf39 (caps : Array Value) (w : World) : (callFunc 88 caps).run Tryz.prog w = .ok (.enter 88 caps) w := by kernel_rfl
set_option maxRecDepth 100000 in
set_option maxHeartbeats 1000000 in
theorem sync1_is (w : World) (d m : Nat) (es : List En) (O : Nat → Prop) (S : Ds) (sn : ByteArray) (e : En) (b1 : Nat) (h : DKm w d m es O S) (hf : fnd es sn = some e) (h1 : Blk w b1 TP [.pointer (some ⟨e.blk, 0, none⟩)]) :
    Calls Tryz.prog 88 #[.pointer (some ⟨b1, 0, none⟩)] w fun e w2 => (∃ v, e = .returned v) ∧ Nx O w d (gSync sn S) w2 := by
  have hmx : Tryz.prog.follows .mixedOrders = true := by kernel_rfl
  obtain ⟨hm, hs⟩ := fnd_mem hf
  obtain ⟨hfb, hJ⟩ := h.file e hm
  obtain ⟨av, cv, hv, hlc⟩ := hJ.shape
  have hed : e.blk ≠ d := blk_ne hfb h.box (by decide)
  obtain ⟨SS, hS0, hS1⟩ : ∃ SS : Nat → World, SS 0 = w.drew ∧ SS 1 = w.drew.setCell ⟨e.blk, 1, none⟩ (.int .i64 (e.dat.length : Int)) := ⟨fun s => match s with | 0 => w.drew | _ => w.drew.setCell ⟨e.blk, 1, none⟩ (.int .i64 (e.dat.length : Int)), rfl, rfl⟩
  have C1 : (SS 0).cell? ⟨b1, 0, none⟩ = some (.pointer (some ⟨e.blk, 0, none⟩)) := by rw [hS0]; exact h1.cell 0 _ rfl
  have C2 : (SS 0).cell? ⟨e.blk, 0, none⟩ = some (.slice av e.dat.length cv) := by rw [hS0, ← hv]; exact hfb.cell 0 _ rfl
  have C3 : (SS 0).cell? ⟨e.blk, 1, none⟩ = some (.int .i64 (e.las : Int)) := by rw [hS0]; exact hfb.cell 1 _ rfl
  have F3 : (SS 0).frozen? ⟨e.blk, 1, none⟩ = false := by rw [hS0]; exact hfb.frozen 1
  have HFIN : Hid (Nx O w d (gSync sn S) (SS 1)) := by
    show Nx O w d (gSync sn S) (SS 1)
    rw [hS1]
    have hp := h.put (w2 := w.drew.setCell ⟨e.blk, 1, none⟩ (.int .i64 (e.dat.length : Int))) (S' := gSync sn S) hf (e' := { e with las := e.dat.length }) rfl rfl (fun b _ hb _ _ => set_heap _ _ _ b _ hb) (Nat.le_of_eq (set_size _ _ _ _).symm) (Blk.other (W := w.drew) h.box hed _) (Blk.set (W := w.drew) hfb _) (JB.same (w := w) hJ fun g hg => set_heap _ _ _ g _ (jb_ne hJ hg hfb (by decide))) (fun g q => .inl q)
      (by show upd S.fs sn _ = _; rw [h.fs]; exact (updE_fi fun x hx q => by rw [one_nm h.names hf hx q]; rfl).symm) (h.good.upd (u := S.used) (f := e.fi) (by rw [h.fs, fnd_get, hf]; rfl) (fun _ => rfl) (fun _ _ => Nat.le_refl _) rfl h.good.room)
    refine ⟨_, ⟨m, _, hp⟩, (Tr.drew O w).trans (Tr.set (O := O) (p := ⟨e.blk, 1, none⟩) (h.own.2.2 e hm).1 _) (fun x q => .inl q), fun b q => .inl ?_⟩
    rcases q with q | q
    · exact q
    · exact (h.own.2.2 e hm).2 b q
  rw [← hS0] at hS1
  have HS1 := hd hS1
  have HS0 := hd hS0
  clear hS0 hS1 h h1 hfb hJ hv
  go_enter Tryz.func88, Tryz.ntmps88
  go_wp2_with fail
  --REGION a
  refine region_chain (fun i => match i with
    | 0 => .pointer (some ⟨e.blk, 0, none⟩)
    | 1 => .pointer (some ⟨e.blk, 0, none⟩)
    | 2 => .pointer (some ⟨e.blk, 0, none⟩)
    | 3 => .pointer (some ⟨e.blk, 0, none⟩)
    | 4 => .slice av e.dat.length cv
    | 5 => .int .i64 (e.dat.length : Int)
    | 6 => .pointer (some ⟨e.blk, 0, none⟩)
    | 7 => .pointer (some ⟨e.blk, 1, none⟩)
    | 8 => undef
    | _ => undef) [8] SS hmx (by kernel_rfl) (by kernel_rfl) (by kernel_rfl) (by kernel_rfl) HS0.out ?_ ?_ (by decide)
  · intro i o ho s a hsr hlo hhi hout haf hun
    have e0 := getq (show a.tmps.getD 0 undef = Value.pointer (some { block := b1, off := 0 }) from hout 0 (notDst_spec (by kernel_rfl)))
    clear hout
    match i, ho, hlo, hhi, haf, hun with
    | 0, ho, hlo, hhi, haf, hun =>
      obtain rfl := Option.some.inj ho
      obtain rfl : s = 0 := by have := hhi 0 (by decide) (.inr (by kernel_rfl)); simp at hsr; omega
      refine step_c (w' := SS 0) rfl fun K hK => ?_
      simp only [List.getElem_toArray, List.getElem_cons_zero] at hK ⊢
      clear haf hlo hhi hun ho hsr
      go_simp
      exact hK
    | 1, ho, hlo, hhi, haf, hun =>
      obtain rfl := Option.some.inj ho
      obtain rfl : s = 0 := by have := hhi 0 (by decide) (.inr (by kernel_rfl)); simp at hsr; omega
      refine step_c (w' := SS 0) rfl fun K hK => ?_
      simp only [List.getElem_toArray, List.getElem_cons_succ, List.getElem_cons_zero] at hK ⊢
      clear haf hlo hhi hun ho hsr
      go_simp
      exact hK
    | 2, ho, hlo, hhi, haf, hun =>
      obtain rfl := Option.some.inj ho
      have f1 := getq (show a.tmps.getD 2 undef = .pointer (some ⟨e.blk, 0, none⟩) from haf ⟨1, .data⟩ (by simp) rfl 2 rfl)
      obtain rfl : s = 0 := by have := hhi 0 (by decide) (.inr (by kernel_rfl)); simp at hsr; omega
      refine step_c (w' := SS 0) rfl fun K hK => ?_
      simp only [List.getElem_toArray, List.getElem_cons_succ, List.getElem_cons_zero] at hK ⊢
      clear haf hlo hhi hun ho hsr
      go_simp
      exact hK
    | 3, ho, hlo, hhi, haf, hun =>
      obtain rfl := Option.some.inj ho
      have f2 := getq (show a.tmps.getD 3 undef = .pointer (some ⟨e.blk, 0, none⟩) from haf ⟨2, .data⟩ (by simp) rfl 3 rfl)
      obtain rfl : s = 0 := by have := hhi 0 (by decide) (.inr (by kernel_rfl)); simp at hsr; omega
      refine step_c (w' := SS 0) rfl fun K hK => ?_
      simp only [List.getElem_toArray, List.getElem_cons_succ, List.getElem_cons_zero] at hK ⊢
      clear haf hlo hhi hun ho hsr
      go_simp
      exact hK
    | 4, ho, hlo, hhi, haf, hun =>
      obtain rfl := Option.some.inj ho
      have f3 := getq (show a.tmps.getD 4 undef = .pointer (some ⟨e.blk, 0, none⟩) from haf ⟨3, .data⟩ (by simp) rfl 4 rfl)
      obtain rfl : s = 0 := by have := hhi 0 (by decide) (.inr (by kernel_rfl)); simp at hsr; omega
      refine step_c (w' := SS 0) rfl fun K hK => ?_
      simp only [List.getElem_toArray, List.getElem_cons_succ, List.getElem_cons_zero] at hK ⊢
      clear haf hlo hhi hun ho hsr
      go_simp
      exact hK
    | 5, ho, hlo, hhi, haf, hun =>
      obtain rfl := Option.some.inj ho
      have f4 := getq (show a.tmps.getD 5 undef = .slice av e.dat.length cv from haf ⟨4, .data⟩ (by simp) rfl 5 rfl)
      obtain rfl : s = 0 := by have := hhi 0 (by decide) (.inr (by kernel_rfl)); simp at hsr; omega
      refine step_c (w' := SS 0) rfl fun K hK => ?_
      simp only [List.getElem_toArray, List.getElem_cons_succ, List.getElem_cons_zero] at hK ⊢
      clear haf hlo hhi hun ho hsr
      go_simp
      exact hK
    | 6, ho, hlo, hhi, haf, hun =>
      obtain rfl := Option.some.inj ho
      have f0 := getq (show a.tmps.getD 1 undef = .pointer (some ⟨e.blk, 0, none⟩) from haf ⟨0, .data⟩ (by simp) rfl 1 rfl)
      obtain rfl : s = 0 := by have := hhi 0 (by decide) (.inr (by kernel_rfl)); simp at hsr; omega
      refine step_c (w' := SS 0) rfl fun K hK => ?_
      simp only [List.getElem_toArray, List.getElem_cons_succ, List.getElem_cons_zero] at hK ⊢
      clear haf hlo hhi hun ho hsr
      go_simp
      exact hK
    | 7, ho, hlo, hhi, haf, hun =>
      obtain rfl := Option.some.inj ho
      have f6 := getq (show a.tmps.getD 7 undef = .pointer (some ⟨e.blk, 0, none⟩) from haf ⟨6, .data⟩ (by simp) rfl 7 rfl)
      obtain rfl : s = 0 := by have := hhi 0 (by decide) (.inr (by kernel_rfl)); simp at hsr; omega
      refine step_c (w' := SS 0) rfl fun K hK => ?_
      simp only [List.getElem_toArray, List.getElem_cons_succ, List.getElem_cons_zero] at hK ⊢
      clear haf hlo hhi hun ho hsr
      go_simp
      exact hK
    | 8, ho, hlo, hhi, haf, hun =>
      obtain rfl := Option.some.inj ho
      have f7 := getq (show a.tmps.getD 8 undef = .pointer (some ⟨e.blk, 1, none⟩) from haf ⟨7, .data⟩ (by simp) rfl 8 rfl)
      have f5 := getq (show a.tmps.getD 6 undef = .int .i64 (e.dat.length : Int) from haf ⟨5, .data⟩ (by simp) rfl 6 rfl)
      obtain rfl : s = 0 := by have := hhi 0 (by decide) (.inl (by kernel_rfl)); omega
      refine step_c (w' := SS 1) rfl fun K hK => ?_
      simp only [List.getElem_toArray, List.getElem_cons_succ, List.getElem_cons_zero] at hK ⊢
      clear haf hlo hhi hun ho hsr
      rw [HS1.out] at hK
      go_simp
      exact hK
    | n + 9, ho, _, _, _, _ => simp at ho
  · intro aa hdf hsz hout hval
    have hat : aa.tmps = #[Value.pointer (some { block := b1, off := 0 }), .pointer (some ⟨e.blk, 0, none⟩), .pointer (some ⟨e.blk, 0, none⟩), .pointer (some ⟨e.blk, 0, none⟩), .pointer (some ⟨e.blk, 0, none⟩), .slice av e.dat.length cv, .int .i64 (e.dat.length : Int), .pointer (some ⟨e.blk, 0, none⟩), .pointer (some ⟨e.blk, 1, none⟩)] := by
      refine arr_one (hsz.trans rfl) fun kk hkk => ?_
      match kk, hkk with
      | 0, _ => exact hout 0 (notDst_spec (by kernel_rfl))
      | 1, _ => exact hval 0 1 (by decide) rfl
      | 2, _ => exact hval 1 2 (by decide) rfl
      | 3, _ => exact hval 2 3 (by decide) rfl
      | 4, _ => exact hval 3 4 (by decide) rfl
      | 5, _ => exact hval 4 5 (by decide) rfl
      | 6, _ => exact hval 5 6 (by decide) rfl
      | 7, _ => exact hval 6 7 (by decide) rfl
      | 8, _ => exact hval 7 8 (by decide) rfl
      | n + 9, h => exact absurd h (by simp)
    obtain ⟨tt, dd⟩ := aa
    simp only at hat hdf
    subst hat hdf
    clear hsz hout hval
    rw [show SS [8].length = SS 1 from rfl]
    go_end0
    exact ⟨⟨_, rfl⟩, HFIN.out⟩
  --END a
theorem alloc_size (w : World) (o : Obj) : (w.alloc o).heap.size = w.heap.size + 1 := by simp
set_option maxRecDepth 100000 in
set_option maxHeartbeats 1000000 in
theorem sync_is (w : World) (d : Nat) (O : Nat → Prop) (S : Ds) (s : ByteArray) (h : DK w d O S) (ha : S.acts < 4611686018427387904) :
    Calls Tryz.prog 58 #[.pointer (some ⟨d, 0, none⟩), .string s] w fun e w' => e = .returned (.int .i64 ((sync S s).1 : Int)) ∧ Nx O w d (sync S s).2 w' := by
  obtain ⟨m, es, h⟩ := h
  obtain ⟨p, hp, hp0⟩ := fans_eq h s true
  have HF := hd (find_is w d m es O S s true h)
  rw [hp] at HF
  have HA : Hid (Calls Tryz.prog 62 #[.pointer (some ⟨d, 0, none⟩), .int .i64 (look S s true : Int), .func (.func 88) #[] #[.pointer (some ⟨w.heap.size, 0, none⟩)]] (w.alloc (.cells #[.pointer p] TP)) fun e w' => e = .returned (.int .i64 ((sync S s).1 : Int)) ∧ Nx O w d (sync S s).2 w') := by
    refine (act_nx _ d m es O S _ _ (look S s true) (gSync s) (h.alloc _) ha (cf39 _) ?_).mono ?_
    · intro h0 w1 ht h1
      obtain ⟨e, hfe, rfl, _⟩ := hp0 h0
      have hb1 : Blk (w.alloc (.cells #[.pointer (some ⟨e.blk, 0, none⟩)] TP)) w.heap.size TP [.pointer (some ⟨e.blk, 0, none⟩)] := Blk.new w _ [.pointer (some ⟨e.blk, 0, none⟩)]
      exact sync1_is w1 d m es O (tick S) s e w.heap.size h1 hfe ((ht.block _ hb1.lt (by have := h.box.lt; omega)).trans hb1)
    · rintro e w' ⟨rfl, hn⟩
      exact ⟨rfl, hn.after (Tr.alloc O w _)⟩
  clear h hp hp0
  generalize look S s true = r at *
  go_enter Tryz.func58, Tryz.ntmps58
  go_wp2_with fail
  refine Calls.mono HF.out ?_
  rintro e w1 ⟨rfl, rfl⟩
  go_wp2_with fail
  refine Calls.mono HA.out ?_
  rintro e w2 ⟨rfl, hn⟩
  have HN := hd hn
  clear hn HA
  go_wp2_with fail
  go_ret
  exact ⟨rfl, HN.out⟩
def sizeOf_ (S : Ds) (s : ByteArray) : Nat := if look S s true ≠ 0 then 0 else ((get S.fs s).map fun f => f.dat.length).getD 0
end Dk
end Go.Proofs.YtolddolfpnkndaaGreat
