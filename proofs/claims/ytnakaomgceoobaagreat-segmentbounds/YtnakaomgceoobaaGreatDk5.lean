/-
  A FILE IS WRITTEN: what stays of the disk; the walks of Append's and Sync's closures.
-/
import Derived.Test.YtnakaomgceoobaaGreatDk4
namespace Go.Proofs.YtnakaomgceoobaaGreat
open Go.RowKit Go.Maps
namespace Dk
open Vt
def apO (ats : Array TypeId) (ty : TypeId) (args : Array Value) : Sem Value := Builtin.append_ ats ty args
theorem append_hid (ats : Array TypeId) (ty : TypeId) (args : Array Value) : Builtin.append_ ats ty args = apO ats ty args := rfl
/-- append, and where the new list lies -/
theorem run_append_jbl (ty : TypeId) (w : World) (base : Nat) (v u : Value) (l r : List Nat) (hJ : JB w base v l) (hI : IsB w u r) (hb : l.length + r.length ≤ 140737488355328) (hbase : base ≤ w.heap.size) :
    ∃ a' cap w', (Builtin.append_ #[31, 31] ty #[v, u]).run Tryz.prog w = .ok (.slice a' (l.length + r.length) cap) w' ∧ JB w' base (.slice a' (l.length + r.length) cap) (l ++ r) ∧ w.grownBy w' v.ownBlock ∧ ∀ g, (Value.slice a' (l.length + r.length) cap).ownBlock = some g → v.ownBlock = some g ∨ w.heap.size ≤ g := by
  obtain ⟨i0, hi, hz0, hz1, hz2⟩ := info_parts info_u8
  by_cases h0 : r.length = 0
  · obtain rfl : r = [] := List.length_eq_zero_iff.1 h0
    obtain ⟨a, c, rfl⟩ := hI.shape
    obtain ⟨a', c', rfl, hlc⟩ := hJ.shape
    refine ⟨a', c', w, ?_, ?_, World.grownBy.refl _ _, fun g q => .inl ?_⟩
    · cases a <;> cases a' <;> simp [Builtin.append_, run_underlying Tryz.underlying31, sizeOf, typeInfo, hi, hlc, Builtin.lenOf, Builtin.firstCells, storeCells, loadCells, loadCellsFrom]
    · simpa using hJ
    · cases a' <;> exact q
  · obtain ⟨hbl, hml, ⟨rfl, _⟩ | ⟨bb, oo, cc, rfl, hlc, hcm, hbb, hrow⟩⟩ := hI
    · simp at h0
    · have hlen : (bs r).length = r.length * 1 := by simp [bs]
      obtain ⟨g, cap, w', hr, h2, h3, h4, _⟩ := run_append_lies (P := Tryz.prog) w 31 ty base 5 i0 (.int .u8 0) 1 1 Tryz.underlying31 hi hz0 hz1 hz2 rfl (by decide) v l.length (bs l) hJ.2 ⟨bb, oo, none⟩ r.length cc (bs r) hlen (news_of_row hrow) (bs_one r) (by omega) (by unfold maxLen; omega) (by omega) hbase w.heap.size rfl
      refine ⟨_, cap, w', hr, ⟨byt_app hJ.1 hbl, ?_⟩, h3, fun g' q => ?_⟩
      · rw [bs_app] at h2
        rw [List.length_append]; exact h2
      · have : g = g' := by simpa [Value.ownBlock] using q
        subst this
        rcases h4 with h4 | h4
        · exact .inl h4
        · exact .inr (Nat.le_of_eq h4.symm)
theorem pw_any {α : Type} {R : α → α → Prop} (sym : ∀ {a b : α}, R a b → R b a) {l : List α} (h : l.Pairwise R) {x y : α} (hx : x ∈ l) (hy : y ∈ l) (hne : x ≠ y) : R x y := by
  induction l with
  | nil => cases hx
  | cons a r ih =>
    rw [List.pairwise_cons] at h
    rcases List.mem_cons.1 hx with rfl | hx
    · rcases List.mem_cons.1 hy with rfl | hy
      · exact absurd rfl hne
      · exact h.1 y hy
    · rcases List.mem_cons.1 hy with e | hy
      · rw [e]; exact sym (h.1 x (by assumption))
      · exact ih h.2 (by assumption) hy
def updE (es : List En) (s : ByteArray) (e' : En) : List En := es.map fun x => if x.nm = s then e' else x
theorem DKm.names {w : World} {d m : Nat} {es : List En} {O : Nat → Prop} {S : Ds} (h : DKm w d m es O S) : es.Pairwise fun a b => a.nm ≠ b.nm := by
  have := h.good.names
  rw [h.fs, List.pairwise_map] at this
  exact this
theorem one_nm {es : List En} (hn : es.Pairwise fun a b => a.nm ≠ b.nm) {s : ByteArray} {e : En} (hf : fnd es s = some e) {x : En} (hx : x ∈ es) (hs : x.nm = s) : x = e := by
  induction es with
  | nil => cases hx
  | cons a r ih =>
    rw [List.pairwise_cons] at hn
    unfold fnd at hf
    rw [List.find?_cons] at hf
    by_cases ea : a.nm = s
    · simp [ea] at hf
      subst hf
      rcases List.mem_cons.1 hx with rfl | hx
      · rfl
      · exact absurd (ea.trans hs.symm) (hn.1 x hx)
    · simp only [ea, decide_false] at hf
      rcases List.mem_cons.1 hx with rfl | hx
      · exact absurd hs ea
      · exact ih hn.2 hf hx
theorem fnd_updE {es : List En} {s t : ByteArray} {e' : En} (he : e'.nm = s) : (fnd (updE es s e') t).isSome = (fnd es t).isSome ∧ ((∀ x ∈ es, x.nm = s → x.blk = e'.blk) → (fnd (updE es s e') t).map En.blk = (fnd es t).map En.blk) := by
  induction es with
  | nil => exact ⟨rfl, fun _ => rfl⟩
  | cons a r ih =>
    unfold fnd updE at ih ⊢
    rw [List.map_cons, List.find?_cons, List.find?_cons]
    by_cases ea : a.nm = s
    · rw [if_pos ea, he, ea]
      by_cases et : s = t
      · subst et
        simp only [decide_true]
        exact ⟨by simp, fun h => by simp [h a (List.mem_cons_self ..) ea]⟩
      · simp only [et, decide_false]
        exact ⟨ih.1, fun h => ih.2 fun x hx => h x (List.mem_cons_of_mem _ hx)⟩
    · rw [if_neg ea]
      by_cases et : a.nm = t
      · subst et
        simp
      · simp only [et, decide_false]
        exact ⟨ih.1, fun h => ih.2 fun x hx => h x (List.mem_cons_of_mem _ hx)⟩
theorem MP.upd {w : World} {m : Nat} {es : List En} (h : MP w m es) {s : ByteArray} {e' : En} (he : e'.nm = s) (hb : ∀ x ∈ es, x.nm = s → x.blk = e'.blk) : MP w m (updE es s e') := by
  obtain ⟨D, h1, h2, h3, h4⟩ := h
  have hl : (updE es s e').length = es.length := by unfold updE; rw [List.length_map]
  refine ⟨D, by rw [hl]; exact h1, fun t ht => ?_, fun t ht => ?_, by rw [hl]; exact h4⟩
  · rw [h2 t ht, (fnd_updE he).2 hb]
  · rw [h3 t ht, (fnd_updE he).1]
/-- one file is another one, under its name, in its block; all else is as it was -/
theorem DKm.put {w w2 : World} {d m : Nat} {es : List En} {O : Nat → Prop} {S S' : Ds} (h : DKm w d m es O S) {s : ByteArray} {e e' : En} (hf : fnd es s = some e) (hn : e'.nm = e.nm) (hbl : e'.blk = e.blk)
    (hoth : ∀ b, O b → b ≠ e.blk → b ≠ d → e.val.ownBlock ≠ some b → w2.heap[b]? = w.heap[b]?) (hsz : w.heap.size ≤ w2.heap.size)
    (hbox : Blk w2 d TD (cells S' m)) (hfile : Blk w2 e.blk TF [e'.val, .int .i64 (e'.las : Int)]) (hJ : JB w2 0 e'.val e'.dat)
    (hnew : ∀ g, e'.val.ownBlock = some g → e.val.ownBlock = some g ∨ w.heap.size ≤ g) (hfs : S'.fs = (updE es s e').map En.fi) (hgood : Good S') :
    DKm w2 d m (updE es s e') (fun b => O b ∨ e'.val.ownBlock = some b) S' := by
  obtain ⟨hm, hs⟩ := fnd_mem hf
  have hnd : ∀ x ∈ es, x.blk ≠ d := by
    rintro x hx rfl
    have h1 : w.heap[x.blk]? = some (.cells (cells S m).toArray TD (0, 0)) := h.box
    have h2 : w.heap[x.blk]? = some (.cells [x.val, .int .i64 (x.las : Int)].toArray TF (0, 0)) := (h.file x hx).1
    rw [h1] at h2
    injection h2 with h2
    injection h2 with _ h3 _
    cases h3
  have hrow : ∀ x ∈ es, ∀ g, x.val.ownBlock = some g → ∃ cur, w.heap[g]? = some (.cells cur 5 (0, 0)) := by
    intro x hx g hg
    obtain ⟨_, _, ⟨q2, _⟩ | ⟨g', cap, cur, q2, _, q4, _⟩⟩ := (h.file x hx).2
    · rw [q2] at hg; cases hg
    · rw [q2] at hg
      have : g' = g := by simpa [Value.ownBlock] using hg
      subst this
      exact ⟨cur, q4⟩
  have hrd : ∀ x ∈ es, ∀ g, x.val.ownBlock = some g → g ≠ d := by
    rintro x hx g hg rfl
    obtain ⟨cur, hq⟩ := hrow x hx g hg
    have h1 : w.heap[g]? = some (.cells (cells S m).toArray TD (0, 0)) := h.box
    rw [h1] at hq
    injection hq with hq
    injection hq with _ hq _
    cases hq
  have hrf : ∀ x ∈ es, ∀ y ∈ es, ∀ g, x.val.ownBlock = some g → g ≠ y.blk := by
    rintro x hx y hy g hg rfl
    obtain ⟨cur, hq⟩ := hrow x hx _ hg
    have h1 : w.heap[y.blk]? = some (.cells [y.val, .int .i64 (y.las : Int)].toArray TF (0, 0)) := (h.file y hy).1
    rw [h1] at hq
    injection hq with hq
    injection hq with _ hq _
    cases hq
  -- two unlike files are apart
  have hap : ∀ x ∈ es, x.nm ≠ s → x.blk ≠ e.blk ∧ ∀ g, x.val.ownBlock = some g → e.val.ownBlock ≠ some g := by
    intro x hx hxs
    have hxe : x ≠ e := fun q => hxs (by rw [q]; exact hs)
    have sym : ∀ {a b : En}, (a.blk ≠ b.blk ∧ ∀ g, a.val.ownBlock = some g → b.val.ownBlock ≠ some g) → (b.blk ≠ a.blk ∧ ∀ g, b.val.ownBlock = some g → a.val.ownBlock ≠ some g) := fun q => ⟨fun z => q.1 z.symm, fun g h1 h2 => q.2 g h2 h1⟩
    exact pw_any sym h.apart hx hm hxe
  have hmn : ∀ x ∈ es, x.blk ≠ m := fun x hx q => h.map.notBlk (h.file x hx).1 q
  have hrm : ∀ x ∈ es, ∀ g, x.val.ownBlock = some g → g ≠ m := by
    rintro x hx g hg rfl
    obtain ⟨cur, hq⟩ := hrow x hx g hg
    obtain ⟨D, ⟨y, c, q6, _⟩, _⟩ := h.map
    rw [hq] at q6
    cases q6
  have hmd : m ≠ d := fun q => h.map.notBlk h.box q.symm
  refine ⟨hfs, hbox, (h.map.same (hoth m h.own.2.1 (fun q => hmn e hm q.symm) hmd (fun q => hrm e hm m q rfl))).upd (hn.trans hs) (fun x hx q => by rw [one_nm h.names hf hx q, hbl]), ?_, ?_, ⟨.inl h.own.1, .inl h.own.2.1, ?_⟩, ?_, hgood⟩
  · intro x hx
    unfold updE at hx
    obtain ⟨x0, hx0, rfl⟩ := List.mem_map.1 hx
    by_cases q : x0.nm = s
    · rw [if_pos q, hbl]; exact ⟨hfile, hJ⟩
    · rw [if_neg q]
      obtain ⟨a1, a2⟩ := hap x0 hx0 q
      refine ⟨(hoth _ (h.own.2.2 x0 hx0).1 a1 (hnd x0 hx0) (fun z => hrf e hm x0 hx0 _ z rfl)).trans (h.file x0 hx0).1, ?_⟩
      obtain ⟨q0, q1, ⟨q2, q3⟩ | ⟨g, cap, cur, q2, q3, q4, q5⟩⟩ := (h.file x0 hx0).2
      · exact ⟨q0, q1, .inl ⟨q2, q3⟩⟩
      · have hgo : x0.val.ownBlock = some g := by rw [q2]; rfl
        exact ⟨q0, q1, .inr ⟨g, cap, cur, q2, q3, (hoth g ((h.own.2.2 x0 hx0).2 g hgo) (hrf x0 hx0 e hm g hgo) (hrd x0 hx0 g hgo) (a2 g hgo)).trans q4, q5⟩⟩
  · unfold updE
    rw [List.pairwise_map]
    refine List.Pairwise.imp_of_mem ?_ (h.apart.and h.names)
    rintro a b ha hb ⟨hab, habn⟩
    by_cases qa : a.nm = s
    · have qb : b.nm ≠ s := fun q => habn (qa.trans q.symm)
      rw [if_pos qa, if_neg qb, hbl]
      obtain ⟨a1, a2⟩ := hap b hb qb
      refine ⟨fun z => a1 z.symm, fun g hg z => ?_⟩
      rcases hnew g hg with z2 | z2
      · exact a2 g z z2
      · obtain ⟨cur, hq⟩ := hrow b hb g z
        have := (Array.getElem?_eq_some_iff.1 hq).1
        omega
    · rw [if_neg qa]
      by_cases qb : b.nm = s
      · rw [if_pos qb, hbl]
        obtain ⟨a1, a2⟩ := hap a ha qa
        refine ⟨a1, fun g hg z => ?_⟩
        rcases hnew g z with z2 | z2
        · exact a2 g hg z2
        · obtain ⟨cur, hq⟩ := hrow a ha g hg
          have := (Array.getElem?_eq_some_iff.1 hq).1
          omega
      · rw [if_neg qb]; exact hab
  · intro x hx
    unfold updE at hx
    obtain ⟨x0, hx0, rfl⟩ := List.mem_map.1 hx
    by_cases q : x0.nm = s
    · rw [if_pos q, hbl]; exact ⟨.inl (h.own.2.2 e hm).1, fun g z => .inr z⟩
    · rw [if_neg q]; exact ⟨.inl (h.own.2.2 x0 hx0).1, fun g z => .inl ((h.own.2.2 x0 hx0).2 g z)⟩
  · intro b q
    rcases q with q | q
    · exact Nat.lt_of_lt_of_le (h.olt b q) hsz
    · obtain ⟨_, _, ⟨q2, _⟩ | ⟨g', cap, cur, q2, _, q4, _⟩⟩ := hJ
      · rw [q2] at q; cases q
      · rw [q2] at q
        have : g' = b := by simpa [Value.ownBlock] using q
        subst this
        exact (Array.getElem?_eq_some_iff.1 q4).1
theorem updE_fi {es : List En} {s : ByteArray} {e' : En} {g : Fi → Fi} (h : ∀ x ∈ es, x.nm = s → e'.fi = g x.fi) : (updE es s e').map En.fi = upd (es.map En.fi) s g := by
  unfold updE upd
  rw [List.map_map, List.map_map]
  refine List.map_congr_left fun x hx => ?_
  simp only [Function.comp]
  by_cases q : x.nm = s
  · rw [if_pos q, if_pos (show x.fi.nm = s from q)]; exact h x hx q
  · rw [if_neg q, if_neg (show ¬ x.fi.nm = s from q)]
theorem fans_eq {w : World} {d m : Nat} {es : List En} {O : Nat → Prop} {S : Ds} (h : DKm w d m es O S) (s : ByteArray) (b : Bool) : ∃ p : Option Addr, fans es S s b = .tuple #[.pointer p, .int .i64 (look S s b : Int)] ∧ (look S s b = 0 → ∃ e, fnd es s = some e ∧ p = some ⟨e.blk, 0, none⟩ ∧ isNm s = true ∧ b = true ∧ S.down = false) := by
  unfold fans
  by_cases h0 : look S s b = 0
  · rw [if_pos h0, h0]
    unfold look at h0
    have hb : bar S (isNm s && b) = 0 := by
      by_cases q : bar S (isNm s && b) = 0
      · exact q
      · rw [if_pos q] at h0; exact h0
    rw [hb] at h0
    simp only [ne_eq, not_true_eq_false, if_false] at h0
    rw [h.fs, fnd_get, Option.isSome_map] at h0
    have hbz := bar_zero hb
    rw [Bool.and_eq_true] at hbz
    have hdn : S.down = false := by
      unfold bar at hb
      cases hd : S.down
      · rfl
      · rw [hd] at hb; simp at hb
    cases hf : fnd es s with
    | none => rw [hf] at h0; simp at h0
    | some e => exact ⟨some ⟨e.blk, 0, none⟩, rfl, fun _ => ⟨e, rfl, rfl, hbz.1, hbz.2, hdn⟩⟩
  · rw [if_neg h0]
    exact ⟨none, rfl, fun q => absurd q h0⟩
theorem blk_ne {w : World} {X Y : Nat} {T U : TypeId} {cs ds : List Value} (h1 : Blk w X T cs) (h2 : Blk w Y U ds) (hT : T ≠ U) : X ≠ Y := by
  rintro rfl
  have h1' : w.heap[X]? = some (.cells cs.toArray T (0, 0)) := h1
  have h2' : w.heap[X]? = some (.cells ds.toArray U (0, 0)) := h2
  rw [h1'] at h2'
  injection h2' with h
  injection h with _ h _
  exact hT h
theorem set_heap (w : World) (g j b : Nat) (u : Value) (h : b ≠ g) : (w.setCell ⟨g, j, none⟩ u).heap[b]? = w.heap[b]? := by
  show (w.heap.modify g _)[b]? = _
  rw [Array.getElem?_modify, if_neg (fun e => h e.symm)]
theorem set_size (w : World) (g j : Nat) (u : Value) : (w.setCell ⟨g, j, none⟩ u).heap.size = w.heap.size := by simp [World.setCell]
theorem JB.drew {w : World} {base : Nat} {v : Value} {l : List Nat} (h : JB w base v l) : JB w.drew base v l := h
theorem jb_row {w : World} {base g : Nat} {v : Value} {l : List Nat} (h : JB w base v l) (hg : v.ownBlock = some g) : ∃ cur, w.heap[g]? = some (.cells cur 5 (0, 0)) := by
  obtain ⟨_, _, ⟨q2, _⟩ | ⟨g', cap, cur, q2, _, q4, _⟩⟩ := h
  · rw [q2] at hg; cases hg
  · rw [q2] at hg
    have : g' = g := by simpa [Value.ownBlock] using hg
    subst this
    exact ⟨cur, q4⟩
theorem jb_ne {w : World} {base g X : Nat} {v : Value} {l cs : List _} {T : TypeId} (h : JB w base v l) (hg : v.ownBlock = some g) (hX : Blk w X T cs) (hT : T ≠ 5) : g ≠ X := by
  rintro rfl
  obtain ⟨cur, hq⟩ := jb_row h hg
  have hX' : w.heap[g]? = some (.cells cs.toArray T (0, 0)) := hX
  rw [hX'] at hq
  injection hq with hq
  injection hq with _ hq _
  exact hT hq
theorem JB.same {w w' : World} {base : Nat} {v : Value} {l : List Nat} (h : JB w base v l) (hb : ∀ g, v.ownBlock = some g → w'.heap[g]? = w.heap[g]?) : JB w' base v l := by
  obtain ⟨h0, h1, ⟨h2, h3⟩ | ⟨g, cap, cur, h2, h3, h4, h5⟩⟩ := h
  · exact ⟨h0, h1, .inl ⟨h2, h3⟩⟩
  · exact ⟨h0, h1, .inr ⟨g, cap, cur, h2, h3, (hb g (by rw [h2]; rfl)).trans h4, h5⟩⟩
end Dk
end Go.Proofs.YtnakaomgceoobaaGreat
