/-
  A DISK WHOSE COUNT IS UNDER WAY (as within Crash's loop): the files, without what the state keeps to; sums over files that have been gone over.
-/
import Derived.Test.YtnakaomgceoobaaGreatDk9
namespace Go.Proofs.YtnakaomgceoobaaGreat
open Go.RowKit Go.Maps
namespace Dk
open Vt
structure DKq (w : World) (d m : Nat) (es : List En) (O : Nat → Prop) (cs : List Value) : Prop where
  box : Blk w d TD cs
  map : MP w m es
  file : ∀ e ∈ es, Blk w e.blk TF [e.val, .int .i64 (e.las : Int)] ∧ JB w 0 e.val e.dat
  apart : es.Pairwise fun a b => a.blk ≠ b.blk ∧ ∀ g, a.val.ownBlock = some g → b.val.ownBlock ≠ some g
  names : es.Pairwise fun a b => a.nm ≠ b.nm
  own : O d ∧ O m ∧ ∀ e ∈ es, O e.blk ∧ ∀ g, e.val.ownBlock = some g → O g
  olt : ∀ b, O b → b < w.heap.size
theorem DKm.q {w : World} {d m : Nat} {es : List En} {O : Nat → Prop} {S : Ds} (h : DKm w d m es O S) : DKq w d m es O (cells S m) := ⟨h.box, h.map, h.file, h.apart, h.names, h.own, h.olt⟩
theorem DKq.m {w : World} {d m : Nat} {es : List En} {O : Nat → Prop} {S : Ds} (h : DKq w d m es O (cells S m)) (hf : S.fs = es.map En.fi) (hg : Good S) : DKm w d m es O S := ⟨hf, h.box, h.map, h.file, h.apart, h.own, h.olt, hg⟩
/-- the disk's own struct alone has turned -/
theorem DKq.turn {w w1 : World} {d m : Nat} {es : List En} {O : Nat → Prop} {cs cs' : List Value} (h : DKq w d m es O cs) (ht : Tr (fun b => b = d) w w1) (hb : Blk w1 d TD cs') : DKq w1 d m es O cs' := by
  have hne : ∀ e ∈ es, e.blk ≠ d := fun e he => blk_ne (h.file e he).1 h.box (by decide)
  have hm : m ≠ d := fun e => h.map.notBlk h.box e.symm
  refine ⟨hb, h.map.same (ht.block m h.map.lt hm), fun e he => ⟨(ht.block _ (h.file e he).1.lt (hne e he)).trans (h.file e he).1, JB.same (h.file e he).2 fun g hg => ?_⟩, h.apart, h.names, h.own, fun b q => Nat.lt_of_lt_of_le (h.olt b q) ht.size⟩
  obtain ⟨cur, hq⟩ := jb_row (h.file e he).2 hg
  exact ht.block g (Array.getElem?_eq_some_iff.1 hq).1 (jb_ne (h.file e he).2 hg h.box (by decide))
theorem DKq.aside {w w' : World} {d m : Nat} {es : List En} {O O2 : Nat → Prop} {cs : List Value} (h : DKq w d m es O cs) (ht : Tr O2 w w') (ha : ∀ b, O b → ¬ O2 b) : DKq w' d m es O cs := by
  have hb : ∀ b, O b → w'.heap[b]? = w.heap[b]? := fun b q => ht.block b (h.olt b q) (ha b q)
  exact ⟨(hb d h.own.1).trans h.box, h.map.same (hb m h.own.2.1), fun e he => ⟨(hb _ (h.own.2.2 e he).1).trans (h.file e he).1, JB.same (h.file e he).2 fun g hg => hb g ((h.own.2.2 e he).2 g hg)⟩, h.apart, h.names, h.own, fun b q => Nat.lt_of_lt_of_le (h.olt b q) ht.size⟩
theorem updE_names {es : List En} {s : ByteArray} {e' : En} (he : e'.nm = s) (h : es.Pairwise fun a b => a.nm ≠ b.nm) : (updE es s e').Pairwise fun a b => a.nm ≠ b.nm := by
  unfold updE
  rw [List.pairwise_map]
  refine h.imp ?_
  intro a b hab
  have ha : (if a.nm = s then e' else a).nm = a.nm := by split; rw [he]; exact (by assumption : a.nm = s).symm; rfl
  have hb : (if b.nm = s then e' else b).nm = b.nm := by split; rw [he]; exact (by assumption : b.nm = s).symm; rfl
  rw [ha, hb]; exact hab
/-- one file is another one, under its name, in its block; all else is as it was -/
theorem DKq.put {w w2 : World} {d m : Nat} {es : List En} {O : Nat → Prop} {cs cs' : List Value} (h : DKq w d m es O cs) {s : ByteArray} {e e' : En} (hf : fnd es s = some e) (hn : e'.nm = e.nm) (hbl : e'.blk = e.blk)
    (hoth : ∀ b, O b → b ≠ e.blk → b ≠ d → e.val.ownBlock ≠ some b → w2.heap[b]? = w.heap[b]?) (hsz : w.heap.size ≤ w2.heap.size)
    (hbox : Blk w2 d TD cs') (hfile : Blk w2 e.blk TF [e'.val, .int .i64 (e'.las : Int)]) (hJ : JB w2 0 e'.val e'.dat)
    (hnew : ∀ g, e'.val.ownBlock = some g → e.val.ownBlock = some g ∨ w.heap.size ≤ g) :
    DKq w2 d m (updE es s e') (fun b => O b ∨ e'.val.ownBlock = some b) cs' := by
  obtain ⟨hm, hs⟩ := fnd_mem hf
  have hnd : ∀ x ∈ es, x.blk ≠ d := by
    rintro x hx rfl
    have h1 : w.heap[x.blk]? = some (.cells cs.toArray TD (0, 0)) := h.box
    have h2 : w.heap[x.blk]? = some (.cells [x.val, .int .i64 (x.las : Int)].toArray TF (0, 0)) := (h.file x hx).1
    rw [h1] at h2
    injection h2 with h2
    injection h2 with _ h3 _
    cases h3
  have hrow : ∀ x ∈ es, ∀ g, x.val.ownBlock = some g → ∃ cur, w.heap[g]? = some (.cells cur 5 (0, 0)) := by
    intro x hx g hg
    obtain ⟨_, _, ⟨q2, _⟩ | ⟨g', cap, cur, q2, _, q4, _⟩⟩ := (h.file x hx).2
    · rw [q2] at hg; cases hg
    · rw [q2] at hg
      have : g' = g := by simpa [Value.ownBlock] using hg
      subst this
      exact ⟨cur, q4⟩
  have hrd : ∀ x ∈ es, ∀ g, x.val.ownBlock = some g → g ≠ d := by
    rintro x hx g hg rfl
    obtain ⟨cur, hq⟩ := hrow x hx g hg
    have h1 : w.heap[g]? = some (.cells cs.toArray TD (0, 0)) := h.box
    rw [h1] at hq
    injection hq with hq
    injection hq with _ hq _
    cases hq
  have hrf : ∀ x ∈ es, ∀ y ∈ es, ∀ g, x.val.ownBlock = some g → g ≠ y.blk := by
    rintro x hx y hy g hg rfl
    obtain ⟨cur, hq⟩ := hrow x hx _ hg
    have h1 : w.heap[y.blk]? = some (.cells [y.val, .int .i64 (y.las : Int)].toArray TF (0, 0)) := (h.file y hy).1
    rw [h1] at hq
    injection hq with hq
    injection hq with _ hq _
    cases hq
  -- two unlike files are apart
  have hap : ∀ x ∈ es, x.nm ≠ s → x.blk ≠ e.blk ∧ ∀ g, x.val.ownBlock = some g → e.val.ownBlock ≠ some g := by
    intro x hx hxs
    have hxe : x ≠ e := fun q => hxs (by rw [q]; exact hs)
    have sym : ∀ {a b : En}, (a.blk ≠ b.blk ∧ ∀ g, a.val.ownBlock = some g → b.val.ownBlock ≠ some g) → (b.blk ≠ a.blk ∧ ∀ g, b.val.ownBlock = some g → a.val.ownBlock ≠ some g) := fun q => ⟨fun z => q.1 z.symm, fun g h1 h2 => q.2 g h2 h1⟩
    exact pw_any sym h.apart hx hm hxe
  have hmn : ∀ x ∈ es, x.blk ≠ m := fun x hx q => h.map.notBlk (h.file x hx).1 q
  have hrm : ∀ x ∈ es, ∀ g, x.val.ownBlock = some g → g ≠ m := by
    rintro x hx g hg rfl
    obtain ⟨cur, hq⟩ := hrow x hx g hg
    obtain ⟨D, ⟨y, c, q6, _⟩, _⟩ := h.map
    rw [hq] at q6
    cases q6
  have hmd : m ≠ d := fun q => h.map.notBlk h.box q.symm
  refine ⟨hbox, (h.map.same (hoth m h.own.2.1 (fun q => hmn e hm q.symm) hmd (fun q => hrm e hm m q rfl))).upd (hn.trans hs) (fun x hx q => by rw [one_nm h.names hf hx q, hbl]), ?_, ?_, updE_names (hn.trans hs) h.names, ⟨.inl h.own.1, .inl h.own.2.1, ?_⟩, ?_⟩
  · intro x hx
    unfold updE at hx
    obtain ⟨x0, hx0, rfl⟩ := List.mem_map.1 hx
    by_cases q : x0.nm = s
    · rw [if_pos q, hbl]; exact ⟨hfile, hJ⟩
    · rw [if_neg q]
      obtain ⟨a1, a2⟩ := hap x0 hx0 q
      refine ⟨(hoth _ (h.own.2.2 x0 hx0).1 a1 (hnd x0 hx0) (fun z => hrf e hm x0 hx0 _ z rfl)).trans (h.file x0 hx0).1, ?_⟩
      obtain ⟨q0, q1, ⟨q2, q3⟩ | ⟨g, cap, cur, q2, q3, q4, q5⟩⟩ := (h.file x0 hx0).2
      · exact ⟨q0, q1, .inl ⟨q2, q3⟩⟩
      · have hgo : x0.val.ownBlock = some g := by rw [q2]; rfl
        exact ⟨q0, q1, .inr ⟨g, cap, cur, q2, q3, (hoth g ((h.own.2.2 x0 hx0).2 g hgo) (hrf x0 hx0 e hm g hgo) (hrd x0 hx0 g hgo) (a2 g hgo)).trans q4, q5⟩⟩
  · unfold updE
    rw [List.pairwise_map]
    refine List.Pairwise.imp_of_mem ?_ (h.apart.and h.names)
    rintro a b ha hb ⟨hab, habn⟩
    by_cases qa : a.nm = s
    · have qb : b.nm ≠ s := fun q => habn (qa.trans q.symm)
      rw [if_pos qa, if_neg qb, hbl]
      obtain ⟨a1, a2⟩ := hap b hb qb
      refine ⟨fun z => a1 z.symm, fun g hg z => ?_⟩
      rcases hnew g hg with z2 | z2
      · exact a2 g z z2
      · obtain ⟨cur, hq⟩ := hrow b hb g z
        have := (Array.getElem?_eq_some_iff.1 hq).1
        omega
    · rw [if_neg qa]
      by_cases qb : b.nm = s
      · rw [if_pos qb, hbl]
        obtain ⟨a1, a2⟩ := hap a ha qa
        refine ⟨a1, fun g hg z => ?_⟩
        rcases hnew g z with z2 | z2
        · exact a2 g hg z2
        · obtain ⟨cur, hq⟩ := hrow a ha g hg
          have := (Array.getElem?_eq_some_iff.1 hq).1
          omega
      · rw [if_neg qb]; exact hab
  · intro x hx
    unfold updE at hx
    obtain ⟨x0, hx0, rfl⟩ := List.mem_map.1 hx
    by_cases q : x0.nm = s
    · rw [if_pos q, hbl]; exact ⟨.inl (h.own.2.2 e hm).1, fun g z => .inr z⟩
    · rw [if_neg q]; exact ⟨.inl (h.own.2.2 x0 hx0).1, fun g z => .inl ((h.own.2.2 x0 hx0).2 g z)⟩
  · intro b q
    rcases q with q | q
    · exact Nat.lt_of_lt_of_le (h.olt b q) hsz
    · obtain ⟨_, _, ⟨q2, _⟩ | ⟨g', cap, cur, q2, _, q4, _⟩⟩ := hJ
      · rw [q2] at q; cases q
      · rw [q2] at q
        have : g' = b := by simpa [Value.ownBlock] using q
        subst this
        exact (Array.getElem?_eq_some_iff.1 q4).1
/-- of the files that have been gone over (those that are no longer to come) a sum -/
def gone (lf : Lit → Bool) (f : En → Nat) (es : List En) : Nat := (es.map fun e => if lf (kl e.nm) then 0 else f e).sum
def strike (lf : Lit → Bool) (k : Lit) : Lit → Bool := fun z => lf z && !z.sameKey k
theorem strike_same {lf : Lit → Bool} {s : ByteArray} (hs : s.size ≤ maxLen) : strike lf (kl s) (kl s) = false := by
  unfold strike
  rw [WideAt.sameKey_self (kl_is hs)]; simp
theorem strike_other {lf : Lit → Bool} {s t : ByteArray} (h : t ≠ s) : strike lf (kl s) (kl t) = lf (kl t) := by
  unfold strike
  rw [Maps.sameKey_ne (fun q => h (kl_inj q))]; simp
theorem gone_step {lf : Lit → Bool} {f : En → Nat} {es : List En} (hn : es.Pairwise fun a b => a.nm ≠ b.nm) {s : ByteArray} {e : En} (hf : fnd es s = some e) (hs : s.size ≤ maxLen) (hl : lf (kl s) = true) : gone (strike lf (kl s)) f es = gone lf f es + f e := by
  induction es with
  | nil => cases hf
  | cons a r ih =>
    rw [List.pairwise_cons] at hn
    unfold fnd at hf
    rw [List.find?_cons] at hf
    unfold gone
    rw [List.map_cons, List.map_cons, List.sum_cons, List.sum_cons]
    by_cases ea : a.nm = s
    · simp [ea] at hf
      subst hf
      rw [ea, strike_same hs, hl]
      have : (r.map fun e => if strike lf (kl s) (kl e.nm) = true then 0 else f e) = r.map fun e => if lf (kl e.nm) = true then 0 else f e := by
        refine List.map_congr_left fun x hx => ?_
        rw [strike_other (fun q => hn.1 x hx (ea.trans q.symm))]
      rw [this]
      simp; omega
    · simp only [ea, decide_false] at hf
      have := ih hn.2 hf
      unfold gone at this
      rw [strike_other ea, this]; omega
theorem gone_none {lf : Lit → Bool} {f : En → Nat} {es : List En} (h : ∀ e ∈ es, lf (kl e.nm) = true) : gone lf f es = 0 := by
  unfold gone
  induction es with
  | nil => rfl
  | cons a r ih =>
    rw [List.map_cons, List.sum_cons, h a (List.mem_cons_self ..), ih fun e he => h e (List.mem_cons_of_mem _ he)]
    rfl
theorem gone_all {lf : Lit → Bool} {f : En → Nat} {es : List En} (h : ∀ k, lf k = false) : gone lf f es = (es.map f).sum := by
  unfold gone
  congr 1
  refine List.map_congr_left fun x _ => ?_
  rw [h]; rfl
theorem gone_le {lf : Lit → Bool} {f g : En → Nat} {es : List En} (h : ∀ e ∈ es, f e ≤ g e) : gone lf f es ≤ (es.map g).sum := by
  unfold gone
  induction es with
  | nil => exact Nat.le_refl _
  | cons a r ih =>
    rw [List.map_cons, List.map_cons, List.sum_cons, List.sum_cons]
    have h1 := h a (List.mem_cons_self ..)
    have h2 := ih fun e he => h e (List.mem_cons_of_mem _ he)
    split <;> omega
/-- the files, some of which have been gone over -/
def crs (keep : Int) (lf : Lit → Bool) (es : List En) : List Fi := es.map fun e => if lf (kl e.nm) then e.fi else crashed keep e.fi
theorem crs_nm (keep : Int) (lf : Lit → Bool) (e : En) : (if lf (kl e.nm) then e.fi else crashed keep e.fi).nm = e.nm := by split <;> rfl
theorem crs_step {keep : Int} {lf : Lit → Bool} {es : List En} {s : ByteArray} (hs : s.size ≤ maxLen) (hl : lf (kl s) = true) : upd (crs keep lf es) s (crashed keep) = crs keep (strike lf (kl s)) es := by
  unfold upd crs
  rw [List.map_map]
  refine List.map_congr_left fun x _ => ?_
  simp only [Function.comp]
  rw [crs_nm]
  by_cases e : x.nm = s
  · rw [if_pos e, e, strike_same hs, hl]; rfl
  · rw [if_neg e, strike_other e]
theorem crs_start {keep : Int} {lf : Lit → Bool} {es : List En} (h : ∀ e ∈ es, lf (kl e.nm) = true) : crs keep lf es = es.map En.fi := by
  unfold crs
  refine List.map_congr_left fun x hx => ?_
  rw [h x hx]; rfl
theorem crs_end {keep : Int} {lf : Lit → Bool} {es : List En} (h : ∀ k, lf k = false) : crs keep lf es = (es.map En.fi).map (crashed keep) := by
  unfold crs
  rw [List.map_map]
  refine List.map_congr_left fun x _ => ?_
  rw [h]; rfl
/-- two lists of the same files, as far as names and blocks go -/
theorem fnd_blk {es es' : List En} (h1 : es'.map En.blk = es.map En.blk) (h2 : es'.map En.nm = es.map En.nm) (s : ByteArray) : (fnd es' s).map En.blk = (fnd es s).map En.blk := by
  induction es generalizing es' with
  | nil => cases es' with
    | nil => rfl
    | cons a r => cases h1
  | cons b q ih => cases es' with
    | nil => cases h1
    | cons a r =>
      rw [List.map_cons, List.map_cons] at h1 h2
      injection h1 with h1a h1b
      injection h2 with h2a h2b
      unfold fnd at ih ⊢
      rw [List.find?_cons, List.find?_cons, h2a]
      by_cases e : b.nm = s
      · simp [e, h1a]
      · simp only [e, decide_false]; exact ih h1b h2b
end Dk
end Go.Proofs.YtnakaomgceoobaaGreat
