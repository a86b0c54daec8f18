/-
  DESKS AND A DISK: the same files, in whatever order; what each step does to both, plainly; both in memory, apart from one another.
-/
import Derived.Test.YtpjfoinkifkdoaaTl0
import Derived.Test.YtpjfoinkifkdoaaDk5
namespace Go.Proofs.Ytpjfoinkifkdoaa
open Go.RowKit Go.Maps
namespace Tl
open Vt Dk
def Nd (cs : List De) : Prop := (cs.map Prod.fst).Pairwise fun a b => a.nm ≠ b.nm
theorem nd_of {cs : List De} {fs : List Fi} (h : (cs.map Prod.fst).Perm fs) (hn : fs.Pairwise fun a b => a.nm ≠ b.nm) : Nd cs := h.symm.pairwise hn (fun q e => q e.symm)
theorem get_perm {a b : List Fi} (h : a.Perm b) (hn : b.Pairwise fun x y => x.nm ≠ y.nm) (s : ByteArray) : get a s = get b s := by
  have ha : a.Pairwise fun x y => x.nm ≠ y.nm := h.symm.pairwise hn (fun q e => q e.symm)
  cases hg : get b s with
  | none =>
    rw [get_none] at hg ⊢
    intro f hf
    exact hg f (h.mem_iff.1 hf)
  | some f =>
    obtain ⟨h1, h2⟩ := get_mem hg
    rw [← h2]
    exact get_of_mem ha (h.mem_iff.2 h1)
theorem nd_at {cs : List De} (hn : Nd cs) {i j : Nat} {x y : De} (hi : cs[i]? = some x) (hj : cs[j]? = some y) (h : x.1.nm = y.1.nm) : i = j := by
  rcases Nat.lt_trichotomy i j with q | q | q
  · exfalso
    obtain ⟨hil, rfl⟩ := List.getElem?_eq_some_iff.1 hi
    obtain ⟨hjl, rfl⟩ := List.getElem?_eq_some_iff.1 hj
    have := List.pairwise_iff_getElem.1 hn i j (by simpa using hil) (by simpa using hjl) q
    simp only [List.getElem_map] at this
    exact this h
  · exact q
  · exfalso
    obtain ⟨hil, rfl⟩ := List.getElem?_eq_some_iff.1 hi
    obtain ⟨hjl, rfl⟩ := List.getElem?_eq_some_iff.1 hj
    have := List.pairwise_iff_getElem.1 hn j i (by simpa using hjl) (by simpa using hil) q
    simp only [List.getElem_map] at this
    exact this h.symm
/-- is it there, and where -/
theorem ix_get {cs : List De} {S : Ds} (hp : (cs.map Prod.fst).Perm S.fs) (hn : S.fs.Pairwise fun a b => a.nm ≠ b.nm) (s : ByteArray) :
    (ixI cs s = -1 ∧ get S.fs s = none ∧ ∀ c ∈ cs, c.1.nm ≠ s) ∨ ∃ (k : Nat) (c : De), ixI cs s = (k : Int) ∧ cs[k]? = some c ∧ c.1.nm = s ∧ get S.fs s = some c.1 := by
  cases h : ix cs s with
  | none =>
    have h1 := ix_none h
    refine .inl ⟨ixI_none h1, ?_, h1⟩
    rw [get_none]
    intro f hf
    obtain ⟨c, hc, rfl⟩ := List.mem_map.1 (hp.mem_iff.2 hf)
    exact h1 c hc
  | some k =>
    obtain ⟨c, h1, h2, h3⟩ := ix_some h
    refine .inr ⟨k, c, ixI_at h1 h2 h3, h1, h2, ?_⟩
    rw [← h2]
    exact get_of_mem hn (hp.mem_iff.1 (List.mem_map_of_mem (List.mem_of_getElem? h1)))
def cutD (cs : List De) (s : ByteArray) : List De := cs.filter fun c => decide (c.1.nm ≠ s)
theorem wo_eq {cs : List De} (hn : Nd cs) (s : ByteArray) : wo cs (ixI cs s) = cutD cs s := by
  unfold wo cutD
  have key : ∀ p ∈ cs.zipIdx, decide ((p.2 : Int) ≠ ixI cs s) = decide (p.1.1.nm ≠ s) := by
    rintro ⟨c, i⟩ hp
    have hi : cs[i]? = some c := by
      have := List.mem_zipIdx_iff_getElem?.1 hp
      exact this
    by_cases hs : c.1.nm = s
    · have : ixI cs s = (i : Int) := ixI_at hi hs fun j y hj hy e => by
        have := nd_at hn hy hi (e.trans hs.symm)
        omega
      simp [hs, this]
    · have : (i : Int) ≠ ixI cs s := by
        intro e
        cases h : ix cs s with
        | none => rw [ixI_none (ix_none h)] at e; omega
        | some k =>
          obtain ⟨c', h1, h2, h3⟩ := ix_some h
          rw [ixI_at h1 h2 h3] at e
          have : i = k := by omega
          subst this
          rw [hi] at h1
          obtain rfl := Option.some.inj h1
          exact hs h2
      simp [hs, this]
  rw [List.filter_congr key, ← Function.comp_def (fun c : De => decide (c.1.nm ≠ s)) Prod.fst, ← List.filter_map, List.zipIdx_map_fst]
theorem cutD_fst (cs : List De) (s : ByteArray) : (cutD cs s).map Prod.fst = del (cs.map Prod.fst) s := by
  unfold cutD del
  rw [List.filter_map]
  rfl
theorem del_perm {a b : List Fi} (h : a.Perm b) (s : ByteArray) : (del a s).Perm (del b s) := h.filter _
theorem upd_perm {a b : List Fi} (h : a.Perm b) (s : ByteArray) (g : Fi → Fi) : (upd a s g).Perm (upd b s g) := h.map _
theorem set_fst {cs : List De} (hn : Nd cs) {k : Nat} {c c' : De} (hk : cs[k]? = some c) (g : Fi → Fi) (hg : c'.1 = g c.1) : (cs.set k c').map Prod.fst = upd (cs.map Prod.fst) c.1.nm g := by
  apply List.ext_getElem?
  intro i
  unfold upd
  rw [List.map_set, List.getElem?_map, List.getElem?_set]
  obtain ⟨hkl, hkx⟩ := List.getElem?_eq_some_iff.1 hk
  by_cases h : k = i
  · subst h
    rw [if_pos rfl, if_pos (by simpa using hkl), List.getElem?_map, hk]
    simp [hg]
  · rw [if_neg h, List.getElem?_map]
    cases hx : cs[i]? with
    | none => rfl
    | some x =>
      have : x.1.nm ≠ c.1.nm := fun e => h (nd_at hn hk hx e.symm)
      simp [this]
/-- Rename of a file to its own name: the same files -/
theorem same_ren {fs : List Fi} (hn : fs.Pairwise fun a b => a.nm ≠ b.nm) {f : Fi} (hf : f ∈ fs) : fs.Perm (del (del fs f.nm) f.nm ++ [{ f with nm := f.nm }]) := by
  have h1 : del (del fs f.nm) f.nm = del fs f.nm := by unfold del; rw [List.filter_filter]; simp
  rw [h1]
  refine List.Perm.trans ?_ (List.perm_append_comm (l₁ := [f]))
  clear h1
  induction fs with
  | nil => cases hf
  | cons a t ih =>
    rw [List.pairwise_cons] at hn
    unfold del
    rw [List.filter_cons]
    rcases List.mem_cons.1 hf with rfl | hf
    · have : t.filter (fun x => decide (x.nm ≠ f.nm)) = t := by
        rw [List.filter_eq_self]
        intro x hx
        simpa using fun e : x.nm = f.nm => hn.1 x hx e.symm
      rw [this]
      simp
    · have hne : a.nm ≠ f.nm := hn.1 f hf
      rw [if_pos (by simpa using hne)]
      exact ((ih hn.2 hf).cons a).trans (List.Perm.swap f a _)
/-! ### memory -/
/-- the bytes of a desk lie apart from the disk and from the row of desks -/
def Aw (O : Nat → Prop) (v : Value) (W : World) (c : De) : Prop := IsB W (.slice c.2.1 c.1.dat.length c.2.2) c.1.dat ∧ (c.1.dat ≠ [] → ∀ b off, c.2.1 = some ⟨b, off, none⟩ → ¬ O b ∧ v.ownBlock ≠ some b)
theorem isB_lt {w : World} {a : Option Addr} {n c : Nat} {l : List Nat} (h : IsB w (.slice a n c) l) (h0 : l ≠ []) {b off : Nat} (hb : a = some ⟨b, off, none⟩) : b < w.heap.size := by
  obtain ⟨_, _, ⟨q1, _⟩ | ⟨b2, o2, c2, q2, _, _, q3, _⟩⟩ := h
  · exact absurd q1 h0
  · injection q2 with q2 _ _
    rw [hb] at q2
    injection q2 with q2
    injection q2 with q2
    rw [q2]; exact q3
theorem isB_same {w w' : World} {a : Option Addr} {n c : Nat} {l : List Nat} (h : IsB w (.slice a n c) l) (hb : l ≠ [] → ∀ b off, a = some ⟨b, off, none⟩ → w'.heap[b]? = w.heap[b]?) (hs : w.heap.size ≤ w'.heap.size) : IsB w' (.slice a n c) l := by
  obtain ⟨h1, h2, h3 | ⟨b, off, c', h4, h5, h6, h7, h8⟩⟩ := h
  · exact ⟨h1, h2, .inl h3⟩
  · by_cases h0 : l = []
    · refine ⟨h1, h2, .inr ⟨b, off, c', h4, h5, h6, by omega, fun i hi => ?_⟩⟩
      rw [h0] at hi; simp at hi
    · injection h4 with h41 h42 h43
      refine ⟨h1, h2, .inr ⟨b, off, c', by rw [h41, h42, h43], h5, h6, by omega, fun i hi => (World.cell?_of_block (hb h0 b off h41)).trans (h8 i hi)⟩⟩
theorem jr_same {E : TypeId} {sz : Nat} {w w' : World} {base : Nat} {v : Value} {l : List (List Value)} (h : JR E sz w base v l) (hb : ∀ g, v.ownBlock = some g → w'.heap[g]? = w.heap[g]?) : JR E sz w' base v l := by
  obtain ⟨h1, h0, ⟨rfl, e⟩ | ⟨g', cap', cur, rfl, hbs, hh, hr⟩⟩ := h
  · exact ⟨h1, h0, .inl ⟨rfl, e⟩⟩
  · exact ⟨h1, h0, .inr ⟨g', cap', cur, rfl, hbs, (hb g' rfl).trans hh, hr⟩⟩
/-- a disk and a row of desks (cs), apart from one another and from the bytes of some desks (ys) -/
structure Dq (B : Nat) (w0 : World) (d : Nat) (S : Ds) (v : Value) (cs ys : List De) (W : World) : Prop where
  ex : ∃ O, DK W d O S ∧ (∀ b, O b → B ≤ b) ∧ (∀ g, v.ownBlock = some g → ¬ O g) ∧ ∀ c ∈ ys, Aw O v W c
  row : JR TK 3 W B v (cs.map dcl)
  below : Below B w0 W
  size : B ≤ W.heap.size
section
variable {B : Nat} {w0 : World} {d : Nat} {S : Ds} {v : Value} {cs ys : List De} {W : World}
theorem Dq.good (h : Dq B w0 d S v cs ys W) : Dk.Good S := by obtain ⟨O, h1, _⟩ := h.ex; exact h1.good
/-- an act of the disk -/
theorem Dq.act {S' : Ds} {f : FuncId} {args : Array Value} {R : Ending → Prop} (h : Dq B w0 d S v cs ys W) (hx : ∀ O, DK W d O S → (∀ b, O b → B ≤ b) → (∀ c ∈ ys, Aw O v W c) → Calls Try.prog f args W fun x w' => R x ∧ Nx O W d S' w') :
    Calls Try.prog f args W fun x w' => R x ∧ Dq B w0 d S' v cs ys w' := by
  obtain ⟨O, h1, h2, h3, h4⟩ := h.ex
  refine (hx O h1 h2 h4).mono ?_
  rintro x w' ⟨r, O', k1, k2, k3⟩
  have hs := h.size
  refine ⟨r, ⟨⟨O', k1, fun b q => (k3 b q).elim (h2 b) (fun z => by omega), fun g hg q => ?_, fun c hc => ⟨?_, fun h0 b off hb => ?_⟩⟩, jr_same h.row fun g hg => k2.block g (h.row.blk_lt g hg) (h3 g hg), bel_tr h.below (k2.below h2 hs), by have := k2.size; omega⟩⟩
  · rcases k3 g q with q | q
    · exact h3 g hg q
    · have := h.row.blk_lt g hg; omega
  · exact isB_same (h4 c hc).1 (fun h0 b off hb => k2.block b (isB_lt (h4 c hc).1 h0 hb) ((h4 c hc).2 h0 b off hb).1) k2.size
  · refine ⟨fun q => ?_, ((h4 c hc).2 h0 b off hb).2⟩
    rcases k3 b q with q | q
    · exact ((h4 c hc).2 h0 b off hb).1 q
    · have := isB_lt (h4 c hc).1 h0 hb; omega
/-- what leaves all old blocks as they are -/
theorem Dq.bel {W' : World} (h : Dq B w0 d S v cs ys W) (hb : Below W.heap.size W W') : Dq B w0 d S v cs ys W' := by
  obtain ⟨O, h1, h2, h3, h4⟩ := h.ex
  exact ⟨⟨O, h1.keep (fun b q => hb.block b (h1.olt b q)) hb.size, h2, h3, fun c hc => ⟨isB_same (h4 c hc).1 (fun h0 b off q => hb.block b (isB_lt (h4 c hc).1 h0 q)) hb.size, (h4 c hc).2⟩⟩, h.row.keepAll hb, bel_tr h.below (bel_le hb h.size), Nat.le_trans h.size hb.size⟩
/-- another row of desks, all new -/
theorem Dq.rows {u : Value} {cs' : List De} {W' : World} (h : Dq B w0 d S v cs ys W) (hb : Below W.heap.size W W') (hJ : JR TK 3 W' W.heap.size u (cs'.map dcl)) : Dq B w0 d S u cs' ys W' := by
  have h' := h.bel hb
  obtain ⟨O, h1, h2, h3, h4⟩ := h.ex
  refine ⟨⟨O, h1.keep (fun b q => hb.block b (h1.olt b q)) hb.size, h2, fun g hg q => ?_, fun c hc => ⟨isB_same (h4 c hc).1 (fun h0 b off q => hb.block b (isB_lt (h4 c hc).1 h0 q)) hb.size, fun h0 b off q => ⟨((h4 c hc).2 h0 b off q).1, fun e => ?_⟩⟩⟩, hJ.lower h.size, h'.below, h'.size⟩
  · have := hJ.blk_ge g hg
    have := h1.olt g q
    omega
  · have := hJ.blk_ge b e
    have := isB_lt (h4 c hc).1 h0 q
    omega
/-- a desk more -/
theorem Dq.push (h : Dq B w0 d S v cs ys W) (c : De) {wx : World} (hwx : wx = W.alloc (.cells #[.string c.1.nm, .slice c.2.1 c.1.dat.length c.2.2, .int .i64 (c.1.las : Int)] TK)) (hl : cs.length ≤ 1099511627776) :
    ∃ g cap w5, (apO #[32, 32] 32 #[v, .slice (some ⟨W.heap.size, 0, none⟩) 1 1]).run Try.prog wx = .ok (.slice (some ⟨g, 0, none⟩) (cs.length + 1) cap) w5 ∧ Dq B w0 d S (.slice (some ⟨g, 0, none⟩) (cs.length + 1) cap) (cs ++ [c]) ys w5 := by
  obtain ⟨g, cap, w5, e1, h2, h3, h4, h5⟩ := push_is h.row h.size c hwx hl
  obtain ⟨O, k1, k2, k3, k4⟩ := h.ex
  refine ⟨g, cap, w5, e1, ⟨O, k1.keep (fun b q => h4 b (k1.olt b q) (fun e => k3 b e q)) (Below.size h3), k2, fun g' hg' q => ?_, fun c hc => ⟨isB_same (k4 c hc).1 (fun h0 b off q => h4 b (isB_lt (k4 c hc).1 h0 q) ((k4 c hc).2 h0 b off q).2) (Below.size h3), fun h0 b off q => ⟨((k4 c hc).2 h0 b off q).1, fun e => ?_⟩⟩⟩, h2, bel_tr h.below h3, Nat.le_trans h.size (Below.size h3)⟩
  · obtain rfl : g = g' := by simpa [Value.ownBlock] using hg'
    rcases h5 with h5 | h5
    · exact k3 g h5 q
    · have := k1.olt g q; omega
  · obtain rfl : g = b := by simpa [Value.ownBlock] using e
    rcases h5 with h5 | h5
    · exact ((k4 c hc).2 h0 g off q).2 h5
    · have := isB_lt (k4 c hc).1 h0 q; omega
/-- of other desks with the same bytes, or none -/
theorem Dq.weak {zs : List De} (h : Dq B w0 d S v cs ys W) (hz : ∀ c ∈ zs, (c.1.dat = [] ∧ c.2 = (none, 0)) ∨ ∃ x ∈ ys, x.1.dat = c.1.dat ∧ x.2 = c.2) : Dq B w0 d S v cs zs W := by
  obtain ⟨O, k1, k2, k3, k4⟩ := h.ex
  refine ⟨⟨O, k1, k2, k3, fun c hc => ?_⟩, h.row, h.below, h.size⟩
  rcases hz c hc with ⟨h1, h2⟩ | ⟨x, hx, h1, h2⟩
  · refine ⟨?_, fun h0 => absurd h1 h0⟩
    rw [h1, h2]
    exact isK_nil _ _ _ _ _
  · have := k4 x hx
    unfold Aw at this ⊢
    rw [← h1, ← h2]
    exact this
/-- bytes that were made behind all others -/
theorem Dq.add (h : Dq B w0 d S v cs ys W) {W' : World} (hb : Below W.heap.size W W') {c : De} (hJ : JB W' W.heap.size (.slice c.2.1 c.1.dat.length c.2.2) c.1.dat) : Dq B w0 d S v cs (c :: ys) W' := by
  have h' := h.bel hb
  obtain ⟨O, h1, h2, h3, h4⟩ := h.ex
  refine ⟨⟨O, h1.keep (fun b q => hb.block b (h1.olt b q)) hb.size, h2, h3, fun x hx => ?_⟩, h'.row, h'.below, h'.size⟩
  rcases List.mem_cons.1 hx with rfl | hx
  · refine ⟨hJ.isB, fun h0 b off q => ?_⟩
    have hge : W.heap.size ≤ b := by
      obtain ⟨_, _, ⟨e, _⟩ | ⟨g, cap, cur, e, hg, _⟩⟩ := hJ
      · rw [q] at e; cases e
      · rw [q] at e
        injection e with e _ _
        injection e with e
        injection e with e
        rw [e]; exact hg
    exact ⟨fun e => by have := h1.olt b e; omega, fun e => by have := h.row.blk_lt b e; omega⟩
  · exact ⟨isB_same (h4 x hx).1 (fun h0 b off q => hb.block b (isB_lt (h4 x hx).1 h0 q)) hb.size, (h4 x hx).2⟩
theorem Dq.addB (h : Dq B w0 d S v cs ys W) {W' : World} (hb : Below W.heap.size W W') {c : De} (hI : IsB W' (.slice c.2.1 c.1.dat.length c.2.2) c.1.dat) (hge : ∀ b off, c.2.1 = some ⟨b, off, none⟩ → W.heap.size ≤ b) : Dq B w0 d S v cs (c :: ys) W' := by
  have h' := h.bel hb
  obtain ⟨O, h1, h2, h3, h4⟩ := h.ex
  refine ⟨⟨O, h1.keep (fun b q => hb.block b (h1.olt b q)) hb.size, h2, h3, fun x hx => ?_⟩, h'.row, h'.below, h'.size⟩
  rcases List.mem_cons.1 hx with rfl | hx
  · refine ⟨hI, fun h0 b off q => ?_⟩
    have hge := hge b off q
    exact ⟨fun e => by have := h1.olt b e; omega, fun e => by have := h.row.blk_lt b e; omega⟩
  · exact ⟨isB_same (h4 x hx).1 (fun h0 b off q => hb.block b (isB_lt (h4 x hx).1 h0 q)) hb.size, (h4 x hx).2⟩
theorem Dq.byt (h : Dq B w0 d S v cs ys W) {c : De} (hc : c ∈ ys) : IsB W (.slice c.2.1 c.1.dat.length c.2.2) c.1.dat := by
  obtain ⟨O, h1, h2, h3, h4⟩ := h.ex
  exact (h4 c hc).1
theorem flat_set3 (u : Value) : ∀ (ls : List De) (k j : Nat), k < ls.length → j < 3 → (ls.map dcl).flatten.set (k * 3 + j) u = ((ls.map dcl).set k ((dcl (ls.getD k (⟨ByteArray.empty, [], 0⟩, none, 0))).set j u)).flatten := by
  intro ls
  induction ls with
  | nil => intro k j h; simp at h
  | cons a t ih =>
    intro k j hk hj
    cases k with
    | zero =>
      obtain rfl | rfl | rfl : j = 0 ∨ j = 1 ∨ j = 2 := by omega
      · simp [dcl]
      · simp [dcl]
      · simp [dcl]
    | succ k =>
      have := ih k j (by simpa using hk) hj
      rw [show (k + 1) * 3 + j = (k * 3 + j) + 1 + 1 + 1 by omega]
      simp only [List.map_cons, List.flatten_cons, dcl, List.cons_append, List.nil_append, List.set_cons_succ]
      simp only [List.getD_cons_succ]
      simp only [dcl] at this
      rw [this]
theorem row_set {w : World} {base g p : Nat} {E : TypeId} {sz n cap : Nat} {xs : List Value} (h : w.ownsRow base E sz (.slice (some ⟨g, 0, none⟩) n cap) n xs) {u : Value} : (w.setCell ⟨g, p, none⟩ u).ownsRow base E sz (.slice (some ⟨g, 0, none⟩) n cap) n (xs.set p u) := by
  obtain ⟨h0, ⟨h, _⟩ | ⟨g', cap', cur, h, hb, hh, hl, hm, hc, ht⟩⟩ := h
  · cases h
  · injection h with h1 h2 h3
    injection h1 with h1
    injection h1 with h1
    subst h1 h3
    refine ⟨by rw [List.length_set]; exact h0, .inr ⟨g, cap, cur.setIfInBounds p u, rfl, hb, ?_, hl, hm, by rw [Array.size_setIfInBounds]; exact hc, ?_⟩⟩
    · have hlt := (Array.getElem?_eq_some_iff.1 hh).1
      have h' : w.heap[g] = .cells cur E (0, 0) := by simpa [Array.getElem?_eq_getElem hlt] using hh
      show (w.heap.modify g _)[g]? = _
      rw [Array.getElem?_eq_getElem (by simpa using hlt), Array.getElem_modify_self, h']
      rfl
    · rw [Array.toList_setIfInBounds, List.take_set, ht]
/-- one cell of a desk is written -/
theorem Dq.set {g n c k j : Nat} {x x' : De} {u : Value} (h : Dq B w0 d S (.slice (some ⟨g, 0, none⟩) n c) cs ys W) (hk : cs[k]? = some x) (hj : j < 3) (hx : (dcl x).set j u = dcl x') : Dq B w0 d S (.slice (some ⟨g, 0, none⟩) n c) (cs.set k x') ys (W.setCell ⟨g, k * 3 + j, none⟩ u) := by
  obtain ⟨O, k1, k2, k3, k4⟩ := h.ex
  have hkl := (List.getElem?_eq_some_iff.1 hk).1
  have hgO := k3 g rfl
  have hn : n = cs.length := by
    obtain ⟨a, c', e, _⟩ := h.row.shape
    rw [List.length_map] at e
    injection e
  have hkp : ∀ b, b ≠ g → (W.setCell ⟨g, k * 3 + j, none⟩ u).heap[b]? = W.heap[b]? := fun b hb => set_heap _ _ _ b _ hb
  refine ⟨⟨O, k1.keep (fun b q => hkp b (fun e => hgO (e ▸ q))) (Nat.le_of_eq (set_size _ _ _ _).symm), k2, k3, fun y hy => ⟨isB_same (k4 y hy).1 (fun h0 b off q => hkp b fun e => ((k4 y hy).2 h0 b off q).2 (by rw [e]; rfl)) (Nat.le_of_eq (set_size _ _ _ _).symm), (k4 y hy).2⟩⟩, ⟨fun r hr => ?_, ?_⟩, ?_, ?_⟩
  · obtain ⟨y, _, rfl⟩ := List.mem_map.1 hr
    exact ⟨rfl, dcl_one⟩
  · have h2 := h.row.2
    rw [List.length_map, ← hn] at h2
    have h3 := row_set (p := k * 3 + j) (u := u) h2
    rw [flat_set3 u cs k j hkl hj, List.getD_eq_getElem?_getD, hk, Option.getD_some, hx] at h3
    rw [List.length_map, List.length_set, ← hn, List.map_set]
    exact h3
  · exact h.below.setCell (p := ⟨g, k * 3 + j, none⟩) (h.row.blk_ge g rfl) _
  · exact Nat.le_trans h.size (Nat.le_of_eq (set_size _ _ _ _).symm)
end
end Tl
end Go.Proofs.Ytpjfoinkifkdoaa
