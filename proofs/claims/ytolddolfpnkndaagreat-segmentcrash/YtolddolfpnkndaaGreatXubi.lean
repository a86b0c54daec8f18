/-
  ROWS OF STRUCTS OF THE CALL'S OWN ('JR': elements of sz cells each): 'append' of one more as a law for the walk, within a fence and without; what is read at a place.
  THE WALK OF THE LAW'S written: all lines are put, their places gathered.
  THE WALK OF escape.Next: bytes.IndexByte by the library's contract, laid at this program's numbers.
-/
import Derived.Test.YtolddolfpnkndaaGreatXubh
import Derived.Test.YtolddolfpnkndaaGreatXubg
import Derived.Test.YtolddolfpnkndaaGreatXuau
import Derived.Shelf.Bytes.IndexByte
namespace Go.Proofs.YtolddolfpnkndaaGreat
open Go.RowKit Go.Shelf
namespace Vt
/-- a row of the call's own, of elements of sz cells each: nil where there is none -/
def JR (E : TypeId) (sz : Nat) (w : World) (base : Nat) (v : Value) (ls : List (List Value)) : Prop := (∀ r ∈ ls, r.length = sz ∧ ∀ u ∈ r, u.oneCell' = true) ∧ w.ownsRow base E sz v ls.length ls.flatten
section
variable {E : TypeId} {sz : Nat}
theorem jr_nil (w : World) (base : Nat) : JR E sz w base (.slice none 0 0) [] := ⟨by simp, by simp, .inl ⟨rfl, rfl⟩⟩
theorem JR.shape {w : World} {base : Nat} {v : Value} {l : List (List Value)} (h : JR E sz w base v l) : ∃ a c, v = .slice a l.length c ∧ l.length ≤ c := by
  rcases h.2.2 with ⟨rfl, e⟩ | ⟨g, cap, cur, rfl, _, _, hl, _⟩
  · exact ⟨none, 0, by rw [e], by omega⟩
  · exact ⟨_, cap, rfl, hl⟩
theorem JR.blk_lt {w : World} {base : Nat} {v : Value} {l : List (List Value)} (h : JR E sz w base v l) : ∀ g, v.ownBlock = some g → g < w.heap.size := by
  intro g hg
  obtain ⟨_, _, ⟨rfl, e⟩ | ⟨g', cap', cur, rfl, hbs, hh, hr⟩⟩ := h
  · cases hg
  · cases hg
    exact (Array.getElem?_eq_some_iff.1 hh).1
theorem JR.blk_ge {w : World} {base : Nat} {v : Value} {l : List (List Value)} (h : JR E sz w base v l) : ∀ g, v.ownBlock = some g → base ≤ g := by
  intro g hg
  obtain ⟨_, _, ⟨rfl, e⟩ | ⟨g', cap', cur, rfl, hbs, hh, hr⟩⟩ := h
  · cases hg
  · cases hg
    exact hbs
theorem JR.keep {w w' : World} {base n : Nat} {v : Value} {l : List (List Value)} (h : JR E sz w base v l) (hk : ∀ g, v.ownBlock = some g → g < n) (hb : Below n w w') : JR E sz w' base v l := by
  obtain ⟨h1, h0, ⟨rfl, e⟩ | ⟨g', cap', cur, rfl, hbs, hh, hr⟩⟩ := h
  · exact ⟨h1, h0, .inl ⟨rfl, e⟩⟩
  · refine ⟨h1, h0, .inr ⟨g', cap', cur, rfl, hbs, ?_, hr⟩⟩
    rw [hb.block g' (hk g' rfl)]; exact hh
theorem JR.keepAll {w w' : World} {base : Nat} {v : Value} {l : List (List Value)} (h : JR E sz w base v l) (hb : Below w.heap.size w w') : JR E sz w' base v l := h.keep h.blk_lt hb
theorem JR.alloc {w : World} {base : Nat} {v : Value} {l : List (List Value)} (h : JR E sz w base v l) (o : Obj) : JR E sz (w.alloc o) base v l := h.keepAll ((Below.refl _ _).alloc (Nat.le_refl _) _)
theorem JR.rebase {w : World} {base base' : Nat} {v : Value} {l : List (List Value)} (h : JR E sz w base v l) (hb : ∀ g, v.ownBlock = some g → base' ≤ g) : JR E sz w base' v l := by
  obtain ⟨h1, h0, ⟨rfl, e⟩ | ⟨g', cap', cur, rfl, hbs, hh, hr⟩⟩ := h
  · exact ⟨h1, h0, .inl ⟨rfl, e⟩⟩
  · exact ⟨h1, h0, .inr ⟨g', cap', cur, rfl, hb g' rfl, hh, hr⟩⟩
theorem JR.lower {w : World} {base base' : Nat} {v : Value} {l : List (List Value)} (h : JR E sz w base v l) (hb : base' ≤ base) : JR E sz w base' v l := h.rebase fun g hg => Nat.le_trans hb (h.blk_ge g hg)
theorem JR.grownO {w w' : World} {base : Nat} {row : Option Nat} {v : Value} {l : List (List Value)} (h : JR E sz w base v l) (hg : w.grownBy w' row) (hne : ∀ g, v.ownBlock = some g → some g ≠ row) : JR E sz w' base v l := by
  obtain ⟨h1, h0, ⟨rfl, e⟩ | ⟨g', cap', cur, rfl, hbs, hh, hr⟩⟩ := h
  · exact ⟨h1, h0, .inl ⟨rfl, e⟩⟩
  · refine ⟨h1, h0, .inr ⟨g', cap', cur, rfl, hbs, ?_, hr⟩⟩
    rw [hg.block g' (Array.getElem?_eq_some_iff.1 hh).1 (hne g' rfl)]; exact hh
theorem JR.setO {w : World} {base : Nat} {v : Value} {l : List (List Value)} (h : JR E sz w base v l) {p : Addr} (hne : ∀ g, v.ownBlock = some g → g ≠ p.block) (u : Value) : JR E sz (w.setCell p u) base v l := by
  obtain ⟨h1, h0, ⟨rfl, e⟩ | ⟨g', cap', cur, rfl, hbs, hh, hr⟩⟩ := h
  · exact ⟨h1, h0, .inl ⟨rfl, e⟩⟩
  · refine ⟨h1, h0, .inr ⟨g', cap', cur, rfl, hbs, ?_, hr⟩⟩
    have := hne g' rfl
    rw [← hh]
    show (w.heap.modify p.block _)[g']? = _
    rw [Array.getElem?_modify, if_neg (fun e => this e.symm)]
theorem JR.drew {w : World} {base : Nat} {v : Value} {l : List (List Value)} (h : JR E sz w base v l) : JR E sz w.drew base v l := h
theorem JR.drewN {w : World} {base : Nat} {v : Value} {l : List (List Value)} (h : JR E sz w base v l) (n : Nat) : JR E sz (w.drewN n) base v l := h
theorem flat_at {ls : List (List Value)} (h : ∀ r ∈ ls, r.length = sz) : ∀ (k : Nat) (r : List Value) (j : Nat), ls[k]? = some r → j < sz → ls.flatten[k * sz + j]? = r[j]? := by
  induction ls with
  | nil => intro k r j hk; simp at hk
  | cons a q ih =>
    intro k r j hk hj
    have ha := h a List.mem_cons_self
    rw [List.flatten_cons]
    cases k with
    | zero =>
      simp at hk
      subst hk
      rw [Nat.zero_mul, Nat.zero_add, List.getElem?_append_left (by omega)]
    | succ k =>
      rw [List.getElem?_cons_succ] at hk
      rw [List.getElem?_append_right (by rw [ha, Nat.succ_mul]; omega), ha, show (k + 1) * sz + j - sz = k * sz + j by rw [Nat.succ_mul]; omega]
      exact ih (fun r hr => h r (List.mem_cons_of_mem _ hr)) k r j hk hj
/-- what stands at a place -/
theorem JR.at {w : World} {base g : Nat} {n c : Nat} {l : List (List Value)} (h : JR E sz w base (.slice (some ⟨g, 0, none⟩) n c) l) (k : Nat) (r : List Value) (j : Nat) (u : Value) (hk : l[k]? = some r) (hu : r[j]? = some u) : w.cell? ⟨g, k * sz + j, none⟩ = some u := by
  obtain ⟨h1, h0, ⟨e, _⟩ | ⟨g', cap', cur, e, hbs, hh, h3, h4, h5, h6⟩⟩ := h
  · cases e
  · injection e with e1 e2 e3
    injection e1 with e1
    injection e1 with e1
    subst e1
    have hr : r.length = sz := (h1 r (List.mem_of_getElem? hk)).1
    have hj : j < sz := by have := (List.getElem?_eq_some_iff.1 hu).1; omega
    have hf := flat_at (fun r hr => (h1 r hr).1) k r j hk hj
    rw [hu, ← h6] at hf
    simp only [World.cell?, hh]
    rw [List.getElem?_take] at hf
    split at hf
    · simpa using hf
    · cases hf
theorem JR.nn {w : World} {base : Nat} {v : Value} {l : List (List Value)} (h : JR E sz w base v l) (hl : l ≠ []) : ∃ g c, v = .slice (some ⟨g, 0, none⟩) l.length c ∧ l.length ≤ c ∧ c ≤ maxLen := by
  obtain ⟨h1, h0, ⟨e, h⟩ | ⟨g', cap', cur, e, hbs, hh, h3, h4, h5, h6⟩⟩ := h
  · exact absurd (List.length_eq_zero_iff.1 h) hl
  · exact ⟨g', cap', e, h3, h4⟩
/-- a turn of what is no cells leaves the row -/
theorem JR.kept {w w' : World} {base : Nat} {row : Option Nat} {v : Value} {l : List (List Value)} (h : JR E sz w base v l) (hg : w.grownBy w' row) (hr : ∀ r, row = some r → ∃ o : Obj, w.heap[r]? = some o ∧ o.isCells = false) : JR E sz w' base v l := by
  refine h.grownO hg fun g hgb e => ?_
  obtain ⟨o, ho, hc⟩ := hr g e.symm
  obtain ⟨_, _, ⟨rfl, _⟩ | ⟨g', cap', cur, rfl, hbs, hh, _⟩⟩ := h
  · cases hgb
  · cases hgb
    have : some o = some (.cells cur E (0, 0)) := ho.symm.trans hh
    injection this with this
    rw [this] at hc
    cases hc
theorem JR.not_blk {W : World} {O base : Nat} {t : TypeId} {cs : List Value} {v : Value} {l : List (List Value)} (hr : JR E sz W base v l) (h : Blk W O t cs) (hte : t ≠ E) : some O ≠ v.ownBlock := by
  intro e
  obtain ⟨_, _, ⟨rfl, _⟩ | ⟨g', cap', cur, rfl, _, hh, _⟩⟩ := hr
  · cases e
  · injection e with e
    have e' : O = g' := e
    subst e'
    have h' : W.heap[O]? = some (.cells cs.toArray t (0, 0)) := h
    rw [h'] at hh
    injection hh with hh
    injection hh with _ hh
    exact hte hh
theorem JR.not_box {W : World} {B base : Nat} {t : TypeId} {u v : Value} {l : List (List Value)} (hr : JR E sz W base v l) (h : Boxed W B t u) (hte : t ≠ E) : some B ≠ v.ownBlock := JR.not_blk (cs := [u]) hr h hte
/-- what was put behind a row is cells: all else lies as it lay -/
theorem JR.others {W W' : World} {base : Nat} {v : Value} {l : List (List Value)} (h : JR E sz W base v l) (hg : W.grownBy W' v.ownBlock) : KeepsOthers W W' := by
  refine ⟨hg.size, fun i o hi ho => ?_⟩
  rw [hg.block i (Array.getElem?_eq_some_iff.1 hi).1 ?_]
  · exact hi
  · intro e
    obtain ⟨_, _, ⟨rfl, _⟩ | ⟨g', cap', cur, rfl, _, hh, _⟩⟩ := h
    · cases e
    · have e' : i = g' := by injection e
      subst e'
      rw [hi] at hh
      injection hh with hh
      rw [hh] at ho
      cases ho
variable {S : TypeId} {by_ : Nat} {z : Value}
/-- one more is put behind: r its cells, which lie in a block of their own -/
theorem run_append_jr (hS : Tryz.prog.underlying S = some (.slice E)) (hE : (Tryz.prog.info? E).map (fun i => (i.zero, i.size, i.bytes)) = some (some z, sz, by_)) (hz : z.cells.size = sz) (hsz : 0 < sz) (ty : TypeId) (w : World) (base : Nat) (v : Value) (l : List (List Value)) (hJ : JR E sz w base v l) (g c : Nat) (r : List Value) (hr : r.length = sz) (h1 : ∀ u ∈ r, u.oneCell' = true) (hc : ∀ j u, r[j]? = some u → w.cell? ⟨g, j, none⟩ = some u) (hb : (l.length + 1) * by_ ≤ 140737488355328) (hb2 : l.length + 1 ≤ maxLen) (hbase : base ≤ w.heap.size) :
    ∃ g' cap w', (Builtin.append_ #[S, S] ty #[v, .slice (some ⟨g, 0, none⟩) 1 c]).run Tryz.prog w = .ok (.slice (some ⟨g', 0, none⟩) (l.length + 1) cap) w' ∧ JR E sz w' base (.slice (some ⟨g', 0, none⟩) (l.length + 1) cap) (l ++ [r]) ∧ w.grownBy w' v.ownBlock ∧ (v.ownBlock = some g' ∨ g' = w.heap.size) := by
  obtain ⟨i0, hi, hz0, hz1, hz2⟩ := info_parts hE
  obtain ⟨g', cap, w', e1, h2, h3, h4, _⟩ := run_append_lies (P := Tryz.prog) w S ty base E i0 z sz by_ hS hi hz0 hz1 hz2 hz hsz v l.length l.flatten hJ.2 ⟨g, 0, none⟩ 1 c r (by omega) (fun j u hu => by
    have := hc j u hu
    rw [add_at, Nat.zero_add]; exact this) h1 (by omega) hb2 hb hbase w.heap.size rfl
  refine ⟨g', cap, w', e1, ⟨?_, ?_⟩, h3, h4⟩
  · intro q hq
    rcases List.mem_append.1 hq with hq | hq
    · exact hJ.1 q hq
    · rw [List.mem_singleton] at hq; subst hq; exact ⟨hr, h1⟩
  · rw [List.length_append, List.length_singleton, List.flatten_append, List.flatten_singleton]; exact h2
theorem wpListIn_append_jr {F : Fence} {d : Nat} (hS : Tryz.prog.underlying S = some (.slice E)) (hE : (Tryz.prog.info? E).map (fun i => (i.zero, i.size, i.bytes)) = some (some z, sz, by_)) (hz : z.cells.size = sz) (hsz : 0 < sz) (w : World) {ops : Array Oper} {rest : List Oper} {o : Oper} {a : Act} {Q : Exit → Act → World → Prop} (hgd : o.guard = none) (s x : Operand)
    (ho : o.op = .call { callee := .builtin .append, args := #[s, x], argTypes := #[S, S] })
    (base : Nat) (v : Value) (l : List (List Value)) (g c : Nat) (r : List Value) (hs : a.eval s = v) (hx : a.eval x = .slice (some ⟨g, 0, none⟩) 1 c) (hJ : JR E sz w base v l) (hr : r.length = sz) (h1 : ∀ u ∈ r, u.oneCell' = true) (hc : ∀ j u, r[j]? = some u → w.cell? ⟨g, j, none⟩ = some u) (n : Nat) (hn : l.length + 1 = n) (hb : n * by_ ≤ 140737488355328) (hb2 : n ≤ maxLen) (hbase : base ≤ w.heap.size)
    (h : ∀ g' cap w', JR E sz w' base (.slice (some ⟨g', 0, none⟩) n cap) (l ++ [r]) → w.grownBy w' v.ownBlock → (v.ownBlock = some g' ∨ g' = w.heap.size) → wpListIn F d Tryz.prog ops Q rest (a.put o.dst (.slice (some ⟨g', 0, none⟩) n cap)) w') : wpListIn F d Tryz.prog ops Q (o :: rest) a w := by
  subst hn
  refine wpListIn_plain hgd fun K hK => ?_
  obtain ⟨a', cap, w', hrr, h2, h3, h4⟩ := run_append_jr hS hE hz hsz o.type w base v l hJ g c r hr h1 hc hb hb2 hbase
  unfold Oper.wpIn
  refine ⟨?_, ?_⟩
  · simp [Oper.about, ho, resolve, Target.leads, Sem.run_pure]
  · rw [Oper.semAt_plain F _ _ (by rw [ho]; intro c hc'; cases hc')]
    simp [execOp, ho, resolve, invoke, builtin, hs, hx, hrr, Result.andThen]
    exact hK _ _ (h a' cap w' h2 h3 h4)
theorem wpList_append_jr (hS : Tryz.prog.underlying S = some (.slice E)) (hE : (Tryz.prog.info? E).map (fun i => (i.zero, i.size, i.bytes)) = some (some z, sz, by_)) (hz : z.cells.size = sz) (hsz : 0 < sz) (w : World) {ops : Array Oper} {rest : List Oper} {o : Oper} {a : Act} {Q : Exit → Act → World → Prop} (hgd : o.guard = none) (s x : Operand)
    (ho : o.op = .call { callee := .builtin .append, args := #[s, x], argTypes := #[S, S] })
    (base : Nat) (v : Value) (l : List (List Value)) (g c : Nat) (r : List Value) (hs : a.eval s = v) (hx : a.eval x = .slice (some ⟨g, 0, none⟩) 1 c) (hJ : JR E sz w base v l) (hr : r.length = sz) (h1 : ∀ u ∈ r, u.oneCell' = true) (hc : ∀ j u, r[j]? = some u → w.cell? ⟨g, j, none⟩ = some u) (n : Nat) (hn : l.length + 1 = n) (hb : n * by_ ≤ 140737488355328) (hb2 : n ≤ maxLen) (hbase : base ≤ w.heap.size)
    (h : ∀ g' cap w', JR E sz w' base (.slice (some ⟨g', 0, none⟩) n cap) (l ++ [r]) → w.grownBy w' v.ownBlock → (v.ownBlock = some g' ∨ g' = w.heap.size) → wpList Tryz.prog ops Q rest (a.put o.dst (.slice (some ⟨g', 0, none⟩) n cap)) w') : wpList Tryz.prog ops Q (o :: rest) a w := by
  subst hn
  refine wpList_plain hgd fun K hK => ?_
  obtain ⟨a', cap, w', hrr, h2, h3, h4⟩ := run_append_jr hS hE hz hsz o.type w base v l hJ g c r hr h1 hc hb hb2 hbase
  unfold Oper.wp execOp
  simp only [ho, resolve, invoke, builtin, Sem.run_bind, Sem.run_pure, Result.andThen_ok, List.map_toArray, List.map_cons, List.map_nil, hs, hx, hrr]
  exact hK _ _ (h a' cap w' h2 h3 h4)
end
end Vt
end Go.Proofs.YtolddolfpnkndaaGreat
namespace Go.Proofs.YtolddolfpnkndaaGreat
open Go.RowKit Go.Maps Go.Sort
namespace Sg
open Vt Dk
attribute [local go_sem ↓] append_hid
abbrev TLn : TypeId := 40
/-- lines that came in -/
def IsL (B : Nat) (w : World) (v : Value) (ls : List Ln) : Prop :=
  (∀ l ∈ ls, l.key.size ≤ 140737488355328 ∧ l.val.size ≤ maxLen) ∧ ls.length ≤ 140737488355328 ∧ ((ls = [] ∧ ∃ a c, v = .slice a 0 c) ∨ ∃ b off c, v = .slice (some ⟨b, off, none⟩) ls.length c ∧ b < B ∧ ∀ k l, ls[k]? = some l → ∀ j u, (lnv l)[j]? = some u → w.cell? ⟨b, off + k * 4 + j, none⟩ = some u)
theorem IsL.shape {B : Nat} {w : World} {v : Value} {ls : List Ln} (h : IsL B w v ls) : ∃ a c, v = .slice a ls.length c := by
  obtain ⟨_, _, ⟨rfl, a, c, rfl⟩ | ⟨b, off, c, rfl, _⟩⟩ := h
  · exact ⟨a, c, rfl⟩
  · exact ⟨_, c, rfl⟩
theorem IsL.below {B : Nat} {w w' : World} {v : Value} {ls : List Ln} (h : IsL B w v ls) (hb : Below B w w') : IsL B w' v ls := by
  obtain ⟨h1, h2, ⟨rfl, a, c, rfl⟩ | ⟨b, off, c, rfl, h3, h4⟩⟩ := h
  · exact ⟨h1, h2, .inl ⟨rfl, a, c, rfl⟩⟩
  · exact ⟨h1, h2, .inr ⟨b, off, c, rfl, h3, fun k l hk j u hu => (hb.cell h3).trans (h4 k l hk j u hu)⟩⟩
theorem IsL.at {B : Nat} {w : World} {a : Option Addr} {n c k : Nat} {ls : List Ln} (h : IsL B w (.slice a n c) ls) (hk : k < ls.length) : ∃ b off l, a = some ⟨b, off, none⟩ ∧ ls[k]? = some l ∧ ls.getD k zl = l ∧ l.key.size ≤ 140737488355328 ∧ l.val.size ≤ maxLen ∧ w.cell? ⟨b, off + k * 4, none⟩ = some (.string l.key) ∧ w.cell? ⟨b, off + k * 4 + 1, none⟩ = some (.string l.val) ∧ w.cell? ⟨b, off + k * 4 + 2, none⟩ = some (.bool l.gone) ∧ w.cell? ⟨b, off + k * 4 + 3, none⟩ = some (.bool l.syn) := by
  obtain ⟨h1, h2, ⟨rfl, _, _, e⟩ | ⟨b, off, c', e, h3, h4⟩⟩ := h
  · simp at hk
  · injection e with e1 e2 e3
    have hg : ls[k]? = some ls[k] := List.getElem?_eq_getElem hk
    have hm := h1 _ (List.getElem_mem hk)
    exact ⟨b, off, ls[k], e1, hg, by rw [List.getD_eq_getElem?_getD, hg]; rfl, hm.1, hm.2, h4 k _ hg 0 _ rfl, h4 k _ hg 1 _ rfl, h4 k _ hg 2 _ rfl, h4 k _ hg 3 _ rfl⟩
theorem jr_same {E : TypeId} {sz : Nat} {w w' : World} {base : Nat} {v : Value} {l : List (List Value)} (h : JR E sz w base v l) (hb : ∀ g, v.ownBlock = some g → w'.heap[g]? = w.heap[g]?) : JR E sz w' base v l := by
  obtain ⟨h0, h1, ⟨h2, h3⟩ | ⟨g, cap, cur, h2, h3, h4, h5⟩⟩ := h
  · exact ⟨h0, h1, .inl ⟨h2, h3⟩⟩
  · exact ⟨h0, h1, .inr ⟨g, cap, cur, h2, h3, (hb g (by rw [h2]; rfl)).trans h4, h5⟩⟩
theorem WK.grown {w w' : World} {b d : Nat} {O : Nat → Prop} {W : Ws} {S : Ds} (h : WK w b d O W S) {row : Option Nat} (hg : w.grownBy w' row) (hn : ∀ r, row = some r → ¬ O r ∧ r ≠ b) : WK w' b d O W S :=
  ⟨h.1.keep (fun x q => hg.block x (h.1.olt x q) (fun e => (hn x e.symm).1 q)) hg.size, (hg.block b h.lt (fun e => (hn b e.symm).2 rfl)).trans h.2.1, h.2.2⟩
def plC (p : Nat × Nat × Nat) : List Value := [.int .u32 (p.1 : Int), .int .i64 (p.2.1 : Int), .int .i64 (p.2.2 : Int)]
theorem info_pl : (Tryz.prog.info? TPl).map (fun i => (i.zero, i.size, i.bytes)) = some (some (.agg #[.int .u32 0, .int .i64 0, .int .i64 0]), 3, 24) := by kernel_rfl
/-- what stands in memory behind k lines -/
structure Wq (B : Nat) (w : World) (b d : Nat) (ls : List Ln) (X : Ws × Ds) (k : Nat) (v : Value) (wq : World) : Prop where
  ex : ∃ O, WK wq b d O (sat ls X k).1 (sat ls X k).2 ∧ (∀ x, O x → B ≤ x) ∧ ∀ g, v.ownBlock = some g → ¬ O g ∧ g ≠ b
  row : JR TPl 3 wq B v ((pls ls X k).map plC)
  bel : Below B w wq
  le : B ≤ b
theorem Wq.bels {B : Nat} {w : World} {b d : Nat} {ls : List Ln} {X : Ws × Ds} {k : Nat} {v : Value} {wq w' : World} (h : Wq B w b d ls X k v wq) (hb : Below wq.heap.size wq w') (hB : B ≤ wq.heap.size) : Wq B w b d ls X k v w' := by
  obtain ⟨O, h1, h2, h3⟩ := h.ex
  exact ⟨⟨O, h1.below hb, h2, h3⟩, h.row.keepAll hb, h.bel.trans (hb.mono hB), h.le⟩
/-- what a Put, and a Sync if it is asked for, leave of it -/
theorem Wq.put {B : Nat} {w : World} {b d : Nat} {ls : List Ln} {X : Ws × Ds} {k : Nat} {v : Value} {wq : World} (h : Wq B w b d ls X k v wq) {lim evy : Nat} (hok : Ok lim evy k (sat ls X k)) (hk : k < 60) (l : Ln) (hB : B ≤ wq.heap.size) :
    Calls Tryz.prog 9 #[.pointer (some ⟨b, 0, none⟩), .agg (rv (lnR l k))] wq fun e w' => e = .returned (.tuple #[.agg #[.int .u32 ((plc l k (sat ls X k)).1 : Int), .int .i64 ((plc l k (sat ls X k)).2.1 : Int), .int .i64 ((plc l k (sat ls X k)).2.2 : Int)], .int .i64 0]) ∧ (∃ O, WK w' b d O (pt (sat ls X k).1 (sat ls X k).2 (fB l k)).2.1 (pt (sat ls X k).1 (sat ls X k).2 (fB l k)).2.2 ∧ (∀ x, O x → B ≤ x) ∧ ∀ g, v.ownBlock = some g → ¬ O g ∧ g ≠ b) ∧ JR TPl 3 w' B v ((pls ls X k).map plC) ∧ Below B w w' ∧ B ≤ w'.heap.size := by
  obtain ⟨O, h1, h2, h3⟩ := h.ex
  obtain ⟨s1, s2, s3, s4, s5, s6, _⟩ := hok.step hk l
  have hfl := lnR_len l k (by omega)
  have hop : (sat ls X k).1.op = true := by rcases hok.at_ with ⟨_, q⟩ | ⟨_, _, _, _, q, _⟩ <;> exact q.op
  have hnum : (sat ls X k).1.num ≠ 0 → Nam.Nu (sat ls X k).1.num := by
    rcases hok.at_ with ⟨_, q⟩ | ⟨_, o, c, s, q, q2, _, _⟩
    · intro e; exact absurd q.num e
    · intro _; rw [q.num]; exact ⟨by omega, by omega⟩
  have hun : (sat ls X k).1.uns ≠ 0 → (sat ls X k).1.num ≠ 0 := by
    rcases hok.at_ with ⟨_, q⟩ | ⟨_, o, c, s, q, q2, _, _⟩
    · intro e; exact absurd q.uns e
    · intro _; rw [q.num]; omega
  have hla : (sat ls X k).1.laid < 1000000000 := by
    rcases hok.at_ with ⟨_, q⟩ | ⟨_, o, c, s, q, q2, q3, _⟩
    · rw [q.laid]; omega
    · rw [q.laid]; omega
  refine (put_is wq b d O _ _ (lnR l k) h1 hop (by have := hok.acts; omega) hnum hun (lnR_wf l k (by omega)) (lnR_rf l k) hla (by omega) (by have := hok.uns; omega)).mono ?_
  rintro e w' ⟨rfl, O', k1, k2, k3⟩
  have hs1 : (pt (sat ls X k).1 (sat ls X k).2 (en (ofR (lnR l k)))).1 = 0 := s1
  refine ⟨?_, ⟨O', k1, fun x q => (k3 x q).elim (h2 x) (fun q => Nat.le_trans hB q), fun g hg => ⟨fun q => (k3 g q).elim (h3 g hg).1 (fun q => by have := h.row.blk_lt g hg; omega), (h3 g hg).2⟩⟩, ?_, ?_, Nat.le_trans hB k2.size⟩
  · rw [if_pos hs1, hs1]; rfl
  · exact jr_same h.row fun g hg => k2.block g (h.row.blk_lt g hg) (fun q => q.elim (h3 g hg).1 (h3 g hg).2)
  · exact h.bel.trans (k2.below (fun x q => q.elim (h2 x) (fun e => by rw [e]; exact h.le)) hB)
theorem ex_app {B : Nat} {w3 w4 w5 : World} {b d : Nat} {W : Ws} {S : Ds} {v : Value} {g' n cap : Nat} (hB4 : Below w3.heap.size w3 w4) (hex : ∃ O, WK w3 b d O W S ∧ (∀ x, O x → B ≤ x) ∧ ∀ g, v.ownBlock = some g → ¬ O g ∧ g ≠ b) (hg : w4.grownBy w5 v.ownBlock) (ho : v.ownBlock = some g' ∨ g' = w4.heap.size) :
    ∃ O, WK w5 b d O W S ∧ (∀ x, O x → B ≤ x) ∧ ∀ g, (Value.slice (some ⟨g', 0, none⟩) n cap).ownBlock = some g → ¬ O g ∧ g ≠ b := by
  obtain ⟨O, h1, h2, h3⟩ := hex
  have h4 := h1.below hB4
  refine ⟨O, h4.grown hg h3, h2, fun g e => ?_⟩
  have e' : g' = g := by injection e
  subst e'
  rcases ho with ho | ho
  · exact h3 _ ho
  · rw [ho]
    exact ⟨fun q => by have := h4.1.olt _ q; omega, by have := h4.lt; omega⟩
theorem app_all {B : Nat} {w w3 w5 : World} {b d : Nat} {W : Ws} {S : Ds} {v : Value} {g' n cap : Nat} {l : List (List Value)} {A A' : Obj} (hex : ∃ O, WK w3 b d O W S ∧ (∀ x, O x → B ≤ x) ∧ ∀ g, v.ownBlock = some g → ¬ O g ∧ g ≠ b) (hrow : JR TPl 3 w3 B v l) (hbel : Below B w w3) (hB : B ≤ w3.heap.size) (hg : ((w3.alloc A).alloc A').grownBy w5 v.ownBlock) (ho : v.ownBlock = some g' ∨ g' = ((w3.alloc A).alloc A').heap.size) :
    (∃ O, WK w5 b d O W S ∧ (∀ x, O x → B ≤ x) ∧ ∀ g, (Value.slice (some ⟨g', 0, none⟩) n cap).ownBlock = some g → ¬ O g ∧ g ≠ b) ∧ Below B w w5 ∧ B ≤ w5.heap.size := by
  have hb4 := below_two w3 A A'
  have h4 : B ≤ ((w3.alloc A).alloc A').heap.size := Nat.le_trans hB hb4.size
  exact ⟨ex_app hb4 hex hg ho, (hbel.trans (hb4.mono hB)).grown hg h4 (fun r hr => hrow.blk_ge r hr), Nat.le_trans h4 hg.size⟩
theorem ex_sync {B : Nat} {w5 w6 : World} {b d : Nat} {O : Nat → Prop} {W : Ws} {S : Ds} {v : Value} (h2 : ∀ x, O x → B ≤ x) (h3 : ∀ g, v.ownBlock = some g → ¬ O g ∧ g ≠ b) (hB : B ≤ w5.heap.size) (hlt : ∀ g, v.ownBlock = some g → g < w5.heap.size) (h : Nw O w5 b d W S w6) : ∃ O, WK w6 b d O W S ∧ (∀ x, O x → B ≤ x) ∧ ∀ g, v.ownBlock = some g → ¬ O g ∧ g ≠ b := by
  obtain ⟨O', k1, k2, k3⟩ := h
  exact ⟨O', k1, fun x q => (k3 x q).elim (h2 x) (fun q => Nat.le_trans hB q), fun g hg => ⟨fun q => (k3 g q).elim (h3 g hg).1 (fun q => by have := hlt g hg; omega), (h3 g hg).2⟩⟩
set_option maxRecDepth 100000 in
set_option maxHeartbeats 1000000 in
theorem written_is (B : Nat) (w : World) (b d : Nat) (O : Nat → Prop) (lim evy : Int) (v : Value) (ls : List Ln) (h : WK w b d O (w0S lim evy) (ds0 1000000)) (hO : ∀ x, O x → B ≤ x) (hbB : B ≤ b) (hBs : B ≤ w.heap.size) (hL : IsL B w v ls) :
    Calls Tryz.prog 17 #[.pointer (some ⟨b, 0, none⟩), v] w fun e w' => ∃ u, e = .returned (.tuple #[u, .bool true]) ∧ Wq B w b d ls (w0S lim evy, ds0 1000000) (min ls.length 60) u w' := by
  obtain ⟨a, c, rfl⟩ := hL.shape
  obtain ⟨X, hX⟩ : ∃ X, X = (w0S lim evy, ds0 1000000) := ⟨_, rfl⟩
  have HOK : Hid (∀ k, k ≤ 60 → Ok (64 + pk lim 400) (pk evy 6) k (sat ls X k)) := by rw [hX]; exact sat_ok lim evy ls
  have H0 : Hid (Wq B w b d ls X 0 (.slice none 0 0) w) := by
    refine ⟨⟨O, ?_, hO, fun g hg => by cases hg⟩, jr_nil w B, Below.refl _ _, hbB⟩
    rw [hX]; exact h
  have HL := hd hL
  rw [← hX]
  have hBm : ls.length ≤ 140737488355328 := hL.2.1
  clear h hO hbB hL hX
  go_enter Tryz.func17, Tryz.ntmps17
  go_wp2_with fail
  go_loopw [6, 7] (fun u i wq => ∃ k : Nat, k ≤ ls.length ∧ k ≤ 60 ∧ i = .int .i64 (k : Int) ∧ Wq B w b d ls X k u wq) (fun _ i _ => ls.length - (intOf i).toNat)
  case atStart => exact ⟨0, by omega, by omega, rfl, H0.out⟩
  case round =>
    obtain ⟨k, hk, hk6, rfl, hW⟩ := hrel
    have HW := hd hW
    clear hW
    by_cases hlt : k < ls.length
    · by_cases h60 : k < 60
      · obtain ⟨lb, off, l, rfl, hlk, hgd, hks, hvs, d0, d1, d2, d3⟩ := (HL.out.below HW.out.bel).at hlt
        have HLS := hd hgd
        clear hlk hgd
        have hBr : B ≤ wr.heap.size := Nat.le_trans hBs HW.out.bel.size
        go_wp2_with fail
        refine Calls.mono (record_is l k wr hks hvs (by omega)) ?_
        rintro e w2 ⟨rfl, hB2⟩
        have hW2 := HW.out.bels hB2 hBr
        have HPU := hd (hW2.put (HOK.out k hk6) h60 l (Nat.le_trans hBr hB2.size))
        have HD3 : Hid (∀ w', Below B w w' → w'.cell? ⟨lb, off + k * 4 + 3, none⟩ = some (.bool l.syn)) := by
          intro w' hb'
          obtain ⟨lb', off', l', e1, _, e2, _, _, _, _, _, q3⟩ := (HL.out.below hb').at hlt
          injection e1 with e1
          injection e1 with e1 e4
          subst e1 e4
          rw [← HLS.out, e2]; exact q3
        have hst := (HOK.out k hk6).step h60 l
        have HNX : Hid (sat ls X (k + 1) = stp l k (sat ls X k) ∧ pls ls X (k + 1) = pls ls X k ++ [plc l k (sat ls X k)]) := by
          rw [← HLS.out]; exact ⟨rfl, rfl⟩
        have HPL := hd (pls_len ls X k)
        have HLE := hd HW.out.le
        clear hB2 hW2 d0 d1 d2 d3
        have HST := hd hst
        clear hst
        obtain ⟨⟨p1, p2, p3⟩, hp⟩ : ∃ p, plc l k (sat ls X k) = p := ⟨_, rfl⟩
        rw [hp] at HPU HNX
        clear hp
        have HCC : Hid (∀ (ww : World) (A : Obj) (j : Nat) (u : Value), ([.int .u32 (p1 : Int), .int .i64 (p2 : Int), .int .i64 (p3 : Int)] : List Value)[j]? = some u → ((ww.alloc A).alloc (.cells #[.int .u32 (p1 : Int), .int .i64 (p2 : Int), .int .i64 (p3 : Int)] TPl)).cell? ⟨ww.heap.size + 1, j, none⟩ = some u) := by
          intro ww A j u hu
          have := Blk.new (ww.alloc A) TPl [.int .u32 (p1 : Int), .int .i64 (p2 : Int), .int .i64 (p3 : Int)]
          rw [alloc_size] at this
          exact this.cell j u hu
        go_wp2_with fail
        refine Calls.mono HPU.out ?_
        rintro e w3 ⟨rfl, hex, hrow, hbel, hBs3⟩
        have HEX := hd hex
        have HROW := hd hrow
        have HBEL := hd hbel
        clear hex hrow hbel
        have HONE : Hid (∀ u ∈ ([.int .u32 (p1 : Int), .int .i64 (p2 : Int), .int .i64 (p3 : Int)] : List Value), u.oneCell' = true) := by
          intro u hu; simp at hu; rcases hu with rfl | rfl | rfl <;> rfl
        cases hsy : l.syn
        · have HSY := hd hsy
          rw [hsy] at HD3
          clear hsy
          go_wp2_with (at_builtin; refine wpList_append_jr Tryz.underlying65 info_pl rfl (by decide) _ rfl _ _ rfl B u6 ((pls ls X k).map plC) (w3.heap.size + 1) 1 [.int .u32 (p1 : Int), .int .i64 (p2 : Int), .int .i64 (p3 : Int)] rfl rfl ((HROW.out.alloc _).alloc _) rfl HONE.out (HCC.out w3 _) (k + 1) (by rw [List.length_map, HPL.out]) (by omega) (by unfold maxLen; omega) (by rw [alloc_size, alloc_size]; omega) ?_; intro g' cap w5 hJ5 hg5 ho5; have hz := app_all (n := k + 1) (cap := cap) HEX.out HROW.out HBEL.out hBs3 hg5 ho5; have e3 := HD3.out w5 hz.2.1; have HZ := hd hz; have HJ5 := hd hJ5; clear hJ5 hg5 ho5 hz)
          go_roundw
          case rel =>
            refine ⟨k + 1, by omega, by omega, by go_num, ?_⟩
            have hs1 : sat ls X (k + 1) = (pt (sat ls X k).1 (sat ls X k).2 (fB l k)).2 := by rw [HNX.out.1]; unfold stp; rw [HSY.out]; rfl
            refine ⟨?_, ?_, HZ.out.2.1, HLE.out⟩
            · rw [hs1]; exact HZ.out.1
            · rw [HNX.out.2, List.map_append]; exact HJ5.out
          case measure => simp [intOf]; omega
        · have HSY := hd hsy
          rw [hsy] at HD3
          clear hsy
          go_wp2_with (at_builtin; refine wpList_append_jr Tryz.underlying65 info_pl rfl (by decide) _ rfl _ _ rfl B u6 ((pls ls X k).map plC) (w3.heap.size + 1) 1 [.int .u32 (p1 : Int), .int .i64 (p2 : Int), .int .i64 (p3 : Int)] rfl rfl ((HROW.out.alloc _).alloc _) rfl HONE.out (HCC.out w3 _) (k + 1) (by rw [List.length_map, HPL.out]) (by omega) (by unfold maxLen; omega) (by rw [alloc_size, alloc_size]; omega) ?_; intro g' cap w5 hJ5 hg5 ho5; have hz := app_all (n := k + 1) (cap := cap) HEX.out HROW.out HBEL.out hBs3 hg5 ho5; have e3 := HD3.out w5 hz.2.1; have HZ := hd hz; have HJ5 := hd hJ5; clear hJ5 hg5 ho5 hz)
          obtain ⟨O5, hk5, ho5', hv5⟩ := HZ.out.1
          have hun : (pt (sat ls X k).1 (sat ls X k).2 (fB l k)).2.1.uns ≠ 0 → Nam.Nu (pt (sat ls X k).1 (sat ls X k).2 (fB l k)).2.1.num := fun _ => HST.out.2.2.2.2.2.1
          have HWS := hd (wsync_is w5 b d O5 _ _ hk5 HST.out.2.2.2.1 (by have := HST.out.2.2.2.2.1; omega) hun)
          rw [HST.out.2.1] at HWS
          have HO5 := hd ho5'
          have HV5 := hd hv5
          clear hk5 ho5' hv5 hun
          refine Calls.mono HWS.out ?_
          rintro e w6 ⟨rfl, hN6⟩
          have hlt5 : ∀ g, (Value.slice (some ⟨g', 0, none⟩) (k + 1) cap).ownBlock = some g → g < w5.heap.size := HJ5.out.blk_lt
          have HE6 := hd (ex_sync HO5.out HV5.out HZ.out.2.2 hlt5 hN6)
          have HN6 := hd hN6
          clear hN6 hlt5
          go_wp2_with fail
          go_roundw
          case rel =>
            refine ⟨k + 1, by omega, by omega, by go_num, ?_⟩
            have hs1 : sat ls X (k + 1) = (syR (pt (sat ls X k).1 (sat ls X k).2 (fB l k)).2.1 (pt (sat ls X k).1 (sat ls X k).2 (fB l k)).2.2).2 := by rw [HNX.out.1]; unfold stp; rw [HSY.out]; rfl
            obtain ⟨O6, _, q2, _⟩ := HN6.out
            refine ⟨?_, ?_, ?_, HLE.out⟩
            · rw [hs1]; exact HE6.out
            · rw [HNX.out.2, List.map_append]
              exact jr_same HJ5.out fun g hg => q2.block g (HJ5.out.blk_lt g hg) (fun q => q.elim (HV5.out g hg).1 (HV5.out g hg).2)
            · exact HZ.out.2.1.trans (q2.below (fun x q => q.elim (HO5.out x) (fun e => by rw [e]; exact HLE.out)) HZ.out.2.2)
          case measure => simp [intOf]; omega
      · obtain rfl : k = 60 := by omega
        go_wp2_with fail
        go_ret2
        exact ⟨_, rfl, by rw [show min ls.length 60 = 60 by omega]; exact HW.out⟩
    · obtain rfl : k = ls.length := by omega
      go_wp2_with fail
      go_ret2
      exact ⟨_, rfl, by rw [show min ls.length 60 = ls.length by omega]; exact HW.out⟩
end Sg
end Go.Proofs.YtolddolfpnkndaaGreat
namespace Go.Proofs.YtolddolfpnkndaaGreat
open Go.RowKit
namespace Vt
def ixRen : Go.Shelf.Ren := ⟨fun | 187 => 89 | 255 => 108 | n => n, fun | 3 => 3 | 5 => 5 | 37 => 49 | n => n, fun | n => n⟩
theorem ixLays : Go.Proofs.Lays.n187 Tryz.prog ixRen := {
  mixed := by kernel_rfl
  f187 := Tryz.func89.trans (congrArg some (by kernel_rfl))
  f255 := Tryz.func108.trans (congrArg some (by kernel_rfl))
  t3 := Tryz.underlying3
  a3 := Tryz.isAgg3
  z3 := Tryz.sizeOf3
  v3 := Tryz.zeroValue3
  t5 := Tryz.underlying5
  a5 := Tryz.isAgg5
  z5 := Tryz.sizeOf5
  v5 := Tryz.zeroValue5
  t37 := Tryz.underlying49
  a37 := Tryz.isAgg49
  z37 := Tryz.sizeOf49
  v37 := Tryz.zeroValue49 }
/-- the place of the first lead byte; how many bytes there are, if there is none -/
def nx (l : List Nat) : Nat := l.findIdx (· == 167)
theorem nx_le (l : List Nat) : nx l ≤ l.length := List.findIdx_le_length
def ixv (l : List Nat) : Int := if nx l < l.length then ((nx l : Nat) : Int) else -1
theorem ix_is {l : List Nat} (hb : Byt l) : Lib.indexByte (Lib.bytesOf (l.map fun x => ((x : Nat) : Int))) (167 : Int).toNat.toUInt8 = ixv l := by
  induction l with
  | nil => rfl
  | cons x r ih =>
    have ih2 := ih fun y hy => hb y (List.mem_cons_of_mem _ hy)
    have hx := hb x List.mem_cons_self
    have hrl := nx_le r
    rw [show Lib.bytesOf ((x :: r).map fun x => ((x : Nat) : Int)) = x.toUInt8 :: Lib.bytesOf (r.map fun x => ((x : Nat) : Int)) by simp [Lib.bytesOf], Lib.indexByte, ih2]
    unfold ixv at *
    have hc : nx (x :: r) = if x = 167 then 0 else nx r + 1 := by
      unfold nx
      rw [List.findIdx_cons]
      by_cases h : x = 167
      · subst h; rfl
      · have : (x == 167) = false := by rw [beq_eq_false_iff_ne]; exact h
        rw [this, if_neg h]; rfl
    rw [hc]
    by_cases h : x = 167
    · subst h; simp
    · have hne : (x.toUInt8 == (167 : Int).toNat.toUInt8) = false := by
        rw [beq_eq_false_iff_ne]
        intro e
        have := congrArg UInt8.toNat e
        simp at this
        omega
      rw [hne, if_neg h]
      simp only [List.length_cons]
      generalize nx r = m at *
      by_cases h2 : m < r.length
      · have : (((m : Nat) : Int) == -1) = false := by rw [beq_eq_false_iff_ne]; omega
        have h3 : m + 1 < r.length + 1 := by omega
        simp [h2, this]
      · have h3 : ¬ m + 1 < r.length + 1 := by omega
        simp [h2]
theorem index_is (b off n c : Nat) (l : List Nat) (w : World) (hn : n = l.length) (hb : Byt l) (hr : Row w b off l) :
    Calls Tryz.prog 89 #[.slice (some ⟨b, off, none⟩) n c, .int .u8 167] w fun e w' => e = .returned (.int .i64 (ixv l)) ∧ w' = w := by
  subst hn
  have := Any.bytes_IndexByte ixLays b off l.length c (l.map fun x => ((x : Nat) : Int)) 167 w (by simp) (fun i hi => by
    rw [hr i hi, List.getD_eq_getElem?_getD, List.getD_eq_getElem?_getD, List.getElem?_map, List.getElem?_eq_getElem hi]; rfl)
  rw [ix_is hb] at this
  exact this
/-- the place from which one looks -/
def frm (n : Nat) (z : Int) : Nat := min z.toNat n
def nxt (l : List Nat) (z : Int) : Nat := frm l.length z + nx (l.drop (frm l.length z))
set_option maxRecDepth 100000 in
set_option maxHeartbeats 400000 in
theorem next_row (b off c : Nat) (l : List Nat) (z : Int) (w : World) (hb : Byt l) (hr : Row w b off l) (hlc : l.length ≤ c) (hcm : c ≤ maxLen) :
    Calls Tryz.prog 60 #[.slice (some ⟨b, off, none⟩) l.length c, .int .i64 z] w fun e w' => e = .returned (.int .i64 ((nxt l z : Nat) : Int)) ∧ w' = w := by
  unfold maxLen at hcm
  obtain ⟨f, hf⟩ : ∃ f, f = frm l.length z := ⟨_, rfl⟩
  have hfl : f ≤ l.length := by rw [hf]; unfold frm; omega
  have e1 : min (max z 0) ((l.length : Nat) : Int) = (f : Int) := by rw [hf]; unfold frm; omega
  have hdl : (l.drop f).length = l.length - f := List.length_drop
  have HC : Hid (∀ o' : Nat, (f < l.length → o' = off + f) → Calls Tryz.prog 89 #[.slice (some ⟨b, o', none⟩) (l.length - f) (c - f), .int .u8 167] w fun e w' => e = .returned (.int .i64 (ixv (l.drop f))) ∧ w' = w) := by
    intro o' ho
    refine index_is b o' _ _ (l.drop f) w hdl.symm (byt_drop hb f) fun k hk => ?_
    rw [hdl] at hk
    rw [ho (by omega), Nat.add_assoc, hr (f + k) (by omega), List.getD_eq_getElem?_getD, List.getD_eq_getElem?_getD, List.getElem?_drop]
  have HN : Hid (nxt l z = f + nx (l.drop f)) := by
    show nxt l z = _
    unfold nxt; rw [hf]
  have hnx := nx_le (l.drop f)
  rw [hdl] at hnx
  have HX : Hid (ixv (l.drop f) = if nx (l.drop f) < l.length - f then ((nx (l.drop f) : Nat) : Int) else -1) := by
    show ixv (l.drop f) = _
    unfold ixv; rw [hdl]
  rw [HN.out]
  generalize nx (l.drop f) = q at *
  clear hf hr hb hdl
  by_cases hcf : c = f
  · have hlf : l.length = f := by omega
    have hq0 : q = 0 := by omega
    have HV : Hid (ixv (l.drop f) = -1) := by
      show ixv (l.drop f) = -1
      rw [HX.out, if_neg (by omega)]
    have HC2 := hd (HC.out off (by omega))
    rw [HV.out, hlf, hcf, Nat.sub_self] at HC2
    rw [hlf] at e1
    rw [hlf, hq0]
    subst hcf
    clear HX HV HN HC hlf hlc hnx hq0 hfl
    go_enter Tryz.func60, Tryz.ntmps60
    go_wp2_with fail
    refine Calls.mono HC2.out ?_
    rintro e w' ⟨rfl, rfl⟩
    clear HC2
    go_wp2_with fail
    go_ret
    exact ⟨rfl, rfl⟩
  · have HC2 := hd (HC.out (off + f) (fun _ => rfl))
    by_cases hq : q < l.length - f
    · have HV : Hid (ixv (l.drop f) = (q : Int)) := by
        show ixv (l.drop f) = (q : Int)
        rw [HX.out, if_pos hq]
      rw [HV.out] at HC2
      clear HX HV HN HC
      go_enter Tryz.func60, Tryz.ntmps60
      go_wp2_with fail
      refine Calls.mono HC2.out ?_
      rintro e w' ⟨rfl, rfl⟩
      clear HC2
      go_wp2_with fail
      go_ret
      exact ⟨rfl, rfl⟩
    · have HV : Hid (ixv (l.drop f) = -1) := by
        show ixv (l.drop f) = -1
        rw [HX.out, if_neg hq]
      rw [HV.out] at HC2
      have hfq : f + q = l.length := by omega
      rw [hfq]
      clear HX HV HN HC
      go_enter Tryz.func60, Tryz.ntmps60
      go_wp2_with fail
      refine Calls.mono HC2.out ?_
      rintro e w' ⟨rfl, rfl⟩
      clear HC2
      go_wp2_with fail
      go_ret
      exact ⟨rfl, rfl⟩
end Vt
end Go.Proofs.YtolddolfpnkndaaGreat
