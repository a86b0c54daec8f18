/-
  ROWS OF STRINGS OF THE CALL'S OWN ('JS'): 'append' as a law for the walk.
-/
import Derived.Test.YtglnhppgoomehabNm6
namespace Go.Proofs.Ytglnhppgoomehab
open Go.RowKit
namespace Nam
open Vt
def sv (l : List ByteArray) : List Value := l.map Value.string
theorem sv_app (a b : List ByteArray) : sv a ++ sv b = sv (a ++ b) := by unfold sv; rw [List.map_append]
theorem sv_len (l : List ByteArray) : (sv l).length = l.length := by simp [sv]
theorem sv_at (l : List ByteArray) (j : Nat) (hj : j < l.length) : (sv l)[j]? = some (.string (l.getD j ByteArray.empty)) := by
  unfold sv
  rw [List.getElem?_map, List.getElem?_eq_getElem hj, List.getD_eq_getElem?_getD, List.getElem?_eq_getElem hj]; rfl
theorem sv_one (l : List ByteArray) : ∀ u ∈ sv l, u.oneCell' = true := by
  intro u hu
  obtain ⟨x, _, rfl⟩ := List.mem_map.1 hu
  rfl
theorem news_of_rowS {w : World} {b off : Nat} {l : List ByteArray} (h : RowS w b off l) : ∀ j u, (sv l)[j]? = some u → w.cell? (Addr.add ⟨b, off, none⟩ j) = some u := by
  intro j u hu
  have hj : j < l.length := by
    have := (List.getElem?_eq_some_iff.1 hu).1
    simpa [sv] using this
  rw [add_at, h j hj]
  rw [sv_at l j hj] at hu
  exact hu
theorem info_str : (Try.prog.info? 9).map (fun i => (i.zero, i.size, i.bytes)) = some (some (.string ⟨#[]⟩), 1, 16) := by kernel_rfl
/-- a list of numbers of the call's own: nil where there is none -/
def JS (w : World) (base : Nat) (v : Value) (l : List ByteArray) : Prop := (∀ x ∈ l, x.size ≤ maxLen) ∧ w.ownsRow base 9 1 v l.length (sv l)
section
theorem JS.shape {w : World} {base : Nat} {v : Value} {l : List ByteArray} (h : JS w base v l) : ∃ a c, v = .slice a l.length c ∧ l.length ≤ c := by
  rcases h.2.2 with ⟨rfl, e⟩ | ⟨g, cap, cur, rfl, _, _, hl, _⟩
  · exact ⟨none, 0, by rw [e], by omega⟩
  · exact ⟨_, cap, rfl, hl⟩
theorem JS.isS {w : World} {base : Nat} {v : Value} {l : List ByteArray} (h : JS w base v l) : IsS w v l := by
  obtain ⟨hb, h0, ⟨rfl, e⟩ | ⟨g, cap, cur, rfl, hbs, hh, hl, hm, hc, ht⟩⟩ := h
  · obtain rfl : l = [] := List.length_eq_zero_iff.1 e
    exact isS_nil _ _ _
  · have hlt := (Array.getElem?_eq_some_iff.1 hh).1
    refine ⟨hb, by omega, .inr ⟨g, 0, cap, rfl, hl, hm, hlt, fun j hj => ?_⟩⟩
    have hat : cur[j]? = some (.string (l.getD j ByteArray.empty)) := by
      have := sv_at l j hj
      rw [← ht, List.getElem?_take_of_lt (by omega)] at this
      simpa using this
    rw [Nat.zero_add]
    simp only [World.cell?, hh]
    simpa using hat
theorem JS.keep {w w' : World} {base n : Nat} {v : Value} {l : List ByteArray} (h : JS w base v l) (hk : ∀ g, v.ownBlock = some g → g < n) (hb : Below n w w') : JS w' base v l := by
  obtain ⟨h1, h0, ⟨rfl, e⟩ | ⟨g', cap', cur, rfl, hbs, hh, hr⟩⟩ := h
  · exact ⟨h1, h0, .inl ⟨rfl, e⟩⟩
  · refine ⟨h1, h0, .inr ⟨g', cap', cur, rfl, hbs, ?_, hr⟩⟩
    rw [hb.block g' (hk g' rfl)]; exact hh
theorem JS.blk_lt {w : World} {base : Nat} {v : Value} {l : List ByteArray} (h : JS w base v l) : ∀ g, v.ownBlock = some g → g < w.heap.size := by
  intro g hg
  obtain ⟨_, _, ⟨rfl, e⟩ | ⟨g', cap', cur, rfl, hbs, hh, hr⟩⟩ := h
  · cases hg
  · cases hg
    exact (Array.getElem?_eq_some_iff.1 hh).1
theorem JS.blk_ge {w : World} {base : Nat} {v : Value} {l : List ByteArray} (h : JS w base v l) : ∀ g, v.ownBlock = some g → base ≤ g := by
  intro g hg
  obtain ⟨_, _, ⟨rfl, e⟩ | ⟨g', cap', cur, rfl, hbs, hh, hr⟩⟩ := h
  · cases hg
  · cases hg
    exact hbs
theorem JS.keepAll {w w' : World} {base : Nat} {v : Value} {l : List ByteArray} (h : JS w base v l) (hb : Below w.heap.size w w') : JS w' base v l := h.keep h.blk_lt hb
theorem JS.grownO {w w' : World} {base : Nat} {row : Option Nat} {v : Value} {l : List ByteArray} (h : JS w base v l) (hg : w.grownBy w' row) (hne : ∀ g, v.ownBlock = some g → some g ≠ row) : JS w' base v l := by
  obtain ⟨h1, h0, ⟨rfl, e⟩ | ⟨g', cap', cur, rfl, hbs, hh, hr⟩⟩ := h
  · exact ⟨h1, h0, .inl ⟨rfl, e⟩⟩
  · refine ⟨h1, h0, .inr ⟨g', cap', cur, rfl, hbs, ?_, hr⟩⟩
    rw [hg.block g' (Array.getElem?_eq_some_iff.1 hh).1 (hne g' rfl)]; exact hh
theorem JS.setO {w : World} {base : Nat} {v : Value} {l : List ByteArray} (h : JS w base v l) {p : Addr} (hne : ∀ g, v.ownBlock = some g → g ≠ p.block) (u : Value) : JS (w.setCell p u) base v l := by
  obtain ⟨h1, h0, ⟨rfl, e⟩ | ⟨g', cap', cur, rfl, hbs, hh, hr⟩⟩ := h
  · exact ⟨h1, h0, .inl ⟨rfl, e⟩⟩
  · refine ⟨h1, h0, .inr ⟨g', cap', cur, rfl, hbs, ?_, hr⟩⟩
    have := hne g' rfl
    rw [← hh]
    show (w.heap.modify p.block _)[g']? = _
    rw [Array.getElem?_modify, if_neg (fun e => this e.symm)]
theorem js_nil (w : World) (base : Nat) : JS w base (.slice none 0 0) [] := ⟨by simp, rfl, .inl ⟨rfl, rfl⟩⟩
theorem JS.grown {w w' : World} {base : Nat} {v : Value} {l : List ByteArray} {n : Nat} {w0 : World} (hJ : JS w base v l) (hb : Below n w0 w) (hn : n ≤ base) (hn2 : n ≤ w.heap.size) (hg : w.grownBy w' v.ownBlock) : Below n w0 w' :=
  hb.grown hg hn2 fun q hq => Nat.le_trans hn (hJ.blk_ge q hq)
theorem run_append_ss (ty : TypeId) (w : World) (base : Nat) (v u : Value) (l r : List ByteArray) (hJ : JS w base v l) (hI : IsS w u r) (hb : (l.length + r.length) * 16 ≤ 140737488355328) (hb2 : l.length + r.length ≤ 140737488355328) (hbase : base ≤ w.heap.size) :
    ∃ a' cap w', (Builtin.append_ #[22, 22] ty #[v, u]).run Try.prog w = .ok (.slice a' (l.length + r.length) cap) w' ∧ JS w' base (.slice a' (l.length + r.length) cap) (l ++ r) ∧ w.grownBy w' v.ownBlock ∧ (∀ g, (Value.slice a' (l.length + r.length) cap).ownBlock = some g → v.ownBlock = some g ∨ g = w.heap.size) := by
  obtain ⟨i0, hi, hz0, hz1, hz2⟩ := info_parts info_str
  by_cases h0 : r.length = 0
  · obtain rfl : r = [] := List.length_eq_zero_iff.1 h0
    obtain ⟨a, c, rfl⟩ := hI.shape
    obtain ⟨a', c', rfl, hlc⟩ := hJ.shape
    refine ⟨a', c', w, ?_, ?_, World.grownBy.refl _ _, fun g hg => .inl hg⟩
    · cases a <;> cases a' <;> simp [Builtin.append_, run_underlying Try.underlying22, sizeOf, typeInfo, hi, hlc, Builtin.lenOf, Builtin.firstCells, storeCells, loadCells, loadCellsFrom]
    · simpa using hJ
  · obtain ⟨hbl, hml, ⟨rfl, _⟩ | ⟨bb, oo, cc, rfl, hlc, hcm, hbb, hrow⟩⟩ := hI
    · simp at h0
    · have hlen : (sv r).length = r.length * 1 := by simp [sv]
      obtain ⟨g, cap, w', hr, h2, h3, h4, _⟩ := run_append_lies (P := Try.prog) w 22 ty base 9 i0 (.string ⟨#[]⟩) 1 16 Try.underlying22 hi hz0 hz1 hz2 rfl (by decide) v l.length (sv l) hJ.2 ⟨bb, oo, none⟩ r.length cc (sv r) hlen (news_of_rowS hrow) (sv_one r) (by omega) (by unfold maxLen; omega) hb hbase w.heap.size rfl
      refine ⟨_, cap, w', hr, ⟨?_, ?_⟩, h3, fun g' hg' => by cases hg'; exact h4⟩
      · intro x hx
        rcases List.mem_append.1 hx with hx | hx
        · exact hJ.1 x hx
        · exact hbl x hx
      · rw [sv_app] at h2
        rw [List.length_append]; exact h2
/-- .. for the walk: n: the new length, R: the new list -/
theorem wpList_append_ss (w : World) {ops : Array Oper} {rest : List Oper} {o : Oper} {a : Act} {Q : Exit → Act → World → Prop} (hgd : o.guard = none) (s x : Operand)
    (ho : o.op = .call { callee := .builtin .append, args := #[s, x], argTypes := #[22, 22] })
    (base : Nat) (v u : Value) (l r : List ByteArray) (hs : a.eval s = v) (hx : a.eval x = u) (hJ : JS w base v l) (hI : IsS w u r) (n : Nat) (hn : l.length + r.length = n) (R : List ByteArray) (hR : l ++ r = R) (hb : n * 16 ≤ 140737488355328) (hb2 : n ≤ 140737488355328) (hbase : base ≤ w.heap.size)
    (h : ∀ a' cap w', JS w' base (.slice a' n cap) R → w.grownBy w' v.ownBlock → (∀ g, (Value.slice a' n cap).ownBlock = some g → v.ownBlock = some g ∨ g = w.heap.size) → n ≤ cap → wpList Try.prog ops Q rest (a.put o.dst (.slice a' n cap)) w') : wpList Try.prog ops Q (o :: rest) a w := by
  subst hn hR
  refine wpList_plain hgd fun K hK => ?_
  obtain ⟨a', cap, w', hr, h2, h3, h4⟩ := run_append_ss o.type w base v u l r hJ hI hb hb2 hbase
  unfold Oper.wp execOp
  simp only [ho, resolve, invoke, builtin, Sem.run_bind, Sem.run_pure, Result.andThen_ok, List.map_toArray, List.map_cons, List.map_nil, hs, hx, hr]
  refine hK _ _ (h a' cap w' h2 h3 h4 ?_)
  obtain ⟨a2, c2, e, hle⟩ := h2.shape
  injection e with e1 e2 e3
  rw [List.length_append] at hle
  omega
end
/-- one string, as a list that is laid for an append -/
theorem lit_isS (w : World) (s : ByteArray) (t : TypeId) (g : Nat) (hg : w.heap.size = g) (hs : s.size ≤ maxLen) : IsS (w.alloc (.cells #[.string s] t)) (.slice (some ⟨g, 0, none⟩) 1 1) [s] := by
  subst hg
  refine ⟨by intro x hx; simp at hx; rw [hx]; exact hs, by simp [maxLen], .inr ⟨w.heap.size, 0, 1, rfl, by simp, by simp [maxLen], by simp, fun j hj => ?_⟩⟩
  have : j = 0 := by simp at hj; exact hj
  subst this
  rw [World.cell?_alloc_new]
  rfl
end Nam
end Go.Proofs.Ytglnhppgoomehab
