/-
  'append(own, x...)' AS A LAW FOR THE WALK: own: a list of bytes of the call's own (nil too); x: any slice of bytes (nil, empty too).
  ROWS OF INTEGERS OF THE CALL'S OWN, of any kind ('JK'): 'append' as a law for the walk; whole blocks of cells ('Blk').
-/
import Derived.Test.YtolddolfpnkndaaGreatXtab
namespace Go.Proofs.YtolddolfpnkndaaGreat
open Go.RowKit
namespace Vt
theorem JB.shape {w : World} {base : Nat} {v : Value} {l : List Nat} (h : JB w base v l) : ∃ a c, v = .slice a l.length c ∧ l.length ≤ c := by
  rcases h.2.2 with ⟨rfl, e⟩ | ⟨g, cap, cur, rfl, _, _, hl, _⟩
  · exact ⟨none, 0, by rw [e], by omega⟩
  · exact ⟨_, cap, rfl, hl⟩
theorem JB.lt {w : World} {base g n cap : Nat} {l : List Nat} (h : JB w base (.slice (some ⟨g, 0, none⟩) n cap) l) : g < w.heap.size ∧ base ≤ g := by
  rcases h.2.2 with ⟨h, _⟩ | ⟨g', cap', cur, h, hb, hh, _⟩
  · cases h
  · injection h with h1 h2 h3
    injection h1 with h1
    injection h1 with h1
    subst h1
    exact ⟨(Array.getElem?_eq_some_iff.1 hh).1, hb⟩
/-- what is below stays -/
theorem JB.keep {w w' : World} {base k : Nat} {v : Value} {l : List Nat} (h : JB w base v l) (hk : ∀ g, v.ownBlock = some g → g < k) (hb : Below k w w') : JB w' base v l := by
  obtain ⟨h1, h0, ⟨rfl, e⟩ | ⟨g', cap', cur, rfl, hbs, hh, hr⟩⟩ := h
  · exact ⟨h1, h0, .inl ⟨rfl, e⟩⟩
  · refine ⟨h1, h0, .inr ⟨g', cap', cur, rfl, hbs, ?_, hr⟩⟩
    rw [hb.block g' (hk g' rfl)]; exact hh
theorem JB.keepAll {w w' : World} {base : Nat} {v : Value} {l : List Nat} (h : JB w base v l) (hb : Below w.heap.size w w') : JB w' base v l := by
  refine h.keep (fun g hg => ?_) hb
  obtain ⟨_, _, ⟨rfl, e⟩ | ⟨g', cap', cur, rfl, hbs, hh, hr⟩⟩ := h
  · cases hg
  · cases hg
    exact (Array.getElem?_eq_some_iff.1 hh).1
theorem run_append_jb (ty : TypeId) (w : World) (base : Nat) (v u : Value) (l r : List Nat) (hJ : JB w base v l) (hI : IsB w u r) (hb : l.length + r.length ≤ 140737488355328) (hbase : base ≤ w.heap.size) :
    ∃ a' cap w', (Builtin.append_ #[49, 49] ty #[v, u]).run Tryz.prog w = .ok (.slice a' (l.length + r.length) cap) w' ∧ JB w' base (.slice a' (l.length + r.length) cap) (l ++ r) ∧ w.grownBy w' v.ownBlock := by
  obtain ⟨i0, hi, hz0, hz1, hz2⟩ := info_parts info_u8
  by_cases h0 : r.length = 0
  · obtain rfl : r = [] := List.length_eq_zero_iff.1 h0
    obtain ⟨a, c, rfl⟩ := hI.shape
    obtain ⟨a', c', rfl, hlc⟩ := hJ.shape
    refine ⟨a', c', w, ?_, ?_, World.grownBy.refl _ _⟩
    · cases a <;> cases a' <;> simp [Builtin.append_, run_underlying Tryz.underlying49, sizeOf, typeInfo, hi, hlc, Builtin.lenOf, Builtin.firstCells, storeCells, loadCells, loadCellsFrom]
    · simpa using hJ
  · obtain ⟨hbl, hml, ⟨rfl, _⟩ | ⟨bb, oo, cc, rfl, hlc, hcm, hbb, hrow⟩⟩ := hI
    · simp at h0
    · have hlen : (bs r).length = r.length * 1 := by simp [bs]
      obtain ⟨g, cap, w', hr, h2, h3, _, _⟩ := run_append_lies (P := Tryz.prog) w 49 ty base 5 i0 (.int .u8 0) 1 1 Tryz.underlying49 hi hz0 hz1 hz2 rfl (by decide) v l.length (bs l) hJ.2 ⟨bb, oo, none⟩ r.length cc (bs r) hlen (news_of_row hrow) (bs_one r) (by omega) (by unfold maxLen; omega) (by omega) hbase w.heap.size rfl
      refine ⟨_, cap, w', hr, ⟨byt_app hJ.1 hbl, ?_⟩, h3⟩
      rw [bs_app] at h2
      rw [List.length_append]; exact h2
/-- .. for the walk: k: the new length, R: the new list -/
theorem wpList_append_jb (w : World) {ops : Array Oper} {rest : List Oper} {o : Oper} {a : Act} {Q : Exit → Act → World → Prop} (hgd : o.guard = none) (s x : Operand)
    (ho : o.op = .call { callee := .builtin .append, args := #[s, x], argTypes := #[49, 49] })
    (base : Nat) (v u : Value) (l r : List Nat) (hs : a.eval s = v) (hx : a.eval x = u) (hJ : JB w base v l) (hI : IsB w u r) (k : Nat) (hk : l.length + r.length = k) (R : List Nat) (hR : l ++ r = R) (hb : k ≤ 140737488355328) (hbase : base ≤ w.heap.size)
    (h : ∀ a' cap w', JB w' base (.slice a' k cap) R → w.grownBy w' v.ownBlock → k ≤ cap → wpList Tryz.prog ops Q rest (a.put o.dst (.slice a' k cap)) w') : wpList Tryz.prog ops Q (o :: rest) a w := by
  subst hk hR
  refine wpList_plain hgd fun K hK => ?_
  obtain ⟨a', cap, w', hr, h2, h3⟩ := run_append_jb o.type w base v u l r hJ hI hb hbase
  unfold Oper.wp execOp
  simp only [ho, resolve, invoke, builtin, Sem.run_bind, Sem.run_pure, Result.andThen_ok, List.map_toArray, List.map_cons, List.map_nil, hs, hx, hr]
  refine hK _ _ (h a' cap w' h2 h3 ?_)
  obtain ⟨a2, c2, e, hle⟩ := h2.shape
  injection e with e1 e2 e3
  rw [List.length_append] at hle
  omega
/-- what grew leaves all below as it was, where the row is the call's own -/
theorem JB.grown {w w' : World} {base : Nat} {v : Value} {l : List Nat} {n : Nat} {w0 : World} (hJ : JB w base v l) (hb : Below n w0 w) (hn : n ≤ base) (hn2 : n ≤ w.heap.size) (hg : w.grownBy w' v.ownBlock) : Below n w0 w' := by
  refine hb.grown hg hn2 fun k hk => ?_
  obtain ⟨_, _, ⟨rfl, e⟩ | ⟨g', cap', cur, rfl, hbs, hh, hr⟩⟩ := hJ
  · cases hk
  · cases hk
    exact Nat.le_trans hn hbs
/-- a slice elsewhere reads as it did, where a row of the call's own has grown -/
theorem IsK.grown {k : IntKind} {M : Nat} {w w' : World} {row : Option Nat} {v : Value} {l : List Nat} (h : IsK k M w v l) (hg : w.grownBy w' row) (hne : ∀ b off n c, v = .slice (some ⟨b, off, none⟩) n c → some b ≠ row) : IsK k M w' v l := by
  obtain ⟨h1, h2, ⟨rfl, a, c, rfl⟩ | ⟨b, off, c, rfl, h3, h4, h5, h6⟩⟩ := h
  · exact ⟨h1, h2, .inl ⟨rfl, a, c, rfl⟩⟩
  · refine ⟨h1, h2, .inr ⟨b, off, c, rfl, h3, h4, Nat.lt_of_lt_of_le h5 hg.size, fun j hj => ?_⟩⟩
    rw [World.cell?_of_block (a := ⟨b, off + j, none⟩) (hg.block b h5 (hne _ _ _ _ rfl))]; exact h6 j hj
theorem JB.blk_lt {w : World} {base : Nat} {v : Value} {l : List Nat} (h : JB w base v l) : ∀ g, v.ownBlock = some g → g < w.heap.size := by
  intro g hg
  obtain ⟨_, _, ⟨rfl, e⟩ | ⟨g', cap', cur, rfl, hbs, hh, hr⟩⟩ := h
  · cases hg
  · cases hg
    exact (Array.getElem?_eq_some_iff.1 hh).1
theorem JB.blk_ge {w : World} {base : Nat} {v : Value} {l : List Nat} (h : JB w base v l) : ∀ b off n c, v = .slice (some ⟨b, off, none⟩) n c → base ≤ b := by
  intro b off n c hv
  obtain ⟨_, _, ⟨rfl, e⟩ | ⟨g', cap', cur, rfl, hbs, hh, hr⟩⟩ := h
  · cases hv
  · injection hv with e1
    injection e1 with e1
    injection e1 with e1
    omega
theorem jb_nil (w : World) (base : Nat) : JB w base (.slice none 0 0) [] := ⟨byt_nil, own_nil _ _⟩
end Vt
end Go.Proofs.YtolddolfpnkndaaGreat
namespace Go.Proofs.YtolddolfpnkndaaGreat
open Go.RowKit
namespace Vt
def ks (k : IntKind) (l : List Nat) : List Value := l.map fun x => Value.int k ((x : Nat) : Int)
/-- a list of numbers of the call's own: nil where there is none -/
def JK (k : IntKind) (M : Nat) (E : TypeId) (w : World) (base : Nat) (v : Value) (l : List Nat) : Prop := (∀ x ∈ l, x < M) ∧ w.ownsRow base E 1 v l.length (ks k l)
section
variable {k : IntKind} {M : Nat} {E : TypeId}
theorem JK.shape {w : World} {base : Nat} {v : Value} {l : List Nat} (h : JK k M E w base v l) : ∃ a c, v = .slice a l.length c ∧ l.length ≤ c := by
  rcases h.2.2 with ⟨rfl, e⟩ | ⟨g, cap, cur, rfl, _, _, hl, _⟩
  · exact ⟨none, 0, by rw [e], by omega⟩
  · exact ⟨_, cap, rfl, hl⟩
theorem JK.keep {w w' : World} {base n : Nat} {v : Value} {l : List Nat} (h : JK k M E w base v l) (hk : ∀ g, v.ownBlock = some g → g < n) (hb : Below n w w') : JK k M E w' base v l := by
  obtain ⟨h1, h0, ⟨rfl, e⟩ | ⟨g', cap', cur, rfl, hbs, hh, hr⟩⟩ := h
  · exact ⟨h1, h0, .inl ⟨rfl, e⟩⟩
  · refine ⟨h1, h0, .inr ⟨g', cap', cur, rfl, hbs, ?_, hr⟩⟩
    rw [hb.block g' (hk g' rfl)]; exact hh
theorem JK.blk_lt {w : World} {base : Nat} {v : Value} {l : List Nat} (h : JK k M E w base v l) : ∀ g, v.ownBlock = some g → g < w.heap.size := by
  intro g hg
  obtain ⟨_, _, ⟨rfl, e⟩ | ⟨g', cap', cur, rfl, hbs, hh, hr⟩⟩ := h
  · cases hg
  · cases hg
    exact (Array.getElem?_eq_some_iff.1 hh).1
theorem JK.blk_ge {w : World} {base : Nat} {v : Value} {l : List Nat} (h : JK k M E w base v l) : ∀ g, v.ownBlock = some g → base ≤ g := by
  intro g hg
  obtain ⟨_, _, ⟨rfl, e⟩ | ⟨g', cap', cur, rfl, hbs, hh, hr⟩⟩ := h
  · cases hg
  · cases hg
    exact hbs
theorem JK.keepAll {w w' : World} {base : Nat} {v : Value} {l : List Nat} (h : JK k M E w base v l) (hb : Below w.heap.size w w') : JK k M E w' base v l := h.keep h.blk_lt hb
theorem JK.grownO {w w' : World} {base : Nat} {row : Option Nat} {v : Value} {l : List Nat} (h : JK k M E w base v l) (hg : w.grownBy w' row) (hne : ∀ g, v.ownBlock = some g → some g ≠ row) : JK k M E w' base v l := by
  obtain ⟨h1, h0, ⟨rfl, e⟩ | ⟨g', cap', cur, rfl, hbs, hh, hr⟩⟩ := h
  · exact ⟨h1, h0, .inl ⟨rfl, e⟩⟩
  · refine ⟨h1, h0, .inr ⟨g', cap', cur, rfl, hbs, ?_, hr⟩⟩
    rw [hg.block g' (Array.getElem?_eq_some_iff.1 hh).1 (hne g' rfl)]; exact hh
theorem JK.setO {w : World} {base : Nat} {v : Value} {l : List Nat} (h : JK k M E w base v l) {p : Addr} (hne : ∀ g, v.ownBlock = some g → g ≠ p.block) (u : Value) : JK k M E (w.setCell p u) base v l := by
  obtain ⟨h1, h0, ⟨rfl, e⟩ | ⟨g', cap', cur, rfl, hbs, hh, hr⟩⟩ := h
  · exact ⟨h1, h0, .inl ⟨rfl, e⟩⟩
  · refine ⟨h1, h0, .inr ⟨g', cap', cur, rfl, hbs, ?_, hr⟩⟩
    have := hne g' rfl
    rw [← hh]
    show (w.heap.modify p.block _)[g']? = _
    rw [Array.getElem?_modify, if_neg (fun e => this e.symm)]
theorem JK.grown {w w' : World} {base : Nat} {v : Value} {l : List Nat} {n : Nat} {w0 : World} (hJ : JK k M E w base v l) (hb : Below n w0 w) (hn : n ≤ base) (hn2 : n ≤ w.heap.size) (hg : w.grownBy w' v.ownBlock) : Below n w0 w' :=
  hb.grown hg hn2 fun q hq => Nat.le_trans hn (hJ.blk_ge q hq)
variable {S : TypeId} {by_ : Nat}
end
/-- a block of cells, known whole -/
def Blk (W : World) (O : Nat) (T : TypeId) (cs : List Value) : Prop := W.heap[O]? = some (.cells cs.toArray T (0, 0))
theorem Blk.lt {W : World} {O : Nat} {T : TypeId} {cs : List Value} (h : Blk W O T cs) : O < W.heap.size := (Array.getElem?_eq_some_iff.1 h).1
theorem Blk.cell {W : World} {O : Nat} {T : TypeId} {cs : List Value} (h : Blk W O T cs) (j : Nat) (v : Value) (hv : cs[j]? = some v) : W.cell? ⟨O, j, none⟩ = some v := by
  have h' : W.heap[O]? = some (.cells cs.toArray T (0, 0)) := h
  simp only [World.cell?, h']
  simpa using hv
theorem Blk.frozen {W : World} {O : Nat} {T : TypeId} {cs : List Value} (h : Blk W O T cs) (j : Nat) : W.frozen? ⟨O, j, none⟩ = false := by
  have h' : W.heap[O]? = some (.cells cs.toArray T (0, 0)) := h
  simp [World.frozen?, h']
theorem Blk.below {W W' : World} {O n : Nat} {T : TypeId} {cs : List Value} (h : Blk W O T cs) (hO : O < n) (hb : Below n W W') : Blk W' O T cs := (hb.block O hO).trans h
theorem Blk.keep {W W' : World} {O : Nat} {T : TypeId} {cs : List Value} (h : Blk W O T cs) (hb : Below W.heap.size W W') : Blk W' O T cs := h.below h.lt hb
theorem Blk.grown {W W' : World} {O : Nat} {row : Option Nat} {T : TypeId} {cs : List Value} (h : Blk W O T cs) (hg : W.grownBy W' row) (hne : some O ≠ row) : Blk W' O T cs := (hg.block O h.lt hne).trans h
theorem Blk.alloc {W : World} {O : Nat} {T : TypeId} {cs : List Value} (h : Blk W O T cs) (o : Obj) : Blk (W.alloc o) O T cs := h.keep ((Below.refl _ _).alloc (Nat.le_refl _) _)
theorem Blk.new (W : World) (T : TypeId) (cs : List Value) : Blk (W.alloc (.cells cs.toArray T)) W.heap.size T cs := by
  unfold Blk World.alloc
  simp
theorem Blk.set {W : World} {O j : Nat} {T : TypeId} {cs : List Value} (h : Blk W O T cs) (v : Value) : Blk (W.setCell ⟨O, j, none⟩ v) O T (cs.set j v) := by
  have h' : W.heap[O]? = some (.cells cs.toArray T (0, 0)) := h
  have hlt := h.lt
  have h2 : W.heap[O] = .cells cs.toArray T (0, 0) := by simpa [Array.getElem?_eq_getElem hlt] using h'
  show (W.heap.modify O _)[O]? = _
  rw [Array.getElem?_eq_getElem (by simpa using hlt), Array.getElem_modify_self, h2]
  simp
theorem Blk.other {W : World} {O : Nat} {T : TypeId} {cs : List Value} (h : Blk W O T cs) {p : Addr} (hp : p.block ≠ O) (v : Value) : Blk (W.setCell p v) O T cs := by
  have h' : W.heap[O]? = some (.cells cs.toArray T (0, 0)) := h
  show (W.heap.modify p.block _)[O]? = _
  rw [Array.getElem?_modify, if_neg hp]; exact h'
theorem IsK.setO {k : IntKind} {M : Nat} {w : World} {v : Value} {l : List Nat} (h : IsK k M w v l) {p : Addr} (hne : ∀ b off n c, v = .slice (some ⟨b, off, none⟩) n c → b ≠ p.block) (u : Value) : IsK k M (w.setCell p u) v l := by
  obtain ⟨h1, h2, ⟨rfl, a, c, rfl⟩ | ⟨b, off, c, rfl, h3, h4, h5, h6⟩⟩ := h
  · exact ⟨h1, h2, .inl ⟨rfl, a, c, rfl⟩⟩
  · have hs : (w.setCell p u).heap.size = w.heap.size := by simp [World.setCell]
    refine ⟨h1, h2, .inr ⟨b, off, c, rfl, h3, h4, by omega, fun j hj => ?_⟩⟩
    have := hne _ _ _ _ rfl
    rw [World.cell?_setCell_other _ _ _ _ (by intro e; exact this (by rw [e]))]; exact h6 j hj
end Vt
end Go.Proofs.YtolddolfpnkndaaGreat
