/-
  ROWS OF INTEGERS OF THE CALL'S OWN, of any kind ('JK'): 'append' as a law for the walk; whole blocks of cells ('Blk').
  'KeepS S': all blocks of the set S lie as they lay (and the streams, the tape): what a round over an iterator keeps, where boxes that it writes lie among others.
  'append' onto a row of integers of the call's own, for the walk within a fence (functions with ranges over iterators).
-/
import Derived.Test.YtlddogigbodilaaQad
import Derived.RangeFuncNested
import Derived.RangeFuncBound
import Derived.RangeFuncCalls
import Derived.RangeFuncLeaves
import Derived.Shelf.Abstract
import Derived.Shelf.RegionOpen
import Derived.OwnWalkIn
import Derived.TacticsInMore
import Derived.LoopNIn
import Derived.LoopIn
import Derived.Deep.RegionLaw
namespace Go.Proofs.Ytlddogigbodilaa
open Go.RowKit
namespace Vt
def ks (k : IntKind) (l : List Nat) : List Value := l.map fun x => Value.int k ((x : Nat) : Int)
theorem ks_app (k : IntKind) (a b : List Nat) : ks k a ++ ks k b = ks k (a ++ b) := by unfold ks; rw [List.map_append]
theorem ks_len (k : IntKind) (l : List Nat) : (ks k l).length = l.length := by simp [ks]
theorem ks_at (k : IntKind) (l : List Nat) (j : Nat) (hj : j < l.length) : (ks k l)[j]? = some (.int k ((l.getD j 0 : Nat) : Int)) := by
  unfold ks
  rw [List.getElem?_map, List.getElem?_eq_getElem hj, List.getD_eq_getElem?_getD, List.getElem?_eq_getElem hj]; rfl
theorem ks_one (k : IntKind) (l : List Nat) : ∀ u ∈ ks k l, u.oneCell' = true := by
  intro u hu
  obtain ⟨x, _, rfl⟩ := List.mem_map.1 hu
  rfl
theorem news_of_rowK {k : IntKind} {w : World} {b off : Nat} {l : List Nat} (h : RowK k w b off l) : ∀ j u, (ks k l)[j]? = some u → w.cell? (Addr.add ⟨b, off, none⟩ j) = some u := by
  intro j u hu
  have hj : j < l.length := by
    have := (List.getElem?_eq_some_iff.1 hu).1
    simpa [ks] using this
  rw [add_at, h j hj]
  rw [ks_at k l j hj] at hu
  exact hu
/-- a list of numbers of the call's own: nil where there is none -/
def JK (k : IntKind) (M : Nat) (E : TypeId) (w : World) (base : Nat) (v : Value) (l : List Nat) : Prop := (∀ x ∈ l, x < M) ∧ w.ownsRow base E 1 v l.length (ks k l)
theorem jk_jb {w : World} {base : Nat} {v : Value} {l : List Nat} : JK .u8 256 5 w base v l ↔ JB w base v l := Iff.rfl
section
variable {k : IntKind} {M : Nat} {E : TypeId}
theorem JK.shape {w : World} {base : Nat} {v : Value} {l : List Nat} (h : JK k M E w base v l) : ∃ a c, v = .slice a l.length c ∧ l.length ≤ c := by
  rcases h.2.2 with ⟨rfl, e⟩ | ⟨g, cap, cur, rfl, _, _, hl, _⟩
  · exact ⟨none, 0, by rw [e], by omega⟩
  · exact ⟨_, cap, rfl, hl⟩
theorem JK.isK {w : World} {base : Nat} {v : Value} {l : List Nat} (h : JK k M E w base v l) : IsK k M w v l := by
  obtain ⟨hb, h0, ⟨rfl, e⟩ | ⟨g, cap, cur, rfl, hbs, hh, hl, hm, hc, ht⟩⟩ := h
  · obtain rfl : l = [] := List.length_eq_zero_iff.1 e
    exact isK_nil _ _ _ _ _
  · have hlt := (Array.getElem?_eq_some_iff.1 hh).1
    refine ⟨hb, by omega, .inr ⟨g, 0, cap, rfl, hl, hm, hlt, fun j hj => ?_⟩⟩
    have hat : cur[j]? = some (.int k ((l.getD j 0 : Nat) : Int)) := by
      have := ks_at k l j hj
      rw [← ht, List.getElem?_take_of_lt (by omega)] at this
      simpa using this
    rw [Nat.zero_add]
    simp only [World.cell?, hh]
    simpa using hat
theorem JK.keep {w w' : World} {base n : Nat} {v : Value} {l : List Nat} (h : JK k M E w base v l) (hk : ∀ g, v.ownBlock = some g → g < n) (hb : Below n w w') : JK k M E w' base v l := by
  obtain ⟨h1, h0, ⟨rfl, e⟩ | ⟨g', cap', cur, rfl, hbs, hh, hr⟩⟩ := h
  · exact ⟨h1, h0, .inl ⟨rfl, e⟩⟩
  · refine ⟨h1, h0, .inr ⟨g', cap', cur, rfl, hbs, ?_, hr⟩⟩
    rw [hb.block g' (hk g' rfl)]; exact hh
theorem JK.blk_lt {w : World} {base : Nat} {v : Value} {l : List Nat} (h : JK k M E w base v l) : ∀ g, v.ownBlock = some g → g < w.heap.size := by
  intro g hg
  obtain ⟨_, _, ⟨rfl, e⟩ | ⟨g', cap', cur, rfl, hbs, hh, hr⟩⟩ := h
  · cases hg
  · cases hg
    exact (Array.getElem?_eq_some_iff.1 hh).1
theorem JK.blk_ge {w : World} {base : Nat} {v : Value} {l : List Nat} (h : JK k M E w base v l) : ∀ g, v.ownBlock = some g → base ≤ g := by
  intro g hg
  obtain ⟨_, _, ⟨rfl, e⟩ | ⟨g', cap', cur, rfl, hbs, hh, hr⟩⟩ := h
  · cases hg
  · cases hg
    exact hbs
theorem JK.keepAll {w w' : World} {base : Nat} {v : Value} {l : List Nat} (h : JK k M E w base v l) (hb : Below w.heap.size w w') : JK k M E w' base v l := h.keep h.blk_lt hb
theorem JK.grownO {w w' : World} {base : Nat} {row : Option Nat} {v : Value} {l : List Nat} (h : JK k M E w base v l) (hg : w.grownBy w' row) (hne : ∀ g, v.ownBlock = some g → some g ≠ row) : JK k M E w' base v l := by
  obtain ⟨h1, h0, ⟨rfl, e⟩ | ⟨g', cap', cur, rfl, hbs, hh, hr⟩⟩ := h
  · exact ⟨h1, h0, .inl ⟨rfl, e⟩⟩
  · refine ⟨h1, h0, .inr ⟨g', cap', cur, rfl, hbs, ?_, hr⟩⟩
    rw [hg.block g' (Array.getElem?_eq_some_iff.1 hh).1 (hne g' rfl)]; exact hh
theorem JK.setO {w : World} {base : Nat} {v : Value} {l : List Nat} (h : JK k M E w base v l) {p : Addr} (hne : ∀ g, v.ownBlock = some g → g ≠ p.block) (u : Value) : JK k M E (w.setCell p u) base v l := by
  obtain ⟨h1, h0, ⟨rfl, e⟩ | ⟨g', cap', cur, rfl, hbs, hh, hr⟩⟩ := h
  · exact ⟨h1, h0, .inl ⟨rfl, e⟩⟩
  · refine ⟨h1, h0, .inr ⟨g', cap', cur, rfl, hbs, ?_, hr⟩⟩
    have := hne g' rfl
    rw [← hh]
    show (w.heap.modify p.block _)[g']? = _
    rw [Array.getElem?_modify, if_neg (fun e => this e.symm)]
theorem jk_nil (w : World) (base : Nat) : JK k M E w base (.slice none 0 0) [] := ⟨by simp, rfl, .inl ⟨rfl, rfl⟩⟩
theorem JK.grown {w w' : World} {base : Nat} {v : Value} {l : List Nat} {n : Nat} {w0 : World} (hJ : JK k M E w base v l) (hb : Below n w0 w) (hn : n ≤ base) (hn2 : n ≤ w.heap.size) (hg : w.grownBy w' v.ownBlock) : Below n w0 w' :=
  hb.grown hg hn2 fun q hq => Nat.le_trans hn (hJ.blk_ge q hq)
variable {S : TypeId} {by_ : Nat}
theorem run_append_jk (hS : Try.prog.underlying S = some (.slice E)) (hE : (Try.prog.info? E).map (fun i => (i.zero, i.size, i.bytes)) = some (some (.int k 0), 1, by_)) (ty : TypeId) (w : World) (base : Nat) (v u : Value) (l r : List Nat) (hJ : JK k M E w base v l) (hI : IsK k M w u r) (hb : (l.length + r.length) * by_ ≤ 140737488355328) (hb2 : l.length + r.length ≤ 140737488355328) (hbase : base ≤ w.heap.size) :
    ∃ a' cap w', (Builtin.append_ #[S, S] ty #[v, u]).run Try.prog w = .ok (.slice a' (l.length + r.length) cap) w' ∧ JK k M E w' base (.slice a' (l.length + r.length) cap) (l ++ r) ∧ w.grownBy w' v.ownBlock ∧ (∀ g, (Value.slice a' (l.length + r.length) cap).ownBlock = some g → v.ownBlock = some g ∨ g = w.heap.size) := by
  obtain ⟨i0, hi, hz0, hz1, hz2⟩ := info_parts hE
  by_cases h0 : r.length = 0
  · obtain rfl : r = [] := List.length_eq_zero_iff.1 h0
    obtain ⟨a, c, rfl⟩ := hI.shape
    obtain ⟨a', c', rfl, hlc⟩ := hJ.shape
    refine ⟨a', c', w, ?_, ?_, World.grownBy.refl _ _, fun g hg => .inl hg⟩
    · cases a <;> cases a' <;> simp [Builtin.append_, run_underlying hS, sizeOf, typeInfo, hi, hlc, Builtin.lenOf, Builtin.firstCells, storeCells, loadCells, loadCellsFrom]
    · simpa using hJ
  · obtain ⟨hbl, hml, ⟨rfl, _⟩ | ⟨bb, oo, cc, rfl, hlc, hcm, hbb, hrow⟩⟩ := hI
    · simp at h0
    · have hlen : (ks k r).length = r.length * 1 := by simp [ks]
      obtain ⟨g, cap, w', hr, h2, h3, h4, _⟩ := run_append_lies (P := Try.prog) w S ty base E i0 (.int k 0) 1 by_ hS hi hz0 hz1 hz2 rfl (by decide) v l.length (ks k l) hJ.2 ⟨bb, oo, none⟩ r.length cc (ks k r) hlen (news_of_rowK hrow) (ks_one k r) (by omega) (by unfold maxLen; omega) hb hbase w.heap.size rfl
      refine ⟨_, cap, w', hr, ⟨?_, ?_⟩, h3, fun g' hg' => by cases hg'; exact h4⟩
      · intro x hx
        rcases List.mem_append.1 hx with hx | hx
        · exact hJ.1 x hx
        · exact hbl x hx
      · rw [ks_app] at h2
        rw [List.length_append]; exact h2
/-- .. for the walk: n: the new length, R: the new list -/
theorem wpList_append_jk (hS : Try.prog.underlying S = some (.slice E)) (hE : (Try.prog.info? E).map (fun i => (i.zero, i.size, i.bytes)) = some (some (.int k 0), 1, by_)) (w : World) {ops : Array Oper} {rest : List Oper} {o : Oper} {a : Act} {Q : Exit → Act → World → Prop} (hgd : o.guard = none) (s x : Operand)
    (ho : o.op = .call { callee := .builtin .append, args := #[s, x], argTypes := #[S, S] })
    (base : Nat) (v u : Value) (l r : List Nat) (hs : a.eval s = v) (hx : a.eval x = u) (hJ : JK k M E w base v l) (hI : IsK k M w u r) (n : Nat) (hn : l.length + r.length = n) (R : List Nat) (hR : l ++ r = R) (hb : n * by_ ≤ 140737488355328) (hb2 : n ≤ 140737488355328) (hbase : base ≤ w.heap.size)
    (h : ∀ a' cap w', JK k M E w' base (.slice a' n cap) R → w.grownBy w' v.ownBlock → (∀ g, (Value.slice a' n cap).ownBlock = some g → v.ownBlock = some g ∨ g = w.heap.size) → n ≤ cap → wpList Try.prog ops Q rest (a.put o.dst (.slice a' n cap)) w') : wpList Try.prog ops Q (o :: rest) a w := by
  subst hn hR
  refine wpList_plain hgd fun K hK => ?_
  obtain ⟨a', cap, w', hr, h2, h3, h4⟩ := run_append_jk hS hE o.type w base v u l r hJ hI hb hb2 hbase
  unfold Oper.wp execOp
  simp only [ho, resolve, invoke, builtin, Sem.run_bind, Sem.run_pure, Result.andThen_ok, List.map_toArray, List.map_cons, List.map_nil, hs, hx, hr]
  refine hK _ _ (h a' cap w' h2 h3 h4 ?_)
  obtain ⟨a2, c2, e, hle⟩ := h2.shape
  injection e with e1 e2 e3
  rw [List.length_append] at hle
  omega
end
theorem info_int : (Try.prog.info? 3).map (fun i => (i.zero, i.size, i.bytes)) = some (some (.int .i64 0), 1, 8) := by kernel_rfl
/-- a block of cells, known whole -/
def Blk (W : World) (O : Nat) (T : TypeId) (cs : List Value) : Prop := W.heap[O]? = some (.cells cs.toArray T (0, 0))
theorem Blk.lt {W : World} {O : Nat} {T : TypeId} {cs : List Value} (h : Blk W O T cs) : O < W.heap.size := (Array.getElem?_eq_some_iff.1 h).1
theorem Blk.cell {W : World} {O : Nat} {T : TypeId} {cs : List Value} (h : Blk W O T cs) (j : Nat) (v : Value) (hv : cs[j]? = some v) : W.cell? ⟨O, j, none⟩ = some v := by
  have h' : W.heap[O]? = some (.cells cs.toArray T (0, 0)) := h
  simp only [World.cell?, h']
  simpa using hv
theorem Blk.frozen {W : World} {O : Nat} {T : TypeId} {cs : List Value} (h : Blk W O T cs) (j : Nat) : W.frozen? ⟨O, j, none⟩ = false := by
  have h' : W.heap[O]? = some (.cells cs.toArray T (0, 0)) := h
  simp [World.frozen?, h']
theorem Blk.below {W W' : World} {O n : Nat} {T : TypeId} {cs : List Value} (h : Blk W O T cs) (hO : O < n) (hb : Below n W W') : Blk W' O T cs := (hb.block O hO).trans h
theorem Blk.keep {W W' : World} {O : Nat} {T : TypeId} {cs : List Value} (h : Blk W O T cs) (hb : Below W.heap.size W W') : Blk W' O T cs := h.below h.lt hb
theorem Blk.grown {W W' : World} {O : Nat} {row : Option Nat} {T : TypeId} {cs : List Value} (h : Blk W O T cs) (hg : W.grownBy W' row) (hne : some O ≠ row) : Blk W' O T cs := (hg.block O h.lt hne).trans h
theorem Blk.alloc {W : World} {O : Nat} {T : TypeId} {cs : List Value} (h : Blk W O T cs) (o : Obj) : Blk (W.alloc o) O T cs := h.keep ((Below.refl _ _).alloc (Nat.le_refl _) _)
theorem Blk.new (W : World) (T : TypeId) (cs : List Value) : Blk (W.alloc (.cells cs.toArray T)) W.heap.size T cs := by
  unfold Blk World.alloc
  simp
theorem Blk.set {W : World} {O j : Nat} {T : TypeId} {cs : List Value} (h : Blk W O T cs) (v : Value) : Blk (W.setCell ⟨O, j, none⟩ v) O T (cs.set j v) := by
  have h' : W.heap[O]? = some (.cells cs.toArray T (0, 0)) := h
  have hlt := h.lt
  have h2 : W.heap[O] = .cells cs.toArray T (0, 0) := by simpa [Array.getElem?_eq_getElem hlt] using h'
  show (W.heap.modify O _)[O]? = _
  rw [Array.getElem?_eq_getElem (by simpa using hlt), Array.getElem_modify_self, h2]
  simp
theorem Blk.other {W : World} {O : Nat} {T : TypeId} {cs : List Value} (h : Blk W O T cs) {p : Addr} (hp : p.block ≠ O) (v : Value) : Blk (W.setCell p v) O T cs := by
  have h' : W.heap[O]? = some (.cells cs.toArray T (0, 0)) := h
  show (W.heap.modify p.block _)[O]? = _
  rw [Array.getElem?_modify, if_neg hp]; exact h'
theorem IsK.setO {k : IntKind} {M : Nat} {w : World} {v : Value} {l : List Nat} (h : IsK k M w v l) {p : Addr} (hne : ∀ b off n c, v = .slice (some ⟨b, off, none⟩) n c → b ≠ p.block) (u : Value) : IsK k M (w.setCell p u) v l := by
  obtain ⟨h1, h2, ⟨rfl, a, c, rfl⟩ | ⟨b, off, c, rfl, h3, h4, h5, h6⟩⟩ := h
  · exact ⟨h1, h2, .inl ⟨rfl, a, c, rfl⟩⟩
  · have hs : (w.setCell p u).heap.size = w.heap.size := by simp [World.setCell]
    refine ⟨h1, h2, .inr ⟨b, off, c, rfl, h3, h4, by omega, fun j hj => ?_⟩⟩
    have := hne _ _ _ _ rfl
    rw [World.cell?_setCell_other _ _ _ _ (by intro e; exact this (by rw [e]))]; exact h6 j hj
end Vt
end Go.Proofs.Ytlddogigbodilaa
namespace Go.Proofs.Ytlddogigbodilaa
open Go.RowKit Go.Shelf
namespace Vt
structure KeepS (S : Nat → Prop) (w w' : World) : Prop where
  os : w'.os = w.os
  tape : w'.tape = w.tape
  output : w'.output = w.output
  size : w.heap.size ≤ w'.heap.size
  block : ∀ k, S k → w'.heap[k]? = w.heap[k]?
section
variable {S : Nat → Prop}
theorem KeepS.refl (w : World) : KeepS S w w := ⟨rfl, rfl, rfl, Nat.le_refl _, fun _ _ => rfl⟩
theorem KeepS.trans {a b c : World} (h : KeepS S a b) (k : KeepS S b c) : KeepS S a c :=
  ⟨k.os.trans h.os, k.tape.trans h.tape, k.output.trans h.output, Nat.le_trans h.size k.size, fun i hi => (k.block i hi).trans (h.block i hi)⟩
theorem KeepS.of_below {n : Nat} {a b : World} (h : Below n a b) (hS : ∀ k, S k → k < n) : KeepS S a b := ⟨h.os, h.tape, h.output, h.size, fun i hi => h.block i (hS i hi)⟩
theorem KeepS.below {n : Nat} {a b : World} (h : KeepS S a b) (hS : ∀ k, k < n → S k) : Below n a b := ⟨h.os, h.tape, h.output, h.size, fun i hi => h.block i (hS i hi)⟩
theorem KeepS.cell {a b : World} (h : KeepS S a b) {p : Addr} (hp : S p.block) : b.cell? p = a.cell? p := World.cell?_of_block (w := a) (h.block p.block hp)
theorem KeepS.setCell {a b : World} (h : KeepS S a b) {p : Addr} (hp : ¬ S p.block) (u : Value) : KeepS S a (b.setCell p u) :=
  h.trans ⟨rfl, rfl, rfl, by simp [World.setCell], fun k hk => Below.heap_setCell _ _ _ _ (fun e => hp (by first | rw [← e]; exact hk | rw [e]; exact hk))⟩
theorem KeepS.grown {a b c : World} {row : Option Nat} (h : KeepS S a b) (hg : b.grownBy c row) (hS : ∀ k, S k → k < b.heap.size) (hr : ∀ k, row = some k → ¬ S k) : KeepS S a c :=
  h.trans ⟨hg.os, hg.tape, hg.output, hg.size, fun k hk => hg.block k (hS k hk) (fun e => hr k e.symm hk)⟩
theorem KeepS.alloc {a b : World} (h : KeepS S a b) (hS : ∀ k, S k → k < b.heap.size) (o : Obj) : KeepS S a (b.alloc o) :=
  h.trans ⟨rfl, rfl, rfl, by simp, fun k hk => Below.heap_alloc _ _ _ (hS k hk)⟩
theorem KeepS.drewN {a b : World} (h : KeepS S a b) (n : Nat) : KeepS S a (b.drewN n) := h.trans ⟨rfl, rfl, rfl, Nat.le_refl _, fun _ _ => rfl⟩
theorem KeepS.drew {a b : World} (h : KeepS S a b) : KeepS S a b.drew := h.trans ⟨rfl, rfl, rfl, Nat.le_refl _, fun _ _ => rfl⟩
theorem keepS_t {A B C : World} (h : KeepS S A B) (k : KeepS S B C) : KeepS S A C := h.trans k
theorem keepS_b {w : World} (hS : ∀ k, S k → k < w.heap.size) (W : World) (l : Nat) (o o' : Obj) (hl : w.heap.size ≤ l) (h : W.heap[l]? = some o) (_ : o.isCells = false) (_ : o.isWalk = false) : KeepS S W (W.putObj l o') := by
  have hg := grownBy_putObj' W l o'
  refine ⟨hg.os, hg.tape, hg.output, hg.size, fun k hk => hg.block k ?_ ?_⟩
  · have := (Array.getElem?_eq_some_iff.1 h).1
    have := hS k hk
    omega
  · intro e
    injection e with e
    have := hS k hk
    omega
theorem ownFrom_keepS {β : Type} {B : Nat} {w₀ : World} (hS : ∀ k, S k → k < w₀.heap.size) (hB : ∀ k, S k → k < B) : OwnFrom B (fun (_ : β) W => KeepS S w₀ W) :=
  fun _ _ _ _ hs hg hr => hs.grown hg (fun k hk => Nat.lt_of_lt_of_le (hS k hk) hs.size) (fun k e hk => by have := (hr k e).1; have := hB k hk; omega)
theorem boxed_keepS {W W' : World} {B : Nat} {t : TypeId} {v : Value} (h : Boxed W B t v) (hB : S B) (hb : KeepS S W W') : Boxed W' B t v := (hb.block B hB).trans h
theorem Blk.keepS {W W' : World} {O : Nat} {T : TypeId} {cs : List Value} (h : Blk W O T cs) (hO : S O) (hb : KeepS S W W') : Blk W' O T cs := (hb.block O hO).trans h
theorem IsK.keepS {k : IntKind} {M : Nat} {w w' : World} {v : Value} {l : List Nat} (h : IsK k M w v l) (hS : ∀ b off n c, v = .slice (some ⟨b, off, none⟩) n c → S b) (hb : KeepS S w w') : IsK k M w' v l := by
  obtain ⟨h1, h2, ⟨rfl, a, c, rfl⟩ | ⟨b, off, c, rfl, h3, h4, h5, h6⟩⟩ := h
  · exact ⟨h1, h2, .inl ⟨rfl, a, c, rfl⟩⟩
  · refine ⟨h1, h2, .inr ⟨b, off, c, rfl, h3, h4, Nat.lt_of_lt_of_le h5 hb.size, fun j hj => ?_⟩⟩
    rw [hb.cell (p := ⟨b, off + j, none⟩) (hS _ _ _ _ rfl)]; exact h6 j hj
theorem Buf.keepS {w w' : World} {g cap : Nat} {l : List Nat} (h : Buf w g cap l) (hg : S g) (hb : KeepS S w w') : Buf w' g cap l := by
  obtain ⟨h1, h2, h3, h4, h5, h6⟩ := h
  refine ⟨h1, h2, Nat.lt_of_lt_of_le h3 hb.size, h4, fun k hk => ?_, fun k hk => ?_⟩
  · rw [hb.cell (p := ⟨g, 0 + k, none⟩) hg]; exact h5 k hk
  · rw [World.frozen?_of_block (a := ⟨g, k, none⟩) (hb.block g hg)]; exact h6 k hk
theorem JK.keepS {k : IntKind} {M : Nat} {E : TypeId} {w w' : World} {base : Nat} {v : Value} {l : List Nat} (h : JK k M E w base v l) (hS : ∀ g, v.ownBlock = some g → S g) (hb : KeepS S w w') : JK k M E w' base v l := by
  obtain ⟨h1, h0, ⟨rfl, e⟩ | ⟨g', cap', cur, rfl, hbs, hh, hr⟩⟩ := h
  · exact ⟨h1, h0, .inl ⟨rfl, e⟩⟩
  · refine ⟨h1, h0, .inr ⟨g', cap', cur, rfl, hbs, ?_, hr⟩⟩
    rw [hb.block g' (hS g' rfl)]; exact hh
end
theorem prefix_snoc {α : Type} {pre xs : List α} {x : α} (h : pre <+: xs) : (pre ++ [x] <+: xs ↔ xs[pre.length]? = some x) := by
  obtain ⟨t, rfl⟩ := h
  rw [List.prefix_append_right_inj, List.getElem?_append_right (Nat.le_refl _), Nat.sub_self]
  cases t with
  | nil => simp
  | cons y t => simp [List.cons_prefix_cons, eq_comm]
theorem boxed_below {W W' : World} {B n : Nat} {t : TypeId} {v : Value} (h : Boxed W B t v) (hB : B < n) (hb : Below n W W') : Boxed W' B t v := (hb.block B hB).trans h
end Vt
end Go.Proofs.Ytlddogigbodilaa
namespace Go.Proofs.Ytlddogigbodilaa
open Go.RowKit Go.Shelf
namespace Vt
/-- a function with ranges over iterators that returns: no other way out -/
def bodyPostF (F : Fence) (n : Nat) (P : Program) (fn : Func) (R : Ending → World → Prop) : Exit → Act → World → Prop
  | .normal, a, w | .ret, a, w => LeavesInM F n P fn a.tmps R a.defers .returning w
  | _, _, _ => False
theorem bodyPostF_M {F : Fence} {n : Nat} {P : Program} {fn : Func} {R : Ending → World → Prop} : ∀ e a w, bodyPostF F n P fn R e a w → bodyPostM F n P fn R e a w := by
  intro e a w h
  cases e with
  | normal => exact h
  | ret => exact h
  | _ => exact h.elim
/-- append, left standing by the walk: its run is handed in as an equation -/
def apH (ats : Array TypeId) (ty : TypeId) (args : Array Value) : Sem Value := Builtin.append_ ats ty args
theorem append_hide (ats : Array TypeId) (ty : TypeId) (args : Array Value) : Builtin.append_ ats ty args = apH ats ty args := rfl
section
variable {k : IntKind} {M : Nat} {E S : TypeId} {by_ : Nat}
theorem wpListIn_append_jk {F : Fence} {d : Nat} (hS : Try.prog.underlying S = some (.slice E)) (hE : (Try.prog.info? E).map (fun i => (i.zero, i.size, i.bytes)) = some (some (.int k 0), 1, by_)) (w : World) {ops : Array Oper} {rest : List Oper} {o : Oper} {a : Act} {Q : Exit → Act → World → Prop} (hgd : o.guard = none) (s x : Operand)
    (ho : o.op = .call { callee := .builtin .append, args := #[s, x], argTypes := #[S, S] })
    (base : Nat) (v u : Value) (l r : List Nat) (hs : a.eval s = v) (hx : a.eval x = u) (hJ : JK k M E w base v l) (hI : IsK k M w u r) (n : Nat) (hn : l.length + r.length = n) (R : List Nat) (hR : l ++ r = R) (hb : n * by_ ≤ 140737488355328) (hb2 : n ≤ 140737488355328) (hbase : base ≤ w.heap.size)
    (h : ∀ a' cap w', JK k M E w' base (.slice a' n cap) R → w.grownBy w' v.ownBlock → (∀ g, (Value.slice a' n cap).ownBlock = some g → v.ownBlock = some g ∨ g = w.heap.size) → n ≤ cap → wpListIn F d Try.prog ops Q rest (a.put o.dst (.slice a' n cap)) w') : wpListIn F d Try.prog ops Q (o :: rest) a w := by
  subst hn hR
  refine wpListIn_plain hgd fun K hK => ?_
  obtain ⟨a', cap, w', hr, h2, h3, h4⟩ := run_append_jk hS hE o.type w base v u l r hJ hI hb hb2 hbase
  have hle : l.length + r.length ≤ cap := by
    obtain ⟨a2, c2, e, hle⟩ := h2.shape
    injection e with e1 e2 e3
    rw [List.length_append] at hle
    omega
  unfold Oper.wpIn
  refine ⟨?_, ?_⟩
  · simp [Oper.about, ho, resolve, Target.leads, Sem.run_pure]
  · rw [Oper.semAt_plain F _ _ (by rw [ho]; intro c hc'; cases hc')]
    simp [execOp, ho, resolve, invoke, builtin, hs, hx, hr, Result.andThen]
    exact hK _ _ (h a' cap w' h2 h3 h4 hle)
/-- .. as one step of a region that draws its order -/
theorem step_append_jk (hS : Try.prog.underlying S = some (.slice E)) (hE : (Try.prog.info? E).map (fun i => (i.zero, i.size, i.bytes)) = some (some (.int k 0), 1, by_)) (w : World) {ops : Array Oper} {o : Oper} {a : Act} {K : Act → World → Prop} {Q : Exit → Act → World → Prop} {X : Prop} (hgd : o.guard = none) (s x : Operand)
    (ho : o.op = .call { callee := .builtin .append, args := #[s, x], argTypes := #[S, S] })
    (base : Nat) (v u : Value) (l r : List Nat) (hs : a.eval s = v) (hx : a.eval x = u) (hJ : JK k M E w base v l) (hI : IsK k M w u r) (n : Nat) (hn : l.length + r.length = n) (R : List Nat) (hR : l ++ r = R) (hb : n * by_ ≤ 140737488355328) (hb2 : n ≤ 140737488355328) (hbase : base ≤ w.heap.size)
    (h : ∀ a' cap w', JK k M E w' base (.slice a' n cap) R → w.grownBy w' v.ownBlock → (∀ g, (Value.slice a' n cap).ownBlock = some g → v.ownBlock = some g ∨ g = w.heap.size) → n ≤ cap → K (a.put o.dst (.slice a' n cap)) w') :
    if Region.wanted o (yielded ops a.tmps) = true then Oper.wp Try.prog o a w K Q else X := by
  subst hn hR
  have hw : Region.wanted o (yielded ops a.tmps) = true := by simp [Region.wanted, hgd]
  rw [if_pos hw]
  obtain ⟨a', cap, w', hr, h2, h3, h4⟩ := run_append_jk hS hE o.type w base v u l r hJ hI hb hb2 hbase
  have hle : l.length + r.length ≤ cap := by
    obtain ⟨a2, c2, e, hle⟩ := h2.shape
    injection e with e1 e2 e3
    rw [List.length_append] at hle
    omega
  unfold Oper.wp execOp
  simp only [ho, resolve, invoke, builtin, Sem.run_bind, Sem.run_pure, Result.andThen_ok, List.map_toArray, List.map_cons, List.map_nil, hs, hx, hr]
  exact h a' cap w' h2 h3 h4 hle
theorem JK.drew {w : World} {base : Nat} {v : Value} {l : List Nat} (h : JK k M E w base v l) : JK k M E w.drew base v l := h
theorem JK.drewN {w : World} {base : Nat} {v : Value} {l : List Nat} (h : JK k M E w base v l) (n : Nat) : JK k M E (w.drewN n) base v l := h
/-- a turn of what is no cells leaves the row -/
theorem JK.kept {w w' : World} {base : Nat} {row : Option Nat} {v : Value} {l : List Nat} (h : JK k M E w base v l) (hg : w.grownBy w' row) (hr : ∀ r, row = some r → ∃ o : Obj, w.heap[r]? = some o ∧ o.isCells = false) : JK k M E w' base v l := by
  refine h.grownO hg fun g hgb e => ?_
  obtain ⟨o, ho, hc⟩ := hr g e.symm
  obtain ⟨_, _, ⟨rfl, _⟩ | ⟨g', cap', cur, rfl, hbs, hh, _⟩⟩ := h
  · cases hgb
  · cases hgb
    have : some o = some (.cells cur E (0, 0)) := ho.symm.trans hh
    injection this with this
    rw [this] at hc
    cases hc
theorem Boxed.keptO {W W' : World} {row : Option Nat} {B : Nat} {t : TypeId} {v : Value} (h : Boxed W B t v) (hg : W.grownBy W' row) (hr : ∀ r, row = some r → ∃ o : Obj, W.heap[r]? = some o ∧ o.isCells = false) : Boxed W' B t v := by
  refine h.kept hg fun e => ?_
  obtain ⟨o, ho, hc⟩ := hr B e.symm
  have : some o = some (.cells #[v] t) := ho.symm.trans h
  injection this with this
  rw [this] at hc
  cases hc
/-- a box of another type is no such row -/
theorem JK.not_box {W : World} {B base : Nat} {t : TypeId} {u v : Value} {l : List Nat} (h : Boxed W B t u) (hte : t ≠ E) (hr : JK k M E W base v l) : some B ≠ v.ownBlock := Boxed.not_row h hte hr.2
/-- a box lies as it lay where something was put behind a row -/
theorem box_row {W W' : World} {B base : Nat} {t : TypeId} {u v : Value} {l : List Nat} {o : Obj} (h : Boxed W B t u) (hr : JK k M E W base v l) (hg : (W.alloc o).grownBy W' v.ownBlock) (hte : t ≠ E) : Boxed W' B t u :=
  (h.alloc o).kept hg (JK.not_box (h.alloc o) hte (hr.keepAll ((Below.refl _ _).alloc (Nat.le_refl _) o)))
/-- what was put behind a row is cells: all else lies as it lay -/
theorem others_row {W W' : World} {base : Nat} {v : Value} {l : List Nat} (h : JK k M E W base v l) (hg : W.grownBy W' v.ownBlock) : KeepsOthers W W' := by
  refine ⟨hg.size, fun i o hi ho => ?_⟩
  rw [hg.block i (Array.getElem?_eq_some_iff.1 hi).1 ?_]
  · exact hi
  · intro e
    obtain ⟨_, _, ⟨rfl, _⟩ | ⟨g', cap', cur, rfl, _, hh, _⟩⟩ := h
    · cases e
    · have e' : i = g' := by injection e
      subst e'
      rw [hi] at hh
      injection hh with hh
      rw [hh] at ho
      cases ho
/-- rows of unlike elements are apart -/
theorem JK.apart {k2 : IntKind} {M2 : Nat} {E2 : TypeId} {W : World} {base base2 : Nat} {v u : Value} {l l2 : List Nat} (h : JK k M E W base v l) (h2 : JK k2 M2 E2 W base2 u l2) (hne : E ≠ E2) : ∀ g, v.ownBlock = some g → some g ≠ u.ownBlock := by
  intro g hg e
  obtain ⟨_, _, ⟨rfl, _⟩ | ⟨g1, cap1, cur1, rfl, _, hh1, _⟩⟩ := h
  · cases hg
  · obtain ⟨_, _, ⟨rfl, _⟩ | ⟨g2, cap2, cur2, rfl, _, hh2, _⟩⟩ := h2
    · cases e
    · cases hg
      injection e with e
      have e' : g1 = g2 := e
      subst e'
      rw [hh1] at hh2
      injection hh2 with hh2
      injection hh2 with _ hh2
      exact hne hh2
end
end Vt
end Go.Proofs.Ytlddogigbodilaa
