/-
  OWN ROWS THAT THEIR OWNER WRITES FULL AND MAKES LONGER: rows of one-cell values of any type ('JV'); an append of one element that tells besides what becomes of the elder list ('AppPost'); the relation of a loop of such appends ('Ext').
  ROWS OF INTEGERS OF THE CALL'S OWN, of any kind ('JK'): 'append' as a law for the walk; whole blocks of cells ('Blk').
-/
import Derived.Test.YtabfgoojhangnaaXeab
import Derived.ArgAppend
namespace Go.Proofs.Ytabfgoojhangnaa
open Go.RowKit
namespace Ow
open Vt
/-- a row of the call's own, of one-cell values -/
def JV (E : TypeId) (w : World) (base : Nat) (v : Value) (xs : List Value) : Prop := (∀ u ∈ xs, u.oneCell' = true) ∧ w.ownsRow base E 1 v xs.length xs
section
variable {E : TypeId}
theorem JV.shape {w : World} {base : Nat} {v : Value} {xs : List Value} (h : JV E w base v xs) : ∃ a c, v = .slice a xs.length c ∧ xs.length ≤ c := by
  rcases h.2.2 with ⟨rfl, e⟩ | ⟨g, cap, cur, rfl, _, _, hl, _⟩
  · exact ⟨none, 0, by rw [e], by omega⟩
  · exact ⟨_, cap, rfl, hl⟩
theorem JV.blk_lt {w : World} {base : Nat} {v : Value} {xs : List Value} (h : JV E w base v xs) : ∀ g, v.ownBlock = some g → g < w.heap.size := by
  intro g hg
  obtain ⟨_, _, ⟨rfl, e⟩ | ⟨g', cap', cur, rfl, hbs, hh, hr⟩⟩ := h
  · cases hg
  · cases hg
    exact (Array.getElem?_eq_some_iff.1 hh).1
theorem JV.blk_ge {w : World} {base : Nat} {v : Value} {xs : List Value} (h : JV E w base v xs) : ∀ g, v.ownBlock = some g → base ≤ g := by
  intro g hg
  obtain ⟨_, _, ⟨rfl, e⟩ | ⟨g', cap', cur, rfl, hbs, hh, hr⟩⟩ := h
  · cases hg
  · cases hg
    exact hbs
/-- the row's block is as it was: so is the row -/
theorem JV.same {w w' : World} {base : Nat} {v : Value} {xs : List Value} (h : JV E w base v xs) (hb : ∀ g, v.ownBlock = some g → w'.heap[g]? = w.heap[g]?) : JV E w' base v xs := by
  obtain ⟨h1, h0, ⟨rfl, e⟩ | ⟨g', cap', cur, rfl, hbs, hh, hr⟩⟩ := h
  · exact ⟨h1, h0, .inl ⟨rfl, e⟩⟩
  · exact ⟨h1, h0, .inr ⟨g', cap', cur, rfl, hbs, (hb g' rfl).trans hh, hr⟩⟩
theorem JV.grownO {w w' : World} {base : Nat} {row : Option Nat} {v : Value} {xs : List Value} (h : JV E w base v xs) (hg : w.grownBy w' row) (hne : ∀ g, v.ownBlock = some g → some g ≠ row) : JV E w' base v xs :=
  h.same fun g e => hg.block g (h.blk_lt g e) (hne g e)
theorem JV.below {w w' : World} {base : Nat} {v : Value} {xs : List Value} (h : JV E w base v xs) (hb : Below w.heap.size w w') : JV E w' base v xs :=
  h.same fun g e => hb.block g (h.blk_lt g e)
theorem JV.mono {w : World} {base b' : Nat} {v : Value} {xs : List Value} (h : JV E w base v xs) (hb : b' ≤ base) : JV E w b' v xs := by
  obtain ⟨h1, h0, ⟨rfl, e⟩ | ⟨g', cap', cur, rfl, hbs, hr⟩⟩ := h
  · exact ⟨h1, h0, .inl ⟨rfl, e⟩⟩
  · exact ⟨h1, h0, .inr ⟨g', cap', cur, rfl, by omega, hr⟩⟩
/-- a shorter slice of the same row -/
theorem JV.pre {w : World} {base g n cap : Nat} {xs ys : List Value} (h : JV E w base (.slice (some ⟨g, 0, none⟩) n cap) (xs ++ ys)) : JV E w base (.slice (some ⟨g, 0, none⟩) xs.length cap) xs := by
  obtain ⟨h1, h0, ⟨e, _⟩ | ⟨g', cap', cur, e, hbs, hh, hl, hm, hc, ht⟩⟩ := h
  · cases e
  · injection e with e1 e2 e3
    injection e1 with e1
    injection e1 with e4 _
    subst e4 e3
    rw [List.length_append] at hl
    refine ⟨fun u hu => h1 u (List.mem_append_left _ hu), by simp, .inr ⟨g, cap, cur, rfl, hbs, hh, by omega, hm, hc, ?_⟩⟩
    have := congrArg (List.take xs.length) ht
    rw [List.take_left, List.take_take, List.length_append, Nat.mul_one, show min xs.length (xs.length + ys.length) = xs.length by omega] at this
    rw [Nat.mul_one]
    exact this
theorem JV.at {w : World} {base g n cap : Nat} {xs : List Value} (h : JV E w base (.slice (some ⟨g, 0, none⟩) n cap) xs) : n = xs.length ∧ n ≤ cap ∧ cap ≤ maxLen ∧ g < w.heap.size ∧ base ≤ g ∧ ∀ j u, xs[j]? = some u → w.cell? ⟨g, j, none⟩ = some u ∧ w.frozen? ⟨g, j, none⟩ = false := by
  obtain ⟨h1, h0, ⟨e, _⟩ | ⟨g', cap', cur, e, hbs, hh, hl, hm, hc, ht⟩⟩ := h
  · cases e
  · injection e with e1 e2 e3
    injection e1 with e1
    injection e1 with e4 _
    subst e4 e3 e2
    refine ⟨rfl, hl, hm, (Array.getElem?_eq_some_iff.1 hh).1, hbs, fun j u hu => ⟨?_, by simp [World.frozen?, hh]⟩⟩
    have hj : j < xs.length := (List.getElem?_eq_some_iff.1 hu).1
    rw [← ht, List.getElem?_take_of_lt (by omega)] at hu
    simp only [World.cell?, hh]
    simpa using hu
theorem JV.set {w : World} {base g n cap j : Nat} {xs : List Value} (h : JV E w base (.slice (some ⟨g, 0, none⟩) n cap) xs) (hn : n = xs.length) {u : Value} (hu : u.oneCell' = true) : JV E (w.setCell ⟨g, j, none⟩ u) base (.slice (some ⟨g, 0, none⟩) n cap) (xs.set j u) := by
  subst hn
  refine ⟨fun x hx => ?_, ?_⟩
  · rcases List.mem_or_eq_of_mem_set hx with hx | hx
    · exact h.1 x hx
    · rw [hx]; exact hu
  · have := own_set (j := j) h.2 u
    rw [List.length_set]
    exact this
/-- what an append of one element leaves -/
structure AppPost (E : TypeId) (w : World) (base : Nat) (v : Value) (xs : List Value) (u0 : Value) (v' : Value) (w' : World) : Prop where
  row : JV E w' base v' (xs ++ [u0])
  old : JV E w' base v xs
  grown : w.grownBy w' v.ownBlock
  way : (∃ g cap, v = .slice (some ⟨g, 0, none⟩) xs.length cap ∧ v' = .slice (some ⟨g, 0, none⟩) (xs.length + 1) cap) ∨ ((∃ h, v'.ownBlock = some h ∧ w.heap.size ≤ h) ∧ w.grownBy w' none)
variable {S : TypeId} {z : Value} {by_ : Nat}
theorem run_append_keep (hS : Try.prog.underlying S = some (.slice E)) (hE : (Try.prog.info? E).map (fun i => (i.zero, i.size, i.bytes)) = some (some z, 1, by_)) (hz : z.cells.size = 1) (ty : TypeId) (w : World) (base : Nat) (v : Value) (xs : List Value) (hJ : JV E w base v xs) (ad : Addr) (c : Nat) (u0 : Value) (hu : w.cell? ad = some u0) (h1 : u0.oneCell' = true) (hb : (xs.length + 1) * by_ ≤ 140737488355328) (hb2 : xs.length + 1 ≤ maxLen) (hbase : base ≤ w.heap.size) :
    ∃ a' cap w', (Builtin.append_ #[S, S] ty #[v, .slice (some ad) 1 c]).run Try.prog w = .ok (.slice a' (xs.length + 1) cap) w' ∧ AppPost E w base v xs u0 (.slice a' (xs.length + 1) cap) w' := by
  obtain ⟨i0, hi, hz0, hz1, hz2⟩ := info_parts hE
  have hnews : ∀ j u, [u0][j]? = some u → w.cell? (ad.add j) = some u := by
    intro j u hj
    cases j with
    | zero => simp at hj; subst hj; simpa [Addr.add] using hu
    | succ j => simp at hj
  have hone : ∀ u ∈ [u0], u.oneCell' = true := by intro u hu'; simp at hu'; rw [hu']; exact h1
  have hall : ∀ u ∈ xs ++ [u0], u.oneCell' = true := by
    intro u hu'
    rcases List.mem_append.1 hu' with hu' | hu'
    · exact hJ.1 u hu'
    · exact hone u hu'
  have hlen : (xs ++ [u0]).length = xs.length + 1 := by simp
  obtain ⟨hx1, h0, ⟨rfl, e⟩ | ⟨g, cap, cur, rfl, hbs, hh, hl, hm, hc, ht⟩⟩ := hJ
  · obtain rfl : xs = [] := List.length_eq_zero_iff.1 e
    obtain ⟨g, cap, w', hr, h2, h3, h4, _⟩ := run_append_lies (P := Try.prog) w S ty base E i0 z 1 by_ hS hi hz0 hz1 hz2 hz (by decide) (.slice none 0 0) 0 [] ⟨rfl, .inl ⟨rfl, rfl⟩⟩ ad 1 c [u0] rfl hnews hone (by omega) (by simpa using hb2) (by simpa using hb) hbase w.heap.size rfl
    refine ⟨_, cap, w', hr, ⟨⟨hall, by rw [hlen]; exact h2⟩, ⟨by simp, rfl, .inl ⟨rfl, rfl⟩⟩, h3, .inr ⟨⟨g, rfl, ?_⟩, h3⟩⟩⟩
    rcases h4 with h4 | h4
    · cases h4
    · omega
  · by_cases hroom : xs.length + 1 ≤ cap
    · have hown : w.ownsRow base E 1 (.slice (some ⟨g, 0, none⟩) xs.length cap) xs.length xs := ⟨h0, .inr ⟨g, cap, cur, rfl, hbs, hh, hl, hm, hc, ht⟩⟩
      obtain ⟨w', hr, h2, h3⟩ := run_append_fits (P := Try.prog) w base S ty E i0 1 hS hi hz1 g xs.length cap xs hown ad 1 c [u0] rfl hnews hone hroom
      have hJ' : JV E w' base (.slice (some ⟨g, 0, none⟩) (xs.length + 1) cap) (xs ++ [u0]) := ⟨hall, by rw [hlen]; exact h2⟩
      exact ⟨_, cap, w', hr, ⟨hJ', hJ'.pre, h3, .inl ⟨g, cap, rfl, rfl⟩⟩⟩
    · have hJ0 : JV E w base (.slice (some ⟨g, 0, none⟩) xs.length cap) xs := ⟨hx1, h0, .inr ⟨g, cap, cur, rfl, hbs, hh, hl, hm, hc, ht⟩⟩
      obtain ⟨_, _, _, _, _, hcell⟩ := hJ0.at
      obtain ⟨v', w', hr, h2, h3⟩ := run_append_arg_grows (P := Try.prog) w S ty E i0 z 1 by_ hS hi hz0 hz1 hz2 hz (by decide) ⟨g, 0, none⟩ xs.length cap xs (by simp) (fun j u hj => by rw [add_at, Nat.zero_add]; exact (hcell j u hj).1) ad 1 c [u0] rfl hnews (by omega) hb2 hb
      obtain ⟨g2, cap2, rfl, hg2, hlt2⟩ := h2.form (by omega)
      have hJ2 : JV E w' w.heap.size (.slice (some ⟨g2, 0, none⟩) (xs.length + 1) cap2) (xs ++ [u0]) := ⟨hall, by rw [hlen]; exact h2⟩
      refine ⟨_, cap2, w', hr, ⟨hJ2.mono hbase, hJ0.grownO h3 (fun g e => by simp), ⟨h3.os, h3.tape, h3.output, h3.size, fun k hk _ => h3.block k hk (by simp)⟩, .inr ⟨⟨g2, rfl, hJ2.blk_ge g2 rfl⟩, h3⟩⟩⟩
theorem wpList_append_keep (hS : Try.prog.underlying S = some (.slice E)) (hE : (Try.prog.info? E).map (fun i => (i.zero, i.size, i.bytes)) = some (some z, 1, by_)) (hz : z.cells.size = 1) (w : World) {ops : Array Oper} {rest : List Oper} {o : Oper} {a : Act} {Q : Exit → Act → World → Prop} (hgd : o.guard = none) (s x : Operand)
    (ho : o.op = .call { callee := .builtin .append, args := #[s, x], argTypes := #[S, S] })
    (base : Nat) (v : Value) (xs : List Value) (ad : Addr) (c : Nat) (u0 : Value) (hs : a.eval s = v) (hx : a.eval x = .slice (some ad) 1 c) (hJ : JV E w base v xs) (hu : w.cell? ad = some u0) (h1 : u0.oneCell' = true) (n : Nat) (hn : xs.length + 1 = n) (hb : n * by_ ≤ 140737488355328) (hb2 : n ≤ maxLen) (hbase : base ≤ w.heap.size)
    (h : ∀ a' cap w', AppPost E w base v xs u0 (.slice a' n cap) w' → wpList Try.prog ops Q rest (a.put o.dst (.slice a' n cap)) w') : wpList Try.prog ops Q (o :: rest) a w := by
  subst hn
  refine wpList_plain hgd fun K hK => ?_
  obtain ⟨a', cap, w', hr, hp⟩ := run_append_keep hS hE hz o.type w base v xs hJ ad c u0 hu h1 hb hb2 hbase
  unfold Oper.wp execOp
  simp only [ho, resolve, invoke, builtin, Sem.run_bind, Sem.run_pure, Result.andThen_ok, List.map_toArray, List.map_cons, List.map_nil, hs, hx, hr]
  exact hK _ _ (h a' cap w' hp)
/-- a loop of such appends, begun with v0 in the world W: k elements more -/
structure Ext (E : TypeId) (W : World) (base : Nat) (v0 : Value) (xs : List Value) (u0 : Value) (k : Nat) (v : Value) (w : World) : Prop where
  row : JV E w base v (xs ++ List.replicate k u0)
  old : JV E w base v0 xs
  os : w.os = W.os
  tape : w.tape = W.tape
  output : w.output = W.output
  size : W.heap.size ≤ w.heap.size
  block : ∀ b, b < W.heap.size → some b ≠ v0.ownBlock → w.heap[b]? = W.heap[b]?
  way : (∃ g cap, v0 = .slice (some ⟨g, 0, none⟩) xs.length cap ∧ v = .slice (some ⟨g, 0, none⟩) (xs.length + k) cap) ∨ (k = 0 ∧ v = v0) ∨ ∃ h, v.ownBlock = some h ∧ W.heap.size ≤ h
theorem Ext.start {W : World} {base : Nat} {v0 : Value} {xs : List Value} (h : JV E W base v0 xs) (u0 : Value) : Ext E W base v0 xs u0 0 v0 W :=
  ⟨by simpa using h, h, rfl, rfl, rfl, Nat.le_refl _, fun _ _ _ => rfl, .inr (.inl ⟨rfl, rfl⟩)⟩
theorem Ext.step {W w w' : World} {base : Nat} {v0 v v' : Value} {xs : List Value} {u0 : Value} {k : Nat} {o : Obj} (hx : JV E W base v0 xs) (h : Ext E W base v0 xs u0 k v w) (hp : AppPost E (w.alloc o) base v (xs ++ List.replicate k u0) u0 v' w') : Ext E W base v0 xs u0 (k + 1) v' w' := by
  have hrow : JV E w' base v' (xs ++ List.replicate (k + 1) u0) := by
    rw [List.replicate_succ', ← List.append_assoc]; exact hp.row
  have hsz : (w.alloc o).heap.size = w.heap.size + 1 := by simp
  have hal : ∀ b, b < w.heap.size → (w.alloc o).heap[b]? = w.heap[b]? := fun b hb => ((Below.refl w.heap.size w).alloc (Nat.le_refl _) o).block b hb
  have hv0 : ∀ g, v0.ownBlock = some g → g < W.heap.size := fun g e => hx.blk_lt g e
  have hold : JV E (w.alloc o) base v0 xs := h.old.same fun g e => hal g (h.old.blk_lt g e)
  -- the row that grows is v0's own, or lies behind W
  have hvb : ∀ b, b < W.heap.size → some b ≠ v0.ownBlock → some b ≠ v.ownBlock := by
    intro b hb hne
    rcases h.way with ⟨g, cap, e1, e2⟩ | ⟨_, e⟩ | ⟨g, e, hg⟩
    · rw [e1] at hne; rw [e2]; exact hne
    · rw [e]; exact hne
    · rw [e]; intro q; injection q with q; omega
  have hblk : ∀ b, b < W.heap.size → some b ≠ v0.ownBlock → w'.heap[b]? = W.heap[b]? := by
    intro b hb hne
    have h1 := hp.grown.block b (by rw [hsz]; have := h.size; omega) (hvb b hb hne)
    rw [h1, hal b (by have := h.size; omega), h.block b hb hne]
  refine ⟨hrow, ?_, hp.grown.os.trans h.os, hp.grown.tape.trans h.tape, hp.grown.output.trans h.output, by have := hp.grown.size; have := h.size; omega, hblk, ?_⟩
  · rcases h.way with ⟨g, cap, e1, e2⟩ | ⟨hk, e⟩ | ⟨g, e, hg⟩
    · rw [e1]
      have := hp.old
      rw [e2] at this
      exact this.pre
    · subst hk
      have := hp.old
      rw [e] at this
      simpa using this
    · refine hold.grownO hp.grown fun g' e' q => ?_
      rw [e] at q
      injection q with q
      have := hv0 g' e'
      omega
  · rcases hp.way with ⟨g, cap, e1, e2⟩ | ⟨⟨g, e, hg⟩, _⟩
    · have hl : (xs ++ List.replicate k u0).length = xs.length + k := by simp
      rw [hl] at e1 e2
      rcases h.way with ⟨g2, cap2, f1, f2⟩ | ⟨hk, f⟩ | ⟨g2, f, hg2⟩
      · left
        rw [e1] at f2
        injection f2 with f3 f4 f5
        exact ⟨g, cap, by rw [f1, ← f3, f5], e2⟩
      · subst hk
        left
        exact ⟨g, cap, by rw [← f, e1]; simp, e2⟩
      · right; right
        rw [e1] at f
        exact ⟨g2, by rw [e2]; exact f, hg2⟩
    · right; right
      exact ⟨g, e, by rw [hsz] at hg; have := h.size; omega⟩
end
end Ow
end Go.Proofs.Ytabfgoojhangnaa
namespace Go.Proofs.Ytabfgoojhangnaa
open Go.RowKit
namespace Vt
def ks (k : IntKind) (l : List Nat) : List Value := l.map fun x => Value.int k ((x : Nat) : Int)
theorem ks_app (k : IntKind) (a b : List Nat) : ks k a ++ ks k b = ks k (a ++ b) := by unfold ks; rw [List.map_append]
theorem ks_len (k : IntKind) (l : List Nat) : (ks k l).length = l.length := by simp [ks]
theorem ks_at (k : IntKind) (l : List Nat) (j : Nat) (hj : j < l.length) : (ks k l)[j]? = some (.int k ((l.getD j 0 : Nat) : Int)) := by
  unfold ks
  rw [List.getElem?_map, List.getElem?_eq_getElem hj, List.getD_eq_getElem?_getD, List.getElem?_eq_getElem hj]; rfl
theorem ks_one (k : IntKind) (l : List Nat) : ∀ u ∈ ks k l, u.oneCell' = true := by
  intro u hu
  obtain ⟨x, _, rfl⟩ := List.mem_map.1 hu
  rfl
theorem news_of_rowK {k : IntKind} {w : World} {b off : Nat} {l : List Nat} (h : RowK k w b off l) : ∀ j u, (ks k l)[j]? = some u → w.cell? (Addr.add ⟨b, off, none⟩ j) = some u := by
  intro j u hu
  have hj : j < l.length := by
    have := (List.getElem?_eq_some_iff.1 hu).1
    simpa [ks] using this
  rw [add_at, h j hj]
  rw [ks_at k l j hj] at hu
  exact hu
/-- a list of numbers of the call's own: nil where there is none -/
def JK (k : IntKind) (M : Nat) (E : TypeId) (w : World) (base : Nat) (v : Value) (l : List Nat) : Prop := (∀ x ∈ l, x < M) ∧ w.ownsRow base E 1 v l.length (ks k l)
theorem jk_jb {w : World} {base : Nat} {v : Value} {l : List Nat} : JK .u8 256 5 w base v l ↔ JB w base v l := Iff.rfl
section
variable {k : IntKind} {M : Nat} {E : TypeId}
theorem JK.shape {w : World} {base : Nat} {v : Value} {l : List Nat} (h : JK k M E w base v l) : ∃ a c, v = .slice a l.length c ∧ l.length ≤ c := by
  rcases h.2.2 with ⟨rfl, e⟩ | ⟨g, cap, cur, rfl, _, _, hl, _⟩
  · exact ⟨none, 0, by rw [e], by omega⟩
  · exact ⟨_, cap, rfl, hl⟩
theorem JK.isK {w : World} {base : Nat} {v : Value} {l : List Nat} (h : JK k M E w base v l) : IsK k M w v l := by
  obtain ⟨hb, h0, ⟨rfl, e⟩ | ⟨g, cap, cur, rfl, hbs, hh, hl, hm, hc, ht⟩⟩ := h
  · obtain rfl : l = [] := List.length_eq_zero_iff.1 e
    exact isK_nil _ _ _ _ _
  · have hlt := (Array.getElem?_eq_some_iff.1 hh).1
    refine ⟨hb, by omega, .inr ⟨g, 0, cap, rfl, hl, hm, hlt, fun j hj => ?_⟩⟩
    have hat : cur[j]? = some (.int k ((l.getD j 0 : Nat) : Int)) := by
      have := ks_at k l j hj
      rw [← ht, List.getElem?_take_of_lt (by omega)] at this
      simpa using this
    rw [Nat.zero_add]
    simp only [World.cell?, hh]
    simpa using hat
theorem JK.keep {w w' : World} {base n : Nat} {v : Value} {l : List Nat} (h : JK k M E w base v l) (hk : ∀ g, v.ownBlock = some g → g < n) (hb : Below n w w') : JK k M E w' base v l := by
  obtain ⟨h1, h0, ⟨rfl, e⟩ | ⟨g', cap', cur, rfl, hbs, hh, hr⟩⟩ := h
  · exact ⟨h1, h0, .inl ⟨rfl, e⟩⟩
  · refine ⟨h1, h0, .inr ⟨g', cap', cur, rfl, hbs, ?_, hr⟩⟩
    rw [hb.block g' (hk g' rfl)]; exact hh
theorem JK.blk_lt {w : World} {base : Nat} {v : Value} {l : List Nat} (h : JK k M E w base v l) : ∀ g, v.ownBlock = some g → g < w.heap.size := by
  intro g hg
  obtain ⟨_, _, ⟨rfl, e⟩ | ⟨g', cap', cur, rfl, hbs, hh, hr⟩⟩ := h
  · cases hg
  · cases hg
    exact (Array.getElem?_eq_some_iff.1 hh).1
theorem JK.blk_ge {w : World} {base : Nat} {v : Value} {l : List Nat} (h : JK k M E w base v l) : ∀ g, v.ownBlock = some g → base ≤ g := by
  intro g hg
  obtain ⟨_, _, ⟨rfl, e⟩ | ⟨g', cap', cur, rfl, hbs, hh, hr⟩⟩ := h
  · cases hg
  · cases hg
    exact hbs
theorem JK.keepAll {w w' : World} {base : Nat} {v : Value} {l : List Nat} (h : JK k M E w base v l) (hb : Below w.heap.size w w') : JK k M E w' base v l := h.keep h.blk_lt hb
theorem JK.grownO {w w' : World} {base : Nat} {row : Option Nat} {v : Value} {l : List Nat} (h : JK k M E w base v l) (hg : w.grownBy w' row) (hne : ∀ g, v.ownBlock = some g → some g ≠ row) : JK k M E w' base v l := by
  obtain ⟨h1, h0, ⟨rfl, e⟩ | ⟨g', cap', cur, rfl, hbs, hh, hr⟩⟩ := h
  · exact ⟨h1, h0, .inl ⟨rfl, e⟩⟩
  · refine ⟨h1, h0, .inr ⟨g', cap', cur, rfl, hbs, ?_, hr⟩⟩
    rw [hg.block g' (Array.getElem?_eq_some_iff.1 hh).1 (hne g' rfl)]; exact hh
theorem JK.setO {w : World} {base : Nat} {v : Value} {l : List Nat} (h : JK k M E w base v l) {p : Addr} (hne : ∀ g, v.ownBlock = some g → g ≠ p.block) (u : Value) : JK k M E (w.setCell p u) base v l := by
  obtain ⟨h1, h0, ⟨rfl, e⟩ | ⟨g', cap', cur, rfl, hbs, hh, hr⟩⟩ := h
  · exact ⟨h1, h0, .inl ⟨rfl, e⟩⟩
  · refine ⟨h1, h0, .inr ⟨g', cap', cur, rfl, hbs, ?_, hr⟩⟩
    have := hne g' rfl
    rw [← hh]
    show (w.heap.modify p.block _)[g']? = _
    rw [Array.getElem?_modify, if_neg (fun e => this e.symm)]
theorem jk_nil (w : World) (base : Nat) : JK k M E w base (.slice none 0 0) [] := ⟨by simp, rfl, .inl ⟨rfl, rfl⟩⟩
theorem JK.grown {w w' : World} {base : Nat} {v : Value} {l : List Nat} {n : Nat} {w0 : World} (hJ : JK k M E w base v l) (hb : Below n w0 w) (hn : n ≤ base) (hn2 : n ≤ w.heap.size) (hg : w.grownBy w' v.ownBlock) : Below n w0 w' :=
  hb.grown hg hn2 fun q hq => Nat.le_trans hn (hJ.blk_ge q hq)
variable {S : TypeId} {by_ : Nat}
theorem run_append_jk (hS : Try.prog.underlying S = some (.slice E)) (hE : (Try.prog.info? E).map (fun i => (i.zero, i.size, i.bytes)) = some (some (.int k 0), 1, by_)) (ty : TypeId) (w : World) (base : Nat) (v u : Value) (l r : List Nat) (hJ : JK k M E w base v l) (hI : IsK k M w u r) (hb : (l.length + r.length) * by_ ≤ 140737488355328) (hb2 : l.length + r.length ≤ 140737488355328) (hbase : base ≤ w.heap.size) :
    ∃ a' cap w', (Builtin.append_ #[S, S] ty #[v, u]).run Try.prog w = .ok (.slice a' (l.length + r.length) cap) w' ∧ JK k M E w' base (.slice a' (l.length + r.length) cap) (l ++ r) ∧ w.grownBy w' v.ownBlock ∧ (∀ g, (Value.slice a' (l.length + r.length) cap).ownBlock = some g → v.ownBlock = some g ∨ g = w.heap.size) := by
  obtain ⟨i0, hi, hz0, hz1, hz2⟩ := info_parts hE
  by_cases h0 : r.length = 0
  · obtain rfl : r = [] := List.length_eq_zero_iff.1 h0
    obtain ⟨a, c, rfl⟩ := hI.shape
    obtain ⟨a', c', rfl, hlc⟩ := hJ.shape
    refine ⟨a', c', w, ?_, ?_, World.grownBy.refl _ _, fun g hg => .inl hg⟩
    · cases a <;> cases a' <;> simp [Builtin.append_, run_underlying hS, sizeOf, typeInfo, hi, hlc, Builtin.lenOf, Builtin.firstCells, storeCells, loadCells, loadCellsFrom]
    · simpa using hJ
  · obtain ⟨hbl, hml, ⟨rfl, _⟩ | ⟨bb, oo, cc, rfl, hlc, hcm, hbb, hrow⟩⟩ := hI
    · simp at h0
    · have hlen : (ks k r).length = r.length * 1 := by simp [ks]
      obtain ⟨g, cap, w', hr, h2, h3, h4, _⟩ := run_append_lies (P := Try.prog) w S ty base E i0 (.int k 0) 1 by_ hS hi hz0 hz1 hz2 rfl (by decide) v l.length (ks k l) hJ.2 ⟨bb, oo, none⟩ r.length cc (ks k r) hlen (news_of_rowK hrow) (ks_one k r) (by omega) (by unfold maxLen; omega) hb hbase w.heap.size rfl
      refine ⟨_, cap, w', hr, ⟨?_, ?_⟩, h3, fun g' hg' => by cases hg'; exact h4⟩
      · intro x hx
        rcases List.mem_append.1 hx with hx | hx
        · exact hJ.1 x hx
        · exact hbl x hx
      · rw [ks_app] at h2
        rw [List.length_append]; exact h2
/-- .. for the walk: n: the new length, R: the new list -/
theorem wpList_append_jk (hS : Try.prog.underlying S = some (.slice E)) (hE : (Try.prog.info? E).map (fun i => (i.zero, i.size, i.bytes)) = some (some (.int k 0), 1, by_)) (w : World) {ops : Array Oper} {rest : List Oper} {o : Oper} {a : Act} {Q : Exit → Act → World → Prop} (hgd : o.guard = none) (s x : Operand)
    (ho : o.op = .call { callee := .builtin .append, args := #[s, x], argTypes := #[S, S] })
    (base : Nat) (v u : Value) (l r : List Nat) (hs : a.eval s = v) (hx : a.eval x = u) (hJ : JK k M E w base v l) (hI : IsK k M w u r) (n : Nat) (hn : l.length + r.length = n) (R : List Nat) (hR : l ++ r = R) (hb : n * by_ ≤ 140737488355328) (hb2 : n ≤ 140737488355328) (hbase : base ≤ w.heap.size)
    (h : ∀ a' cap w', JK k M E w' base (.slice a' n cap) R → w.grownBy w' v.ownBlock → (∀ g, (Value.slice a' n cap).ownBlock = some g → v.ownBlock = some g ∨ g = w.heap.size) → n ≤ cap → wpList Try.prog ops Q rest (a.put o.dst (.slice a' n cap)) w') : wpList Try.prog ops Q (o :: rest) a w := by
  subst hn hR
  refine wpList_plain hgd fun K hK => ?_
  obtain ⟨a', cap, w', hr, h2, h3, h4⟩ := run_append_jk hS hE o.type w base v u l r hJ hI hb hb2 hbase
  unfold Oper.wp execOp
  simp only [ho, resolve, invoke, builtin, Sem.run_bind, Sem.run_pure, Result.andThen_ok, List.map_toArray, List.map_cons, List.map_nil, hs, hx, hr]
  refine hK _ _ (h a' cap w' h2 h3 h4 ?_)
  obtain ⟨a2, c2, e, hle⟩ := h2.shape
  injection e with e1 e2 e3
  rw [List.length_append] at hle
  omega
end
theorem info_int : (Try.prog.info? 3).map (fun i => (i.zero, i.size, i.bytes)) = some (some (.int .i64 0), 1, 8) := by kernel_rfl
/-- a block of cells, known whole -/
def Blk (W : World) (O : Nat) (T : TypeId) (cs : List Value) : Prop := W.heap[O]? = some (.cells cs.toArray T (0, 0))
theorem Blk.lt {W : World} {O : Nat} {T : TypeId} {cs : List Value} (h : Blk W O T cs) : O < W.heap.size := (Array.getElem?_eq_some_iff.1 h).1
theorem Blk.cell {W : World} {O : Nat} {T : TypeId} {cs : List Value} (h : Blk W O T cs) (j : Nat) (v : Value) (hv : cs[j]? = some v) : W.cell? ⟨O, j, none⟩ = some v := by
  have h' : W.heap[O]? = some (.cells cs.toArray T (0, 0)) := h
  simp only [World.cell?, h']
  simpa using hv
theorem Blk.frozen {W : World} {O : Nat} {T : TypeId} {cs : List Value} (h : Blk W O T cs) (j : Nat) : W.frozen? ⟨O, j, none⟩ = false := by
  have h' : W.heap[O]? = some (.cells cs.toArray T (0, 0)) := h
  simp [World.frozen?, h']
theorem Blk.below {W W' : World} {O n : Nat} {T : TypeId} {cs : List Value} (h : Blk W O T cs) (hO : O < n) (hb : Below n W W') : Blk W' O T cs := (hb.block O hO).trans h
theorem Blk.keep {W W' : World} {O : Nat} {T : TypeId} {cs : List Value} (h : Blk W O T cs) (hb : Below W.heap.size W W') : Blk W' O T cs := h.below h.lt hb
theorem Blk.grown {W W' : World} {O : Nat} {row : Option Nat} {T : TypeId} {cs : List Value} (h : Blk W O T cs) (hg : W.grownBy W' row) (hne : some O ≠ row) : Blk W' O T cs := (hg.block O h.lt hne).trans h
theorem Blk.alloc {W : World} {O : Nat} {T : TypeId} {cs : List Value} (h : Blk W O T cs) (o : Obj) : Blk (W.alloc o) O T cs := h.keep ((Below.refl _ _).alloc (Nat.le_refl _) _)
theorem Blk.new (W : World) (T : TypeId) (cs : List Value) : Blk (W.alloc (.cells cs.toArray T)) W.heap.size T cs := by
  unfold Blk World.alloc
  simp
theorem Blk.set {W : World} {O j : Nat} {T : TypeId} {cs : List Value} (h : Blk W O T cs) (v : Value) : Blk (W.setCell ⟨O, j, none⟩ v) O T (cs.set j v) := by
  have h' : W.heap[O]? = some (.cells cs.toArray T (0, 0)) := h
  have hlt := h.lt
  have h2 : W.heap[O] = .cells cs.toArray T (0, 0) := by simpa [Array.getElem?_eq_getElem hlt] using h'
  show (W.heap.modify O _)[O]? = _
  rw [Array.getElem?_eq_getElem (by simpa using hlt), Array.getElem_modify_self, h2]
  simp
theorem Blk.other {W : World} {O : Nat} {T : TypeId} {cs : List Value} (h : Blk W O T cs) {p : Addr} (hp : p.block ≠ O) (v : Value) : Blk (W.setCell p v) O T cs := by
  have h' : W.heap[O]? = some (.cells cs.toArray T (0, 0)) := h
  show (W.heap.modify p.block _)[O]? = _
  rw [Array.getElem?_modify, if_neg hp]; exact h'
theorem IsK.setO {k : IntKind} {M : Nat} {w : World} {v : Value} {l : List Nat} (h : IsK k M w v l) {p : Addr} (hne : ∀ b off n c, v = .slice (some ⟨b, off, none⟩) n c → b ≠ p.block) (u : Value) : IsK k M (w.setCell p u) v l := by
  obtain ⟨h1, h2, ⟨rfl, a, c, rfl⟩ | ⟨b, off, c, rfl, h3, h4, h5, h6⟩⟩ := h
  · exact ⟨h1, h2, .inl ⟨rfl, a, c, rfl⟩⟩
  · have hs : (w.setCell p u).heap.size = w.heap.size := by simp [World.setCell]
    refine ⟨h1, h2, .inr ⟨b, off, c, rfl, h3, h4, by omega, fun j hj => ?_⟩⟩
    have := hne _ _ _ _ rfl
    rw [World.cell?_setCell_other _ _ _ _ (by intro e; exact this (by rw [e]))]; exact h6 j hj
end Vt
end Go.Proofs.Ytabfgoojhangnaa
