/-
  OWN ROWS THAT THEIR OWNER WRITES FULL AND MAKES LONGER: rows of one-cell values of any type ('JV'); an append of one element that tells besides what becomes of the elder list ('AppPost'); the relation of a loop of such appends ('Ext').
  THE WALK OF the law's owns: lists that came out are written full, each of a mark of its own, then made longer one by one.
-/
import Derived.Test.YtnjhbidialngmaaXhaa
import Derived.ArgAppend
import Derived.Test.YtnjhbidialngmaaXhac
namespace Go.Proofs.Ytnjhbidialngmaa
open Go.RowKit
namespace Ow
open Vt
/-- a row of the call's own, of one-cell values -/
def JV (E : TypeId) (w : World) (base : Nat) (v : Value) (xs : List Value) : Prop := (∀ u ∈ xs, u.oneCell' = true) ∧ w.ownsRow base E 1 v xs.length xs
section
variable {E : TypeId}
theorem JV.shape {w : World} {base : Nat} {v : Value} {xs : List Value} (h : JV E w base v xs) : ∃ a c, v = .slice a xs.length c ∧ xs.length ≤ c := by
  rcases h.2.2 with ⟨rfl, e⟩ | ⟨g, cap, cur, rfl, _, _, hl, _⟩
  · exact ⟨none, 0, by rw [e], by omega⟩
  · exact ⟨_, cap, rfl, hl⟩
theorem JV.blk_lt {w : World} {base : Nat} {v : Value} {xs : List Value} (h : JV E w base v xs) : ∀ g, v.ownBlock = some g → g < w.heap.size := by
  intro g hg
  obtain ⟨_, _, ⟨rfl, e⟩ | ⟨g', cap', cur, rfl, hbs, hh, hr⟩⟩ := h
  · cases hg
  · cases hg
    exact (Array.getElem?_eq_some_iff.1 hh).1
theorem JV.blk_ge {w : World} {base : Nat} {v : Value} {xs : List Value} (h : JV E w base v xs) : ∀ g, v.ownBlock = some g → base ≤ g := by
  intro g hg
  obtain ⟨_, _, ⟨rfl, e⟩ | ⟨g', cap', cur, rfl, hbs, hh, hr⟩⟩ := h
  · cases hg
  · cases hg
    exact hbs
/-- the row's block is as it was: so is the row -/
theorem JV.same {w w' : World} {base : Nat} {v : Value} {xs : List Value} (h : JV E w base v xs) (hb : ∀ g, v.ownBlock = some g → w'.heap[g]? = w.heap[g]?) : JV E w' base v xs := by
  obtain ⟨h1, h0, ⟨rfl, e⟩ | ⟨g', cap', cur, rfl, hbs, hh, hr⟩⟩ := h
  · exact ⟨h1, h0, .inl ⟨rfl, e⟩⟩
  · exact ⟨h1, h0, .inr ⟨g', cap', cur, rfl, hbs, (hb g' rfl).trans hh, hr⟩⟩
theorem JV.grownO {w w' : World} {base : Nat} {row : Option Nat} {v : Value} {xs : List Value} (h : JV E w base v xs) (hg : w.grownBy w' row) (hne : ∀ g, v.ownBlock = some g → some g ≠ row) : JV E w' base v xs :=
  h.same fun g e => hg.block g (h.blk_lt g e) (hne g e)
theorem JV.below {w w' : World} {base : Nat} {v : Value} {xs : List Value} (h : JV E w base v xs) (hb : Below w.heap.size w w') : JV E w' base v xs :=
  h.same fun g e => hb.block g (h.blk_lt g e)
theorem JV.mono {w : World} {base b' : Nat} {v : Value} {xs : List Value} (h : JV E w base v xs) (hb : b' ≤ base) : JV E w b' v xs := by
  obtain ⟨h1, h0, ⟨rfl, e⟩ | ⟨g', cap', cur, rfl, hbs, hr⟩⟩ := h
  · exact ⟨h1, h0, .inl ⟨rfl, e⟩⟩
  · exact ⟨h1, h0, .inr ⟨g', cap', cur, rfl, by omega, hr⟩⟩
/-- a shorter slice of the same row -/
theorem JV.pre {w : World} {base g n cap : Nat} {xs ys : List Value} (h : JV E w base (.slice (some ⟨g, 0, none⟩) n cap) (xs ++ ys)) : JV E w base (.slice (some ⟨g, 0, none⟩) xs.length cap) xs := by
  obtain ⟨h1, h0, ⟨e, _⟩ | ⟨g', cap', cur, e, hbs, hh, hl, hm, hc, ht⟩⟩ := h
  · cases e
  · injection e with e1 e2 e3
    injection e1 with e1
    injection e1 with e4 _
    subst e4 e3
    rw [List.length_append] at hl
    refine ⟨fun u hu => h1 u (List.mem_append_left _ hu), by simp, .inr ⟨g, cap, cur, rfl, hbs, hh, by omega, hm, hc, ?_⟩⟩
    have := congrArg (List.take xs.length) ht
    rw [List.take_left, List.take_take, List.length_append, Nat.mul_one, show min xs.length (xs.length + ys.length) = xs.length by omega] at this
    rw [Nat.mul_one]
    exact this
theorem JV.at {w : World} {base g n cap : Nat} {xs : List Value} (h : JV E w base (.slice (some ⟨g, 0, none⟩) n cap) xs) : n = xs.length ∧ n ≤ cap ∧ cap ≤ maxLen ∧ g < w.heap.size ∧ base ≤ g ∧ ∀ j u, xs[j]? = some u → w.cell? ⟨g, j, none⟩ = some u ∧ w.frozen? ⟨g, j, none⟩ = false := by
  obtain ⟨h1, h0, ⟨e, _⟩ | ⟨g', cap', cur, e, hbs, hh, hl, hm, hc, ht⟩⟩ := h
  · cases e
  · injection e with e1 e2 e3
    injection e1 with e1
    injection e1 with e4 _
    subst e4 e3 e2
    refine ⟨rfl, hl, hm, (Array.getElem?_eq_some_iff.1 hh).1, hbs, fun j u hu => ⟨?_, by simp [World.frozen?, hh]⟩⟩
    have hj : j < xs.length := (List.getElem?_eq_some_iff.1 hu).1
    rw [← ht, List.getElem?_take_of_lt (by omega)] at hu
    simp only [World.cell?, hh]
    simpa using hu
theorem JV.set {w : World} {base g n cap j : Nat} {xs : List Value} (h : JV E w base (.slice (some ⟨g, 0, none⟩) n cap) xs) (hn : n = xs.length) {u : Value} (hu : u.oneCell' = true) : JV E (w.setCell ⟨g, j, none⟩ u) base (.slice (some ⟨g, 0, none⟩) n cap) (xs.set j u) := by
  subst hn
  refine ⟨fun x hx => ?_, ?_⟩
  · rcases List.mem_or_eq_of_mem_set hx with hx | hx
    · exact h.1 x hx
    · rw [hx]; exact hu
  · have := own_set (j := j) h.2 u
    rw [List.length_set]
    exact this
/-- what an append of one element leaves -/
structure AppPost (E : TypeId) (w : World) (base : Nat) (v : Value) (xs : List Value) (u0 : Value) (v' : Value) (w' : World) : Prop where
  row : JV E w' base v' (xs ++ [u0])
  old : JV E w' base v xs
  grown : w.grownBy w' v.ownBlock
  way : (∃ g cap, v = .slice (some ⟨g, 0, none⟩) xs.length cap ∧ v' = .slice (some ⟨g, 0, none⟩) (xs.length + 1) cap) ∨ ((∃ h, v'.ownBlock = some h ∧ w.heap.size ≤ h) ∧ w.grownBy w' none)
variable {S : TypeId} {z : Value} {by_ : Nat}
theorem run_append_keep (hS : Try.prog.underlying S = some (.slice E)) (hE : (Try.prog.info? E).map (fun i => (i.zero, i.size, i.bytes)) = some (some z, 1, by_)) (hz : z.cells.size = 1) (ty : TypeId) (w : World) (base : Nat) (v : Value) (xs : List Value) (hJ : JV E w base v xs) (ad : Addr) (c : Nat) (u0 : Value) (hu : w.cell? ad = some u0) (h1 : u0.oneCell' = true) (hb : (xs.length + 1) * by_ ≤ 140737488355328) (hb2 : xs.length + 1 ≤ maxLen) (hbase : base ≤ w.heap.size) :
    ∃ a' cap w', (Builtin.append_ #[S, S] ty #[v, .slice (some ad) 1 c]).run Try.prog w = .ok (.slice a' (xs.length + 1) cap) w' ∧ AppPost E w base v xs u0 (.slice a' (xs.length + 1) cap) w' := by
  obtain ⟨i0, hi, hz0, hz1, hz2⟩ := info_parts hE
  have hnews : ∀ j u, [u0][j]? = some u → w.cell? (ad.add j) = some u := by
    intro j u hj
    cases j with
    | zero => simp at hj; subst hj; simpa [Addr.add] using hu
    | succ j => simp at hj
  have hone : ∀ u ∈ [u0], u.oneCell' = true := by intro u hu'; simp at hu'; rw [hu']; exact h1
  have hall : ∀ u ∈ xs ++ [u0], u.oneCell' = true := by
    intro u hu'
    rcases List.mem_append.1 hu' with hu' | hu'
    · exact hJ.1 u hu'
    · exact hone u hu'
  have hlen : (xs ++ [u0]).length = xs.length + 1 := by simp
  obtain ⟨hx1, h0, ⟨rfl, e⟩ | ⟨g, cap, cur, rfl, hbs, hh, hl, hm, hc, ht⟩⟩ := hJ
  · obtain rfl : xs = [] := List.length_eq_zero_iff.1 e
    obtain ⟨g, cap, w', hr, h2, h3, h4, _⟩ := run_append_lies (P := Try.prog) w S ty base E i0 z 1 by_ hS hi hz0 hz1 hz2 hz (by decide) (.slice none 0 0) 0 [] ⟨rfl, .inl ⟨rfl, rfl⟩⟩ ad 1 c [u0] rfl hnews hone (by omega) (by simpa using hb2) (by simpa using hb) hbase w.heap.size rfl
    refine ⟨_, cap, w', hr, ⟨⟨hall, by rw [hlen]; exact h2⟩, ⟨by simp, rfl, .inl ⟨rfl, rfl⟩⟩, h3, .inr ⟨⟨g, rfl, ?_⟩, h3⟩⟩⟩
    rcases h4 with h4 | h4
    · cases h4
    · omega
  · by_cases hroom : xs.length + 1 ≤ cap
    · have hown : w.ownsRow base E 1 (.slice (some ⟨g, 0, none⟩) xs.length cap) xs.length xs := ⟨h0, .inr ⟨g, cap, cur, rfl, hbs, hh, hl, hm, hc, ht⟩⟩
      obtain ⟨w', hr, h2, h3⟩ := run_append_fits (P := Try.prog) w base S ty E i0 1 hS hi hz1 g xs.length cap xs hown ad 1 c [u0] rfl hnews hone hroom
      have hJ' : JV E w' base (.slice (some ⟨g, 0, none⟩) (xs.length + 1) cap) (xs ++ [u0]) := ⟨hall, by rw [hlen]; exact h2⟩
      exact ⟨_, cap, w', hr, ⟨hJ', hJ'.pre, h3, .inl ⟨g, cap, rfl, rfl⟩⟩⟩
    · have hJ0 : JV E w base (.slice (some ⟨g, 0, none⟩) xs.length cap) xs := ⟨hx1, h0, .inr ⟨g, cap, cur, rfl, hbs, hh, hl, hm, hc, ht⟩⟩
      obtain ⟨_, _, _, _, _, hcell⟩ := hJ0.at
      obtain ⟨v', w', hr, h2, h3⟩ := run_append_arg_grows (P := Try.prog) w S ty E i0 z 1 by_ hS hi hz0 hz1 hz2 hz (by decide) ⟨g, 0, none⟩ xs.length cap xs (by simp) (fun j u hj => by rw [add_at, Nat.zero_add]; exact (hcell j u hj).1) ad 1 c [u0] rfl hnews (by omega) hb2 hb
      obtain ⟨g2, cap2, rfl, hg2, hlt2⟩ := h2.form (by omega)
      have hJ2 : JV E w' w.heap.size (.slice (some ⟨g2, 0, none⟩) (xs.length + 1) cap2) (xs ++ [u0]) := ⟨hall, by rw [hlen]; exact h2⟩
      refine ⟨_, cap2, w', hr, ⟨hJ2.mono hbase, hJ0.grownO h3 (fun g e => by simp), ⟨h3.os, h3.tape, h3.output, h3.size, fun k hk _ => h3.block k hk (by simp)⟩, .inr ⟨⟨g2, rfl, hJ2.blk_ge g2 rfl⟩, h3⟩⟩⟩
theorem wpList_append_keep (hS : Try.prog.underlying S = some (.slice E)) (hE : (Try.prog.info? E).map (fun i => (i.zero, i.size, i.bytes)) = some (some z, 1, by_)) (hz : z.cells.size = 1) (w : World) {ops : Array Oper} {rest : List Oper} {o : Oper} {a : Act} {Q : Exit → Act → World → Prop} (hgd : o.guard = none) (s x : Operand)
    (ho : o.op = .call { callee := .builtin .append, args := #[s, x], argTypes := #[S, S] })
    (base : Nat) (v : Value) (xs : List Value) (ad : Addr) (c : Nat) (u0 : Value) (hs : a.eval s = v) (hx : a.eval x = .slice (some ad) 1 c) (hJ : JV E w base v xs) (hu : w.cell? ad = some u0) (h1 : u0.oneCell' = true) (n : Nat) (hn : xs.length + 1 = n) (hb : n * by_ ≤ 140737488355328) (hb2 : n ≤ maxLen) (hbase : base ≤ w.heap.size)
    (h : ∀ a' cap w', AppPost E w base v xs u0 (.slice a' n cap) w' → wpList Try.prog ops Q rest (a.put o.dst (.slice a' n cap)) w') : wpList Try.prog ops Q (o :: rest) a w := by
  subst hn
  refine wpList_plain hgd fun K hK => ?_
  obtain ⟨a', cap, w', hr, hp⟩ := run_append_keep hS hE hz o.type w base v xs hJ ad c u0 hu h1 hb hb2 hbase
  unfold Oper.wp execOp
  simp only [ho, resolve, invoke, builtin, Sem.run_bind, Sem.run_pure, Result.andThen_ok, List.map_toArray, List.map_cons, List.map_nil, hs, hx, hr]
  exact hK _ _ (h a' cap w' hp)
/-- a loop of such appends, begun with v0 in the world W: k elements more -/
structure Ext (E : TypeId) (W : World) (base : Nat) (v0 : Value) (xs : List Value) (u0 : Value) (k : Nat) (v : Value) (w : World) : Prop where
  row : JV E w base v (xs ++ List.replicate k u0)
  old : JV E w base v0 xs
  os : w.os = W.os
  tape : w.tape = W.tape
  output : w.output = W.output
  size : W.heap.size ≤ w.heap.size
  block : ∀ b, b < W.heap.size → some b ≠ v0.ownBlock → w.heap[b]? = W.heap[b]?
  way : (∃ g cap, v0 = .slice (some ⟨g, 0, none⟩) xs.length cap ∧ v = .slice (some ⟨g, 0, none⟩) (xs.length + k) cap) ∨ (k = 0 ∧ v = v0) ∨ ∃ h, v.ownBlock = some h ∧ W.heap.size ≤ h
theorem Ext.start {W : World} {base : Nat} {v0 : Value} {xs : List Value} (h : JV E W base v0 xs) (u0 : Value) : Ext E W base v0 xs u0 0 v0 W :=
  ⟨by simpa using h, h, rfl, rfl, rfl, Nat.le_refl _, fun _ _ _ => rfl, .inr (.inl ⟨rfl, rfl⟩)⟩
theorem Ext.step {W w w' : World} {base : Nat} {v0 v v' : Value} {xs : List Value} {u0 : Value} {k : Nat} {o : Obj} (hx : JV E W base v0 xs) (h : Ext E W base v0 xs u0 k v w) (hp : AppPost E (w.alloc o) base v (xs ++ List.replicate k u0) u0 v' w') : Ext E W base v0 xs u0 (k + 1) v' w' := by
  have hrow : JV E w' base v' (xs ++ List.replicate (k + 1) u0) := by
    rw [List.replicate_succ', ← List.append_assoc]; exact hp.row
  have hsz : (w.alloc o).heap.size = w.heap.size + 1 := by simp
  have hal : ∀ b, b < w.heap.size → (w.alloc o).heap[b]? = w.heap[b]? := fun b hb => ((Below.refl w.heap.size w).alloc (Nat.le_refl _) o).block b hb
  have hv0 : ∀ g, v0.ownBlock = some g → g < W.heap.size := fun g e => hx.blk_lt g e
  have hold : JV E (w.alloc o) base v0 xs := h.old.same fun g e => hal g (h.old.blk_lt g e)
  -- the row that grows is v0's own, or lies behind W
  have hvb : ∀ b, b < W.heap.size → some b ≠ v0.ownBlock → some b ≠ v.ownBlock := by
    intro b hb hne
    rcases h.way with ⟨g, cap, e1, e2⟩ | ⟨_, e⟩ | ⟨g, e, hg⟩
    · rw [e1] at hne; rw [e2]; exact hne
    · rw [e]; exact hne
    · rw [e]; intro q; injection q with q; omega
  have hblk : ∀ b, b < W.heap.size → some b ≠ v0.ownBlock → w'.heap[b]? = W.heap[b]? := by
    intro b hb hne
    have h1 := hp.grown.block b (by rw [hsz]; have := h.size; omega) (hvb b hb hne)
    rw [h1, hal b (by have := h.size; omega), h.block b hb hne]
  refine ⟨hrow, ?_, hp.grown.os.trans h.os, hp.grown.tape.trans h.tape, hp.grown.output.trans h.output, by have := hp.grown.size; have := h.size; omega, hblk, ?_⟩
  · rcases h.way with ⟨g, cap, e1, e2⟩ | ⟨hk, e⟩ | ⟨g, e, hg⟩
    · rw [e1]
      have := hp.old
      rw [e2] at this
      exact this.pre
    · subst hk
      have := hp.old
      rw [e] at this
      simpa using this
    · refine hold.grownO hp.grown fun g' e' q => ?_
      rw [e] at q
      injection q with q
      have := hv0 g' e'
      omega
  · rcases hp.way with ⟨g, cap, e1, e2⟩ | ⟨⟨g, e, hg⟩, _⟩
    · have hl : (xs ++ List.replicate k u0).length = xs.length + k := by simp
      rw [hl] at e1 e2
      rcases h.way with ⟨g2, cap2, f1, f2⟩ | ⟨hk, f⟩ | ⟨g2, f, hg2⟩
      · left
        rw [e1] at f2
        injection f2 with f3 f4 f5
        exact ⟨g, cap, by rw [f1, ← f3, f5], e2⟩
      · subst hk
        left
        exact ⟨g, cap, by rw [← f, e1]; simp, e2⟩
      · right; right
        rw [e1] at f
        exact ⟨g2, by rw [e2]; exact f, hg2⟩
    · right; right
      exact ⟨g, e, by rw [hsz] at hg; have := h.size; omega⟩
end
end Ow
end Go.Proofs.Ytnjhbidialngmaa
namespace Go.Proofs.Ytnjhbidialngmaa
open Go.RowKit
namespace Ow
open Vt
abbrev E8 : TypeId := 5
abbrev ES : TypeId := 36
theorem info_sl : (Try.prog.info? 36).map (fun i => (i.zero, i.size, i.bytes)) = some (some (.slice none 0 0), 1, 24) := by kernel_rfl
theorem JV.ne {E1 E2 : TypeId} {w : World} {b1 b2 : Nat} {v1 v2 : Value} {x1 x2 : List Value} (h1 : JV E1 w b1 v1 x1) (h2 : JV E2 w b2 v2 x2) (hE : E1 ≠ E2) {g : Nat} (hg : v1.ownBlock = some g) : v2.ownBlock ≠ some g := by
  intro hg2
  obtain ⟨_, _, ⟨rfl, _⟩ | ⟨g1, c1, cur1, rfl, _, hh1, _⟩⟩ := h1
  · cases hg
  · obtain ⟨_, _, ⟨rfl, _⟩ | ⟨g2, c2, cur2, rfl, _, hh2, _⟩⟩ := h2
    · cases hg2
    · have e1 : g1 = g := by simpa [Value.ownBlock] using hg
      have e2 : g2 = g := by simpa [Value.ownBlock] using hg2
      rw [e1] at hh1
      rw [e2, hh1] at hh2
      injection hh2 with hh2
      injection hh2 with _ h3 _
      exact hE h3
theorem JV.ne_blk {E1 T : TypeId} {w : World} {b1 X : Nat} {v1 : Value} {x1 cs : List Value} (h1 : JV E1 w b1 v1 x1) (h2 : Blk w X T cs) (hE : E1 ≠ T) {g : Nat} (hg : v1.ownBlock = some g) : g ≠ X := by
  intro e
  obtain ⟨_, _, ⟨rfl, _⟩ | ⟨g1, c1, cur1, rfl, _, hh1, _⟩⟩ := h1
  · cases hg
  · have e1 : g1 = g := by simpa [Value.ownBlock] using hg
    rw [e1, e] at hh1
    have h2' : w.heap[X]? = some (.cells cs.toArray T (0, 0)) := h2
    rw [hh1] at h2'
    injection h2' with h2'
    injection h2' with _ h3 _
    exact hE h3
def nil : Value := .slice none 0 0
/-- the rows: each its owner's, no two the same -/
structure RS (w : World) (base : Nat) (vs : List Value) (f : Nat → List Value) : Prop where
  row : ∀ i, i < vs.length → JV E8 w base (vs.getD i nil) (f i)
  apart : ∀ i j g, i < vs.length → j < vs.length → i ≠ j → (vs.getD i nil).ownBlock = some g → (vs.getD j nil).ownBlock ≠ some g
/-- what is none of the rows is as it was -/
def Kept (w w' : World) (vs : List Value) : Prop := w.heap.size ≤ w'.heap.size ∧ ∀ b, b < w.heap.size → (∀ i, i < vs.length → (vs.getD i nil).ownBlock ≠ some b) → w'.heap[b]? = w.heap[b]?
theorem Kept.refl (w : World) (vs : List Value) : Kept w w vs := ⟨Nat.le_refl _, fun _ _ _ => rfl⟩
theorem Kept.trans {a b c : World} {vs : List Value} (h : Kept a b vs) (k : Kept b c vs) : Kept a c vs := ⟨Nat.le_trans h.1 k.1, fun x hx hn => (k.2 x (Nat.lt_of_lt_of_le hx h.1) hn).trans (h.2 x hx hn)⟩
theorem set_heap (w : World) (g j b : Nat) (u : Value) (h : b ≠ g) : (w.setCell ⟨g, j, none⟩ u).heap[b]? = w.heap[b]? := by
  show (w.heap.modify g _)[b]? = _
  rw [Array.getElem?_modify, if_neg (fun e => h e.symm)]
theorem set_size (w : World) (g j : Nat) (u : Value) : (w.setCell ⟨g, j, none⟩ u).heap.size = w.heap.size := by simp [World.setCell]
/-- one byte of a row is written -/
theorem RS.put {w : World} {base : Nat} {vs : List Value} {f : Nat → List Value} (h : RS w base vs f) {i g n cap j : Nat} (hi : i < vs.length) (hv : vs.getD i nil = .slice (some ⟨g, 0, none⟩) n cap) {u : Value} (hu : u.oneCell' = true) :
    RS (w.setCell ⟨g, j, none⟩ u) base vs (fun t => if t = i then (f i).set j u else f t) ∧ Kept w (w.setCell ⟨g, j, none⟩ u) vs ∧ base ≤ g := by
  have hr := h.row i hi
  rw [hv] at hr
  obtain ⟨hn, _, _, _, hb, _⟩ := hr.at
  refine ⟨⟨fun t ht => ?_, h.apart⟩, ⟨by rw [set_size]; exact Nat.le_refl _, fun b _ hb => set_heap w g j b u fun e => ?_⟩, hb⟩
  · by_cases hti : t = i
    · subst hti
      simp only [if_true]
      rw [hv]
      exact hr.set hn hu
    · simp only [if_neg hti]
      refine (h.row t ht).same fun b hb => set_heap w g j b u fun e => ?_
      refine h.apart t i b ht hi hti hb ?_
      rw [hv, e]; rfl
  · refine hb i hi ?_
    rw [hv, e]; rfl
def mk8 (i : Nat) : Value := .int .u8 ((201 + i : Nat) : Int)
theorem rep_set (k : Nat) (u : Value) (xs : List Value) (h : k < xs.length) : (List.replicate k u ++ xs.drop k).set k u = List.replicate (k + 1) u ++ xs.drop (k + 1) := by
  rw [List.set_append_right _ _ (by simp), List.length_replicate, Nat.sub_self]
  rw [List.drop_eq_getElem_cons h, List.set_cons_zero, List.replicate_succ', List.append_assoc]
  rfl
/-- the rows while they are written full: those ahead of i are, of i the first k bytes -/
def wr_ (f : Nat → List Value) (i k : Nat) : Nat → List Value := fun t => if t < i then List.replicate (f t).length (mk8 t) else if t = i then List.replicate k (mk8 i) ++ (f i).drop k else f t
theorem RS.eq {w : World} {base : Nat} {vs : List Value} {f f' : Nat → List Value} (h : RS w base vs f) (e : ∀ t, t < vs.length → f t = f' t) : RS w base vs f' := ⟨fun i hi => by rw [← e i hi]; exact h.row i hi, h.apart⟩
theorem wr_next (f : Nat → List Value) (i k : Nat) (h : k < (f i).length) (t : Nat) : (if t = i then (wr_ f i k i).set k (mk8 i) else wr_ f i k t) = wr_ f i (k + 1) t := by
  unfold wr_
  by_cases hti : t = i
  · subst hti
    simp only [if_true, Nat.lt_irrefl, if_false]
    exact rep_set k (mk8 t) (f t) h
  · simp only [if_neg hti]
theorem wr_len (f : Nat → List Value) (i k t : Nat) (h : k ≤ (f i).length) : (wr_ f i k t).length = (f t).length := by
  unfold wr_
  split
  · simp
  · split
    · rename_i e; subst e; simp; omega
    · rfl
theorem getD_at {vs : List Value} {i : Nat} (h : i < vs.length) : vs[i]? = some (vs.getD i nil) := by
  rw [List.getD_eq_getElem?_getD, List.getElem?_eq_getElem h]; rfl
/-- all that is known while the rows are written full -/
structure In1 (w : World) (base gl cl : Nat) (vs : List Value) (f : Nat → List Value) (T : TypeId) (wr : World) (i k : Nat) : Prop where
  rows : RS wr base vs (wr_ f i k)
  list : JV ES wr base (.slice (some ⟨gl, 0, none⟩) vs.length cl) vs
  box : Blk wr w.heap.size T [.slice (some ⟨gl, 0, none⟩) vs.length cl, nil]
  below : Below base w wr
  kept : Kept w wr vs
theorem In1.put {w : World} {base gl cl : Nat} {vs : List Value} {f : Nat → List Value} {T : TypeId} {wr : World} {i k : Nat} (h : In1 w base gl cl vs f T wr i k) (hT : E8 ≠ T) (hi : i < vs.length) (hk : k < (f i).length) {g n c : Nat} (hv : vs.getD i nil = .slice (some ⟨g, 0, none⟩) n c) : In1 w base gl cl vs f T (wr.setCell ⟨g, k, none⟩ (mk8 i)) i (k + 1) := by
  obtain ⟨h1, h2, h3⟩ := h.rows.put (j := k) hi hv (u := mk8 i) rfl
  have hrow := h.rows.row i hi
  rw [hv] at hrow
  have hgl : g ≠ gl := fun e => hrow.ne h.list (by decide) (g := g) rfl (by rw [e]; rfl)
  have hX : g ≠ w.heap.size := hrow.ne_blk h.box hT rfl
  refine ⟨h1.eq fun t _ => wr_next f i k hk t, h.list.same fun b hb => set_heap wr g k b _ ?_, ?_, h.below.setCell h3 _, h.kept.trans h2⟩
  · have : gl = b := by simpa [Value.ownBlock] using hb
    rw [← this]; exact fun e => hgl e.symm
  · show (wr.setCell ⟨g, k, none⟩ (mk8 i)).heap[w.heap.size]? = _
    rw [set_heap wr g k w.heap.size _ (fun e => hX e.symm)]
    exact h.box
/-- a row written full -/
def fu (f : Nat → List Value) (t : Nat) : List Value := List.replicate (f t).length (mk8 t)
/-- all that is known while the rows are made longer -/
structure In2 (w : World) (base gl cl : Nat) (vs : List Value) (f : Nat → List Value) (T : TypeId) (wr : World) (i : Nat) (V2 : Value) (gs : List Value) : Prop where
  rows : RS wr base vs (fu f)
  list : JV ES wr base (.slice (some ⟨gl, 0, none⟩) vs.length cl) vs
  box : Blk wr w.heap.size T [.slice (some ⟨gl, 0, none⟩) vs.length cl, V2]
  long : JV ES wr base V2 gs
  len : gs.length = i
  grow : ∀ t, t < i → JV E8 wr base (gs.getD t nil) (fu f t ++ List.replicate 64 (mk8 t))
  apart : ∀ t s b, t < i → i ≤ s → s < vs.length → (gs.getD t nil).ownBlock = some b → (vs.getD s nil).ownBlock ≠ some b
  fresh : ∀ b, V2.ownBlock = some b → w.heap.size ≤ b
  below : Below base w wr
  kept : Kept w wr vs
theorem getD_snoc {gs : List Value} {v : Value} {i t : Nat} (hl : gs.length = i) : (gs ++ [v]).getD t nil = if t = i then v else gs.getD t nil := by
  rw [List.getD_eq_getElem?_getD, List.getD_eq_getElem?_getD]
  rcases Nat.lt_trichotomy t i with q | q | q
  · rw [if_neg (by omega), List.getElem?_append_left (by omega)]
  · subst q; rw [if_pos rfl, List.getElem?_append_right (by omega), hl, Nat.sub_self]; rfl
  · rw [if_neg (by omega), List.getElem?_append_right (by omega), List.getElem?_eq_none (by simp; omega), List.getElem?_eq_none (by omega)]
theorem In2.step {w : World} {base gl cl : Nat} {vs : List Value} {f : Nat → List Value} {T : TypeId} {W wk w' : World} {i : Nat} {V2 V3 gv : Value} {gs : List Value} {o : Obj} (h : In2 w base gl cl vs f T W i V2 gs) (hT : E8 ≠ T) (hT2 : ES ≠ T) (hgl : gl < w.heap.size) (hbase : base ≤ w.heap.size) (hi : i < vs.length)
    (hx : Ext E8 W base (vs.getD i nil) (fu f i) (mk8 i) 64 gv wk) (hp : AppPost ES (wk.alloc o) base V2 gs gv V3 w') : In2 w base gl cl vs f T (w'.setCell ⟨w.heap.size, 1, none⟩ V3) (i + 1) V3 (gs ++ [gv]) := by
  have hri := h.rows.row i hi
  -- all but v_i's own block is in wk as it was in W
  have k1 : ∀ {E : TypeId} {v : Value} {xs : List Value}, JV E W base v xs → (∀ b, v.ownBlock = some b → (vs.getD i nil).ownBlock ≠ some b) → JV E wk base v xs := fun {E v xs} hv hne => hv.same fun b hb => hx.block b (hv.blk_lt b hb) fun e => hne b hb e.symm
  have hbox : Blk wk w.heap.size T [.slice (some ⟨gl, 0, none⟩) vs.length cl, V2] := (hx.block w.heap.size h.box.lt fun e => hri.ne_blk h.box hT e.symm rfl).trans h.box
  have hlong : JV ES wk base V2 gs := k1 h.long fun b hb => h.long.ne hri (by decide) hb
  have hlist : JV ES wk base (.slice (some ⟨gl, 0, none⟩) vs.length cl) vs := k1 h.list fun b hb => h.list.ne hri (by decide) hb
  have hrows : ∀ t, t < vs.length → JV E8 wk base (vs.getD t nil) (fu f t) := by
    intro t ht
    by_cases e : t = i
    · subst e; exact hx.old
    · exact k1 (h.rows.row t ht) fun b hb => h.rows.apart t i b ht hi e hb
  have hgrow : ∀ t, t < i + 1 → JV E8 wk base ((gs ++ [gv]).getD t nil) (fu f t ++ List.replicate 64 (mk8 t)) := by
    intro t ht
    rw [getD_snoc h.len]
    by_cases e : t = i
    · subst e; rw [if_pos rfl]; exact hx.row
    · rw [if_neg e]
      exact k1 (h.grow t (by omega)) fun b hb => h.apart t i b (by omega) (Nat.le_refl _) hi hb
  -- and in w'' as in wk, but for the long list and the box
  have hal : ∀ b, b < wk.heap.size → (wk.alloc o).heap[b]? = wk.heap[b]? := fun b hb => ((Below.refl wk.heap.size wk).alloc (Nat.le_refl _) o).block b hb
  have hsz : (wk.alloc o).heap.size = wk.heap.size + 1 := by simp
  have k2 : ∀ {E : TypeId} {v : Value} {xs : List Value}, E ≠ T → JV E wk base v xs → (∀ b, v.ownBlock = some b → V2.ownBlock ≠ some b) → JV E (w'.setCell ⟨w.heap.size, 1, none⟩ V3) base v xs := by
    intro E v xs hE hv hne
    refine hv.same fun b hb => ?_
    have hlt := hv.blk_lt b hb
    rw [set_heap w' w.heap.size 1 b _ (hv.ne_blk hbox hE hb), hp.grown.block b (by rw [hsz]; omega) (fun e => hne b hb e.symm), hal b hlt]
  have hbox' : Blk w' w.heap.size T [.slice (some ⟨gl, 0, none⟩) vs.length cl, V2] := by
    refine (hp.grown.block w.heap.size (by rw [hsz]; have := hbox.lt; omega) (fun e => hlong.ne_blk hbox hT2 e.symm rfl)).trans ?_
    exact (hal w.heap.size hbox.lt).trans hbox
  have hglV : ∀ b, (Value.slice (some ⟨gl, 0, none⟩) vs.length cl).ownBlock = some b → V2.ownBlock ≠ some b := by
    intro b hb e
    have h1 : gl = b := by simpa [Value.ownBlock] using hb
    have := h.fresh b e
    omega
  refine ⟨⟨fun t ht => k2 hT (hrows t ht) fun b hb => (hrows t ht).ne hlong (by decide) hb, h.rows.apart⟩, k2 hT2 hlist hglV, ?_, ?_, by simp [h.len], fun t ht => k2 hT (hgrow t ht) fun b hb => (hgrow t ht).ne hlong (by decide) hb, ?_, ?_, ?_, ?_⟩
  · have := hbox'.set (j := 1) V3
    exact this
  · refine hp.row.same fun b hb => set_heap w' w.heap.size 1 b _ ?_
    exact hp.row.ne_blk hbox' hT2 hb
  · intro t s b ht hs hsl hb
    rw [getD_snoc h.len] at hb
    by_cases e : t = i
    · subst e
      rw [if_pos rfl] at hb
      rcases hx.way with ⟨g, cap, e1, e2⟩ | ⟨e1, _⟩ | ⟨g, e1, e2⟩
      · refine h.rows.apart t s b hi hsl (by omega) ?_
        rw [e2] at hb
        rw [e1]; exact hb
      · omega
      · intro q
        rw [e1] at hb
        injection hb with hb
        have := (h.rows.row s hsl).blk_lt b q
        omega
    · rw [if_neg e] at hb
      exact h.apart t s b (by omega) (by omega) hsl hb
  · intro b hb
    rcases hp.way with ⟨g, cap, e1, e2⟩ | ⟨⟨g, e1, e2⟩, _⟩
    · refine h.fresh b ?_
      rw [e1]
      rw [e2] at hb
      exact hb
    · rw [e1] at hb
      injection hb with hb
      have h1 := h.kept.1
      have h2 := hx.size
      rw [hsz] at e2
      omega
  · have h1 := h.kept.1
    have h2 := hx.size
    have hb1 : Below base W wk := ⟨hx.os, hx.tape, hx.output, hx.size, fun b hb => hx.block b (by omega) (fun e => by have := hri.blk_ge b e.symm; omega)⟩
    have hb2 : Below base W (wk.alloc o) := hb1.alloc (by omega) o
    have hb3 : Below base W w' := hb2.grown hp.grown (by rw [hsz]; omega) fun q hq => hlong.blk_ge q hq
    exact h.below.trans (hb3.setCell hbase _)
  · have h1 := h.kept.1
    have h2 := hx.size
    have h3 := hp.grown.size
    refine ⟨by rw [set_size]; omega, fun b hb hn => ?_⟩
    rw [set_heap w' w.heap.size 1 b _ (by omega), hp.grown.block b (by rw [hsz]; omega) (fun e => by have := h.fresh b e.symm; omega), hal b (by omega), hx.block b (by omega) (fun e => hn i hi e.symm), h.kept.2 b hb hn]
theorem In2.at {w : World} {base gl cl : Nat} {vs : List Value} {f : Nat → List Value} {T : TypeId} {W wk : World} {i k : Nat} {V2 gv : Value} {gs : List Value} (h : In2 w base gl cl vs f T W i V2 gs) (hT : E8 ≠ T) (hi : i < vs.length) (hx : Ext E8 W base (vs.getD i nil) (fu f i) (mk8 i) k gv wk) : Blk wk w.heap.size T [.slice (some ⟨gl, 0, none⟩) vs.length cl, V2] ∧ JV ES wk base V2 gs := by
  have hri := h.rows.row i hi
  refine ⟨(hx.block w.heap.size h.box.lt fun e => hri.ne_blk h.box hT e.symm rfl).trans h.box, h.long.same fun b hb => hx.block b (h.long.blk_lt b hb) fun e => h.long.ne hri (by decide) hb e.symm⟩
/-- what still looks at -/
structure Sti (w : World) (X : Nat) (T : TypeId) (n : Nat → Nat) (m : Nat) : Prop where
  mine : ∃ gl cl ol g2 c2 o2, m ≤ cl ∧ cl ≤ maxLen ∧ m ≤ c2 ∧ c2 ≤ maxLen ∧ w.cell? ⟨X, 0, none⟩ = some (.slice (some ⟨gl, ol, none⟩) m cl) ∧ w.cell? ⟨X, 1, none⟩ = some (.slice (some ⟨g2, o2, none⟩) m c2) ∧
    ∀ i, i < m → ∃ a b c d, w.cell? ⟨gl, ol + i, none⟩ = some (.slice a (n i) b) ∧ w.cell? ⟨g2, o2 + i, none⟩ = some (.slice (some ⟨c, 0, none⟩) (n i + 64) d) ∧ n i ≤ b ∧ b ≤ maxLen ∧ n i + 64 ≤ d ∧ d ≤ maxLen ∧
      (∀ k, k < n i → ∃ g, a = some ⟨g, 0, none⟩ ∧ w.cell? ⟨g, k, none⟩ = some (mk8 i)) ∧ ∀ k, k < n i + 64 → w.cell? ⟨c, k, none⟩ = some (mk8 i)
/-- what still looks at, with what tells the blocks apart -/
structure In3 (X base gl cl : Nat) (vs : List Value) (f : Nat → List Value) (T : TypeId) (wr : World) (V2 : Value) (gs : List Value) : Prop where
  rows : ∀ i, i < vs.length → JV E8 wr base (vs.getD i nil) (fu f i)
  list : JV ES wr base (.slice (some ⟨gl, 0, none⟩) vs.length cl) vs
  box : Blk wr X T [.slice (some ⟨gl, 0, none⟩) vs.length cl, V2]
  long : JV ES wr base V2 gs
  len : gs.length = vs.length
  grow : ∀ t, t < vs.length → JV E8 wr base (gs.getD t nil) (fu f t ++ List.replicate 64 (mk8 t))
theorem In2.three {w : World} {base gl cl : Nat} {vs : List Value} {f : Nat → List Value} {T : TypeId} {wr : World} {V2 : Value} {gs : List Value} (h : In2 w base gl cl vs f T wr vs.length V2 gs) : In3 w.heap.size base gl cl vs f T wr V2 gs := ⟨h.rows.row, h.list, h.box, h.long, h.len, h.grow⟩
theorem In3.keep {X base gl cl : Nat} {vs : List Value} {f : Nat → List Value} {T : TypeId} {wr w' : World} {V2 : Value} {gs : List Value} (h : In3 X base gl cl vs f T wr V2 gs) (hb : Below wr.heap.size wr w') : In3 X base gl cl vs f T w' V2 gs :=
  ⟨fun i hi => (h.rows i hi).below hb, h.list.below hb, h.box.keep hb, h.long.below hb, h.len, fun t ht => (h.grow t ht).below hb⟩
/-- a store into a row of another type -/
theorem In3.put {X base gl cl : Nat} {vs : List Value} {f : Nat → List Value} {T E : TypeId} {wr : World} {V2 : Value} {gs xs : List Value} {b g n c j : Nat} {u : Value} (h : In3 X base gl cl vs f T wr V2 gs) (hn : JV E wr b (.slice (some ⟨g, 0, none⟩) n c) xs) (h1 : E ≠ E8) (h2 : E ≠ ES) (h3 : E ≠ T) : In3 X base gl cl vs f T (wr.setCell ⟨g, j, none⟩ u) V2 gs := by
  have k : ∀ {E' : TypeId} {v : Value} {ys : List Value}, E ≠ E' → JV E' wr base v ys → JV E' (wr.setCell ⟨g, j, none⟩ u) base v ys := by
    intro E' v ys hE hv
    refine hv.same fun b' hb' => set_heap wr g j b' u fun e => ?_
    exact hn.ne hv hE (g := g) rfl (by rw [← e]; exact hb')
  refine ⟨fun i hi => k h1 (h.rows i hi), k h2 h.list, ?_, k h2 h.long, h.len, fun t ht => k h1 (h.grow t ht)⟩
  show (wr.setCell ⟨g, j, none⟩ u).heap[X]? = _
  rw [set_heap wr g j X u (fun e => hn.ne_blk h.box h3 rfl e.symm)]
  exact h.box
theorem Sti.below {w w' : World} {X : Nat} {T : TypeId} {n : Nat → Nat} {m : Nat} (h : Sti w X T n m) (hb : Below w.heap.size w w') : Sti w' X T n m := by
  have k : ∀ {p : Addr} {v : Value}, w.cell? p = some v → w'.cell? p = some v := fun {p v} hp => by rw [hb.cell (lt_of_cell hp)]; exact hp
  obtain ⟨gl, cl, ol, g2, c2, o2, a1, a2, a3, a4, a5, a6, a7⟩ := h
  refine ⟨gl, cl, ol, g2, c2, o2, a1, a2, a3, a4, k a5, k a6, fun i hi => ?_⟩
  obtain ⟨a, b, c, d, b1, b2, b3, b4, b5, b6, b7, b8⟩ := a7 i hi
  refine ⟨a, b, c, d, k b1, k b2, b3, b4, b5, b6, fun t ht => ?_, fun t ht => k (b8 t ht)⟩
  obtain ⟨g, e, hg⟩ := b7 t ht
  exact ⟨g, e, k hg⟩
end Ow
end Go.Proofs.Ytnjhbidialngmaa
