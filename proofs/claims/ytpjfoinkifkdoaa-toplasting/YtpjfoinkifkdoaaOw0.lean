/-
  OWN ROWS THAT THEIR OWNER WRITES FULL AND MAKES LONGER: rows of one-cell values of any type ('JV'); an append of one element that tells besides what becomes of the elder list ('AppPost'); the relation of a loop of such appends ('Ext').
-/
import Derived.Test.YtpjfoinkifkdoaaMu
import Derived.ArgAppend
namespace Go.Proofs.Ytpjfoinkifkdoaa
open Go.RowKit
namespace Ow
open Vt
/-- a row of the call's own, of one-cell values -/
def JV (E : TypeId) (w : World) (base : Nat) (v : Value) (xs : List Value) : Prop := (∀ u ∈ xs, u.oneCell' = true) ∧ w.ownsRow base E 1 v xs.length xs
section
variable {E : TypeId}
theorem JV.shape {w : World} {base : Nat} {v : Value} {xs : List Value} (h : JV E w base v xs) : ∃ a c, v = .slice a xs.length c ∧ xs.length ≤ c := by
  rcases h.2.2 with ⟨rfl, e⟩ | ⟨g, cap, cur, rfl, _, _, hl, _⟩
  · exact ⟨none, 0, by rw [e], by omega⟩
  · exact ⟨_, cap, rfl, hl⟩
theorem JV.blk_lt {w : World} {base : Nat} {v : Value} {xs : List Value} (h : JV E w base v xs) : ∀ g, v.ownBlock = some g → g < w.heap.size := by
  intro g hg
  obtain ⟨_, _, ⟨rfl, e⟩ | ⟨g', cap', cur, rfl, hbs, hh, hr⟩⟩ := h
  · cases hg
  · cases hg
    exact (Array.getElem?_eq_some_iff.1 hh).1
theorem JV.blk_ge {w : World} {base : Nat} {v : Value} {xs : List Value} (h : JV E w base v xs) : ∀ g, v.ownBlock = some g → base ≤ g := by
  intro g hg
  obtain ⟨_, _, ⟨rfl, e⟩ | ⟨g', cap', cur, rfl, hbs, hh, hr⟩⟩ := h
  · cases hg
  · cases hg
    exact hbs
/-- the row's block is as it was: so is the row -/
theorem JV.same {w w' : World} {base : Nat} {v : Value} {xs : List Value} (h : JV E w base v xs) (hb : ∀ g, v.ownBlock = some g → w'.heap[g]? = w.heap[g]?) : JV E w' base v xs := by
  obtain ⟨h1, h0, ⟨rfl, e⟩ | ⟨g', cap', cur, rfl, hbs, hh, hr⟩⟩ := h
  · exact ⟨h1, h0, .inl ⟨rfl, e⟩⟩
  · exact ⟨h1, h0, .inr ⟨g', cap', cur, rfl, hbs, (hb g' rfl).trans hh, hr⟩⟩
theorem JV.grownO {w w' : World} {base : Nat} {row : Option Nat} {v : Value} {xs : List Value} (h : JV E w base v xs) (hg : w.grownBy w' row) (hne : ∀ g, v.ownBlock = some g → some g ≠ row) : JV E w' base v xs :=
  h.same fun g e => hg.block g (h.blk_lt g e) (hne g e)
theorem JV.below {w w' : World} {base : Nat} {v : Value} {xs : List Value} (h : JV E w base v xs) (hb : Below w.heap.size w w') : JV E w' base v xs :=
  h.same fun g e => hb.block g (h.blk_lt g e)
theorem JV.mono {w : World} {base b' : Nat} {v : Value} {xs : List Value} (h : JV E w base v xs) (hb : b' ≤ base) : JV E w b' v xs := by
  obtain ⟨h1, h0, ⟨rfl, e⟩ | ⟨g', cap', cur, rfl, hbs, hr⟩⟩ := h
  · exact ⟨h1, h0, .inl ⟨rfl, e⟩⟩
  · exact ⟨h1, h0, .inr ⟨g', cap', cur, rfl, by omega, hr⟩⟩
/-- a shorter slice of the same row -/
theorem JV.pre {w : World} {base g n cap : Nat} {xs ys : List Value} (h : JV E w base (.slice (some ⟨g, 0, none⟩) n cap) (xs ++ ys)) : JV E w base (.slice (some ⟨g, 0, none⟩) xs.length cap) xs := by
  obtain ⟨h1, h0, ⟨e, _⟩ | ⟨g', cap', cur, e, hbs, hh, hl, hm, hc, ht⟩⟩ := h
  · cases e
  · injection e with e1 e2 e3
    injection e1 with e1
    injection e1 with e4 _
    subst e4 e3
    rw [List.length_append] at hl
    refine ⟨fun u hu => h1 u (List.mem_append_left _ hu), by simp, .inr ⟨g, cap, cur, rfl, hbs, hh, by omega, hm, hc, ?_⟩⟩
    have := congrArg (List.take xs.length) ht
    rw [List.take_left, List.take_take, List.length_append, Nat.mul_one, show min xs.length (xs.length + ys.length) = xs.length by omega] at this
    rw [Nat.mul_one]
    exact this
theorem JV.at {w : World} {base g n cap : Nat} {xs : List Value} (h : JV E w base (.slice (some ⟨g, 0, none⟩) n cap) xs) : n = xs.length ∧ n ≤ cap ∧ cap ≤ maxLen ∧ g < w.heap.size ∧ base ≤ g ∧ ∀ j u, xs[j]? = some u → w.cell? ⟨g, j, none⟩ = some u ∧ w.frozen? ⟨g, j, none⟩ = false := by
  obtain ⟨h1, h0, ⟨e, _⟩ | ⟨g', cap', cur, e, hbs, hh, hl, hm, hc, ht⟩⟩ := h
  · cases e
  · injection e with e1 e2 e3
    injection e1 with e1
    injection e1 with e4 _
    subst e4 e3 e2
    refine ⟨rfl, hl, hm, (Array.getElem?_eq_some_iff.1 hh).1, hbs, fun j u hu => ⟨?_, by simp [World.frozen?, hh]⟩⟩
    have hj : j < xs.length := (List.getElem?_eq_some_iff.1 hu).1
    rw [← ht, List.getElem?_take_of_lt (by omega)] at hu
    simp only [World.cell?, hh]
    simpa using hu
theorem JV.set {w : World} {base g n cap j : Nat} {xs : List Value} (h : JV E w base (.slice (some ⟨g, 0, none⟩) n cap) xs) (hn : n = xs.length) {u : Value} (hu : u.oneCell' = true) : JV E (w.setCell ⟨g, j, none⟩ u) base (.slice (some ⟨g, 0, none⟩) n cap) (xs.set j u) := by
  subst hn
  refine ⟨fun x hx => ?_, ?_⟩
  · rcases List.mem_or_eq_of_mem_set hx with hx | hx
    · exact h.1 x hx
    · rw [hx]; exact hu
  · have := own_set (j := j) h.2 u
    rw [List.length_set]
    exact this
/-- what an append of one element leaves -/
structure AppPost (E : TypeId) (w : World) (base : Nat) (v : Value) (xs : List Value) (u0 : Value) (v' : Value) (w' : World) : Prop where
  row : JV E w' base v' (xs ++ [u0])
  old : JV E w' base v xs
  grown : w.grownBy w' v.ownBlock
  way : (∃ g cap, v = .slice (some ⟨g, 0, none⟩) xs.length cap ∧ v' = .slice (some ⟨g, 0, none⟩) (xs.length + 1) cap) ∨ ((∃ h, v'.ownBlock = some h ∧ w.heap.size ≤ h) ∧ w.grownBy w' none)
variable {S : TypeId} {z : Value} {by_ : Nat}
theorem run_append_keep (hS : Try.prog.underlying S = some (.slice E)) (hE : (Try.prog.info? E).map (fun i => (i.zero, i.size, i.bytes)) = some (some z, 1, by_)) (hz : z.cells.size = 1) (ty : TypeId) (w : World) (base : Nat) (v : Value) (xs : List Value) (hJ : JV E w base v xs) (ad : Addr) (c : Nat) (u0 : Value) (hu : w.cell? ad = some u0) (h1 : u0.oneCell' = true) (hb : (xs.length + 1) * by_ ≤ 140737488355328) (hb2 : xs.length + 1 ≤ maxLen) (hbase : base ≤ w.heap.size) :
    ∃ a' cap w', (Builtin.append_ #[S, S] ty #[v, .slice (some ad) 1 c]).run Try.prog w = .ok (.slice a' (xs.length + 1) cap) w' ∧ AppPost E w base v xs u0 (.slice a' (xs.length + 1) cap) w' := by
  obtain ⟨i0, hi, hz0, hz1, hz2⟩ := info_parts hE
  have hnews : ∀ j u, [u0][j]? = some u → w.cell? (ad.add j) = some u := by
    intro j u hj
    cases j with
    | zero => simp at hj; subst hj; simpa [Addr.add] using hu
    | succ j => simp at hj
  have hone : ∀ u ∈ [u0], u.oneCell' = true := by intro u hu'; simp at hu'; rw [hu']; exact h1
  have hall : ∀ u ∈ xs ++ [u0], u.oneCell' = true := by
    intro u hu'
    rcases List.mem_append.1 hu' with hu' | hu'
    · exact hJ.1 u hu'
    · exact hone u hu'
  have hlen : (xs ++ [u0]).length = xs.length + 1 := by simp
  obtain ⟨hx1, h0, ⟨rfl, e⟩ | ⟨g, cap, cur, rfl, hbs, hh, hl, hm, hc, ht⟩⟩ := hJ
  · obtain rfl : xs = [] := List.length_eq_zero_iff.1 e
    obtain ⟨g, cap, w', hr, h2, h3, h4, _⟩ := run_append_lies (P := Try.prog) w S ty base E i0 z 1 by_ hS hi hz0 hz1 hz2 hz (by decide) (.slice none 0 0) 0 [] ⟨rfl, .inl ⟨rfl, rfl⟩⟩ ad 1 c [u0] rfl hnews hone (by omega) (by simpa using hb2) (by simpa using hb) hbase w.heap.size rfl
    refine ⟨_, cap, w', hr, ⟨⟨hall, by rw [hlen]; exact h2⟩, ⟨by simp, rfl, .inl ⟨rfl, rfl⟩⟩, h3, .inr ⟨⟨g, rfl, ?_⟩, h3⟩⟩⟩
    rcases h4 with h4 | h4
    · cases h4
    · omega
  · by_cases hroom : xs.length + 1 ≤ cap
    · have hown : w.ownsRow base E 1 (.slice (some ⟨g, 0, none⟩) xs.length cap) xs.length xs := ⟨h0, .inr ⟨g, cap, cur, rfl, hbs, hh, hl, hm, hc, ht⟩⟩
      obtain ⟨w', hr, h2, h3⟩ := run_append_fits (P := Try.prog) w base S ty E i0 1 hS hi hz1 g xs.length cap xs hown ad 1 c [u0] rfl hnews hone hroom
      have hJ' : JV E w' base (.slice (some ⟨g, 0, none⟩) (xs.length + 1) cap) (xs ++ [u0]) := ⟨hall, by rw [hlen]; exact h2⟩
      exact ⟨_, cap, w', hr, ⟨hJ', hJ'.pre, h3, .inl ⟨g, cap, rfl, rfl⟩⟩⟩
    · have hJ0 : JV E w base (.slice (some ⟨g, 0, none⟩) xs.length cap) xs := ⟨hx1, h0, .inr ⟨g, cap, cur, rfl, hbs, hh, hl, hm, hc, ht⟩⟩
      obtain ⟨_, _, _, _, _, hcell⟩ := hJ0.at
      obtain ⟨v', w', hr, h2, h3⟩ := run_append_arg_grows (P := Try.prog) w S ty E i0 z 1 by_ hS hi hz0 hz1 hz2 hz (by decide) ⟨g, 0, none⟩ xs.length cap xs (by simp) (fun j u hj => by rw [add_at, Nat.zero_add]; exact (hcell j u hj).1) ad 1 c [u0] rfl hnews (by omega) hb2 hb
      obtain ⟨g2, cap2, rfl, hg2, hlt2⟩ := h2.form (by omega)
      have hJ2 : JV E w' w.heap.size (.slice (some ⟨g2, 0, none⟩) (xs.length + 1) cap2) (xs ++ [u0]) := ⟨hall, by rw [hlen]; exact h2⟩
      refine ⟨_, cap2, w', hr, ⟨hJ2.mono hbase, hJ0.grownO h3 (fun g e => by simp), ⟨h3.os, h3.tape, h3.output, h3.size, fun k hk _ => h3.block k hk (by simp)⟩, .inr ⟨⟨g2, rfl, hJ2.blk_ge g2 rfl⟩, h3⟩⟩⟩
theorem wpList_append_keep (hS : Try.prog.underlying S = some (.slice E)) (hE : (Try.prog.info? E).map (fun i => (i.zero, i.size, i.bytes)) = some (some z, 1, by_)) (hz : z.cells.size = 1) (w : World) {ops : Array Oper} {rest : List Oper} {o : Oper} {a : Act} {Q : Exit → Act → World → Prop} (hgd : o.guard = none) (s x : Operand)
    (ho : o.op = .call { callee := .builtin .append, args := #[s, x], argTypes := #[S, S] })
    (base : Nat) (v : Value) (xs : List Value) (ad : Addr) (c : Nat) (u0 : Value) (hs : a.eval s = v) (hx : a.eval x = .slice (some ad) 1 c) (hJ : JV E w base v xs) (hu : w.cell? ad = some u0) (h1 : u0.oneCell' = true) (n : Nat) (hn : xs.length + 1 = n) (hb : n * by_ ≤ 140737488355328) (hb2 : n ≤ maxLen) (hbase : base ≤ w.heap.size)
    (h : ∀ a' cap w', AppPost E w base v xs u0 (.slice a' n cap) w' → wpList Try.prog ops Q rest (a.put o.dst (.slice a' n cap)) w') : wpList Try.prog ops Q (o :: rest) a w := by
  subst hn
  refine wpList_plain hgd fun K hK => ?_
  obtain ⟨a', cap, w', hr, hp⟩ := run_append_keep hS hE hz o.type w base v xs hJ ad c u0 hu h1 hb hb2 hbase
  unfold Oper.wp execOp
  simp only [ho, resolve, invoke, builtin, Sem.run_bind, Sem.run_pure, Result.andThen_ok, List.map_toArray, List.map_cons, List.map_nil, hs, hx, hr]
  exact hK _ _ (h a' cap w' hp)
/-- a loop of such appends, begun with v0 in the world W: k elements more -/
structure Ext (E : TypeId) (W : World) (base : Nat) (v0 : Value) (xs : List Value) (u0 : Value) (k : Nat) (v : Value) (w : World) : Prop where
  row : JV E w base v (xs ++ List.replicate k u0)
  old : JV E w base v0 xs
  os : w.os = W.os
  tape : w.tape = W.tape
  output : w.output = W.output
  size : W.heap.size ≤ w.heap.size
  block : ∀ b, b < W.heap.size → some b ≠ v0.ownBlock → w.heap[b]? = W.heap[b]?
  way : (∃ g cap, v0 = .slice (some ⟨g, 0, none⟩) xs.length cap ∧ v = .slice (some ⟨g, 0, none⟩) (xs.length + k) cap) ∨ (k = 0 ∧ v = v0) ∨ ∃ h, v.ownBlock = some h ∧ W.heap.size ≤ h
theorem Ext.start {W : World} {base : Nat} {v0 : Value} {xs : List Value} (h : JV E W base v0 xs) (u0 : Value) : Ext E W base v0 xs u0 0 v0 W :=
  ⟨by simpa using h, h, rfl, rfl, rfl, Nat.le_refl _, fun _ _ _ => rfl, .inr (.inl ⟨rfl, rfl⟩)⟩
theorem Ext.step {W w w' : World} {base : Nat} {v0 v v' : Value} {xs : List Value} {u0 : Value} {k : Nat} {o : Obj} (hx : JV E W base v0 xs) (h : Ext E W base v0 xs u0 k v w) (hp : AppPost E (w.alloc o) base v (xs ++ List.replicate k u0) u0 v' w') : Ext E W base v0 xs u0 (k + 1) v' w' := by
  have hrow : JV E w' base v' (xs ++ List.replicate (k + 1) u0) := by
    rw [List.replicate_succ', ← List.append_assoc]; exact hp.row
  have hsz : (w.alloc o).heap.size = w.heap.size + 1 := by simp
  have hal : ∀ b, b < w.heap.size → (w.alloc o).heap[b]? = w.heap[b]? := fun b hb => ((Below.refl w.heap.size w).alloc (Nat.le_refl _) o).block b hb
  have hv0 : ∀ g, v0.ownBlock = some g → g < W.heap.size := fun g e => hx.blk_lt g e
  have hold : JV E (w.alloc o) base v0 xs := h.old.same fun g e => hal g (h.old.blk_lt g e)
  -- the row that grows is v0's own, or lies behind W
  have hvb : ∀ b, b < W.heap.size → some b ≠ v0.ownBlock → some b ≠ v.ownBlock := by
    intro b hb hne
    rcases h.way with ⟨g, cap, e1, e2⟩ | ⟨_, e⟩ | ⟨g, e, hg⟩
    · rw [e1] at hne; rw [e2]; exact hne
    · rw [e]; exact hne
    · rw [e]; intro q; injection q with q; omega
  have hblk : ∀ b, b < W.heap.size → some b ≠ v0.ownBlock → w'.heap[b]? = W.heap[b]? := by
    intro b hb hne
    have h1 := hp.grown.block b (by rw [hsz]; have := h.size; omega) (hvb b hb hne)
    rw [h1, hal b (by have := h.size; omega), h.block b hb hne]
  refine ⟨hrow, ?_, hp.grown.os.trans h.os, hp.grown.tape.trans h.tape, hp.grown.output.trans h.output, by have := hp.grown.size; have := h.size; omega, hblk, ?_⟩
  · rcases h.way with ⟨g, cap, e1, e2⟩ | ⟨hk, e⟩ | ⟨g, e, hg⟩
    · rw [e1]
      have := hp.old
      rw [e2] at this
      exact this.pre
    · subst hk
      have := hp.old
      rw [e] at this
      simpa using this
    · refine hold.grownO hp.grown fun g' e' q => ?_
      rw [e] at q
      injection q with q
      have := hv0 g' e'
      omega
  · rcases hp.way with ⟨g, cap, e1, e2⟩ | ⟨⟨g, e, hg⟩, _⟩
    · have hl : (xs ++ List.replicate k u0).length = xs.length + k := by simp
      rw [hl] at e1 e2
      rcases h.way with ⟨g2, cap2, f1, f2⟩ | ⟨hk, f⟩ | ⟨g2, f, hg2⟩
      · left
        rw [e1] at f2
        injection f2 with f3 f4 f5
        exact ⟨g, cap, by rw [f1, ← f3, f5], e2⟩
      · subst hk
        left
        exact ⟨g, cap, by rw [← f, e1]; simp, e2⟩
      · right; right
        rw [e1] at f
        exact ⟨g2, by rw [e2]; exact f, hg2⟩
    · right; right
      exact ⟨g, e, by rw [hsz] at hg; have := h.size; omega⟩
end
end Ow
end Go.Proofs.Ytpjfoinkifkdoaa
