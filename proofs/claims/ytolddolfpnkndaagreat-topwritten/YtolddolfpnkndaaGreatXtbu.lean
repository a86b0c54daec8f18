/-
  OWN ROWS THAT THEIR OWNER WRITES FULL AND MAKES LONGER: rows of one-cell values of any type ('JV'); an append of one element that tells besides what becomes of the elder list ('AppPost'); the relation of a loop of such appends ('Ext').
  OWN ROWS OF STRUCTS OF TWO CELLS ('JP'): append of some, what each cell holds. No condition beyond those that each row bears.
-/
import Derived.Test.YtolddolfpnkndaaGreatXtac
import Derived.ArgAppend
namespace Go.Proofs.YtolddolfpnkndaaGreat
open Go.RowKit
namespace Ow
open Vt
/-- a row of the call's own, of one-cell values -/
def JV (E : TypeId) (w : World) (base : Nat) (v : Value) (xs : List Value) : Prop := (∀ u ∈ xs, u.oneCell' = true) ∧ w.ownsRow base E 1 v xs.length xs
section
variable {E : TypeId}
theorem JV.shape {w : World} {base : Nat} {v : Value} {xs : List Value} (h : JV E w base v xs) : ∃ a c, v = .slice a xs.length c ∧ xs.length ≤ c := by
  rcases h.2.2 with ⟨rfl, e⟩ | ⟨g, cap, cur, rfl, _, _, hl, _⟩
  · exact ⟨none, 0, by rw [e], by omega⟩
  · exact ⟨_, cap, rfl, hl⟩
theorem JV.blk_lt {w : World} {base : Nat} {v : Value} {xs : List Value} (h : JV E w base v xs) : ∀ g, v.ownBlock = some g → g < w.heap.size := by
  intro g hg
  obtain ⟨_, _, ⟨rfl, e⟩ | ⟨g', cap', cur, rfl, hbs, hh, hr⟩⟩ := h
  · cases hg
  · cases hg
    exact (Array.getElem?_eq_some_iff.1 hh).1
theorem JV.blk_ge {w : World} {base : Nat} {v : Value} {xs : List Value} (h : JV E w base v xs) : ∀ g, v.ownBlock = some g → base ≤ g := by
  intro g hg
  obtain ⟨_, _, ⟨rfl, e⟩ | ⟨g', cap', cur, rfl, hbs, hh, hr⟩⟩ := h
  · cases hg
  · cases hg
    exact hbs
/-- the row's block is as it was: so is the row -/
theorem JV.same {w w' : World} {base : Nat} {v : Value} {xs : List Value} (h : JV E w base v xs) (hb : ∀ g, v.ownBlock = some g → w'.heap[g]? = w.heap[g]?) : JV E w' base v xs := by
  obtain ⟨h1, h0, ⟨rfl, e⟩ | ⟨g', cap', cur, rfl, hbs, hh, hr⟩⟩ := h
  · exact ⟨h1, h0, .inl ⟨rfl, e⟩⟩
  · exact ⟨h1, h0, .inr ⟨g', cap', cur, rfl, hbs, (hb g' rfl).trans hh, hr⟩⟩
theorem JV.grownO {w w' : World} {base : Nat} {row : Option Nat} {v : Value} {xs : List Value} (h : JV E w base v xs) (hg : w.grownBy w' row) (hne : ∀ g, v.ownBlock = some g → some g ≠ row) : JV E w' base v xs :=
  h.same fun g e => hg.block g (h.blk_lt g e) (hne g e)
theorem JV.below {w w' : World} {base : Nat} {v : Value} {xs : List Value} (h : JV E w base v xs) (hb : Below w.heap.size w w') : JV E w' base v xs :=
  h.same fun g e => hb.block g (h.blk_lt g e)
theorem JV.mono {w : World} {base b' : Nat} {v : Value} {xs : List Value} (h : JV E w base v xs) (hb : b' ≤ base) : JV E w b' v xs := by
  obtain ⟨h1, h0, ⟨rfl, e⟩ | ⟨g', cap', cur, rfl, hbs, hr⟩⟩ := h
  · exact ⟨h1, h0, .inl ⟨rfl, e⟩⟩
  · exact ⟨h1, h0, .inr ⟨g', cap', cur, rfl, by omega, hr⟩⟩
/-- a shorter slice of the same row -/
theorem JV.pre {w : World} {base g n cap : Nat} {xs ys : List Value} (h : JV E w base (.slice (some ⟨g, 0, none⟩) n cap) (xs ++ ys)) : JV E w base (.slice (some ⟨g, 0, none⟩) xs.length cap) xs := by
  obtain ⟨h1, h0, ⟨e, _⟩ | ⟨g', cap', cur, e, hbs, hh, hl, hm, hc, ht⟩⟩ := h
  · cases e
  · injection e with e1 e2 e3
    injection e1 with e1
    injection e1 with e4 _
    subst e4 e3
    rw [List.length_append] at hl
    refine ⟨fun u hu => h1 u (List.mem_append_left _ hu), by simp, .inr ⟨g, cap, cur, rfl, hbs, hh, by omega, hm, hc, ?_⟩⟩
    have := congrArg (List.take xs.length) ht
    rw [List.take_left, List.take_take, List.length_append, Nat.mul_one, show min xs.length (xs.length + ys.length) = xs.length by omega] at this
    rw [Nat.mul_one]
    exact this
theorem JV.at {w : World} {base g n cap : Nat} {xs : List Value} (h : JV E w base (.slice (some ⟨g, 0, none⟩) n cap) xs) : n = xs.length ∧ n ≤ cap ∧ cap ≤ maxLen ∧ g < w.heap.size ∧ base ≤ g ∧ ∀ j u, xs[j]? = some u → w.cell? ⟨g, j, none⟩ = some u ∧ w.frozen? ⟨g, j, none⟩ = false := by
  obtain ⟨h1, h0, ⟨e, _⟩ | ⟨g', cap', cur, e, hbs, hh, hl, hm, hc, ht⟩⟩ := h
  · cases e
  · injection e with e1 e2 e3
    injection e1 with e1
    injection e1 with e4 _
    subst e4 e3 e2
    refine ⟨rfl, hl, hm, (Array.getElem?_eq_some_iff.1 hh).1, hbs, fun j u hu => ⟨?_, by simp [World.frozen?, hh]⟩⟩
    have hj : j < xs.length := (List.getElem?_eq_some_iff.1 hu).1
    rw [← ht, List.getElem?_take_of_lt (by omega)] at hu
    simp only [World.cell?, hh]
    simpa using hu
theorem JV.set {w : World} {base g n cap j : Nat} {xs : List Value} (h : JV E w base (.slice (some ⟨g, 0, none⟩) n cap) xs) (hn : n = xs.length) {u : Value} (hu : u.oneCell' = true) : JV E (w.setCell ⟨g, j, none⟩ u) base (.slice (some ⟨g, 0, none⟩) n cap) (xs.set j u) := by
  subst hn
  refine ⟨fun x hx => ?_, ?_⟩
  · rcases List.mem_or_eq_of_mem_set hx with hx | hx
    · exact h.1 x hx
    · rw [hx]; exact hu
  · have := own_set (j := j) h.2 u
    rw [List.length_set]
    exact this
/-- what an append of one element leaves -/
structure AppPost (E : TypeId) (w : World) (base : Nat) (v : Value) (xs : List Value) (u0 : Value) (v' : Value) (w' : World) : Prop where
  row : JV E w' base v' (xs ++ [u0])
  old : JV E w' base v xs
  grown : w.grownBy w' v.ownBlock
  way : (∃ g cap, v = .slice (some ⟨g, 0, none⟩) xs.length cap ∧ v' = .slice (some ⟨g, 0, none⟩) (xs.length + 1) cap) ∨ ((∃ h, v'.ownBlock = some h ∧ w.heap.size ≤ h) ∧ w.grownBy w' none)
variable {S : TypeId} {z : Value} {by_ : Nat}
/-- a loop of such appends, begun with v0 in the world W: k elements more -/
structure Ext (E : TypeId) (W : World) (base : Nat) (v0 : Value) (xs : List Value) (u0 : Value) (k : Nat) (v : Value) (w : World) : Prop where
  row : JV E w base v (xs ++ List.replicate k u0)
  old : JV E w base v0 xs
  os : w.os = W.os
  tape : w.tape = W.tape
  output : w.output = W.output
  size : W.heap.size ≤ w.heap.size
  block : ∀ b, b < W.heap.size → some b ≠ v0.ownBlock → w.heap[b]? = W.heap[b]?
  way : (∃ g cap, v0 = .slice (some ⟨g, 0, none⟩) xs.length cap ∧ v = .slice (some ⟨g, 0, none⟩) (xs.length + k) cap) ∨ (k = 0 ∧ v = v0) ∨ ∃ h, v.ownBlock = some h ∧ W.heap.size ≤ h
theorem Ext.start {W : World} {base : Nat} {v0 : Value} {xs : List Value} (h : JV E W base v0 xs) (u0 : Value) : Ext E W base v0 xs u0 0 v0 W :=
  ⟨by simpa using h, h, rfl, rfl, rfl, Nat.le_refl _, fun _ _ _ => rfl, .inr (.inl ⟨rfl, rfl⟩)⟩
theorem Ext.step {W w w' : World} {base : Nat} {v0 v v' : Value} {xs : List Value} {u0 : Value} {k : Nat} {o : Obj} (hx : JV E W base v0 xs) (h : Ext E W base v0 xs u0 k v w) (hp : AppPost E (w.alloc o) base v (xs ++ List.replicate k u0) u0 v' w') : Ext E W base v0 xs u0 (k + 1) v' w' := by
  have hrow : JV E w' base v' (xs ++ List.replicate (k + 1) u0) := by
    rw [List.replicate_succ', ← List.append_assoc]; exact hp.row
  have hsz : (w.alloc o).heap.size = w.heap.size + 1 := by simp
  have hal : ∀ b, b < w.heap.size → (w.alloc o).heap[b]? = w.heap[b]? := fun b hb => ((Below.refl w.heap.size w).alloc (Nat.le_refl _) o).block b hb
  have hv0 : ∀ g, v0.ownBlock = some g → g < W.heap.size := fun g e => hx.blk_lt g e
  have hold : JV E (w.alloc o) base v0 xs := h.old.same fun g e => hal g (h.old.blk_lt g e)
  -- the row that grows is v0's own, or lies behind W
  have hvb : ∀ b, b < W.heap.size → some b ≠ v0.ownBlock → some b ≠ v.ownBlock := by
    intro b hb hne
    rcases h.way with ⟨g, cap, e1, e2⟩ | ⟨_, e⟩ | ⟨g, e, hg⟩
    · rw [e1] at hne; rw [e2]; exact hne
    · rw [e]; exact hne
    · rw [e]; intro q; injection q with q; omega
  have hblk : ∀ b, b < W.heap.size → some b ≠ v0.ownBlock → w'.heap[b]? = W.heap[b]? := by
    intro b hb hne
    have h1 := hp.grown.block b (by rw [hsz]; have := h.size; omega) (hvb b hb hne)
    rw [h1, hal b (by have := h.size; omega), h.block b hb hne]
  refine ⟨hrow, ?_, hp.grown.os.trans h.os, hp.grown.tape.trans h.tape, hp.grown.output.trans h.output, by have := hp.grown.size; have := h.size; omega, hblk, ?_⟩
  · rcases h.way with ⟨g, cap, e1, e2⟩ | ⟨hk, e⟩ | ⟨g, e, hg⟩
    · rw [e1]
      have := hp.old
      rw [e2] at this
      exact this.pre
    · subst hk
      have := hp.old
      rw [e] at this
      simpa using this
    · refine hold.grownO hp.grown fun g' e' q => ?_
      rw [e] at q
      injection q with q
      have := hv0 g' e'
      omega
  · rcases hp.way with ⟨g, cap, e1, e2⟩ | ⟨⟨g, e, hg⟩, _⟩
    · have hl : (xs ++ List.replicate k u0).length = xs.length + k := by simp
      rw [hl] at e1 e2
      rcases h.way with ⟨g2, cap2, f1, f2⟩ | ⟨hk, f⟩ | ⟨g2, f, hg2⟩
      · left
        rw [e1] at f2
        injection f2 with f3 f4 f5
        exact ⟨g, cap, by rw [f1, ← f3, f5], e2⟩
      · subst hk
        left
        exact ⟨g, cap, by rw [← f, e1]; simp, e2⟩
      · right; right
        rw [e1] at f
        exact ⟨g2, by rw [e2]; exact f, hg2⟩
    · right; right
      exact ⟨g, e, by rw [hsz] at hg; have := h.size; omega⟩
end
end Ow
end Go.Proofs.YtolddolfpnkndaaGreat
namespace Go.Proofs.YtolddolfpnkndaaGreat
open Go.RowKit
namespace Ow
open Vt
/-- the cells of pairs -/
def pc (cs : List (Value × Value)) : List Value := cs.flatMap fun p => [p.1, p.2]
theorem pc_len (cs : List (Value × Value)) : (pc cs).length = cs.length * 2 := by
  induction cs with
  | nil => rfl
  | cons p r ih => simp only [pc, List.flatMap_cons, List.length_append, List.length_cons, List.length_nil] at *; omega
theorem pc_app (a b : List (Value × Value)) : pc a ++ pc b = pc (a ++ b) := by unfold pc; rw [List.flatMap_append]
theorem pc_at (cs : List (Value × Value)) (i : Nat) (p : Value × Value) (h : cs[i]? = some p) : (pc cs)[i * 2]? = some p.1 ∧ (pc cs)[i * 2 + 1]? = some p.2 := by
  induction cs generalizing i with
  | nil => simp at h
  | cons q r ih =>
    cases i with
    | zero => simp at h; subst h; exact ⟨rfl, rfl⟩
    | succ i =>
      have := ih i (by simpa using h)
      have e : pc (q :: r) = q.1 :: q.2 :: pc r := rfl
      rw [e, show (i + 1) * 2 = i * 2 + 1 + 1 by omega, show i * 2 + 1 + 1 + 1 = (i * 2 + 1) + 1 + 1 by omega]
      exact this
def One (cs : List (Value × Value)) : Prop := ∀ p ∈ cs, p.1.oneCell' = true ∧ p.2.oneCell' = true
theorem One.cells {cs : List (Value × Value)} (h : One cs) : ∀ u ∈ pc cs, u.oneCell' = true := by
  intro u hu
  obtain ⟨p, hp, hu⟩ := List.mem_flatMap.1 hu
  simp at hu
  rcases hu with rfl | rfl
  · exact (h p hp).1
  · exact (h p hp).2
/-- a row of the call's own, of structs of two cells -/
def JP (T : TypeId) (w : World) (base : Nat) (v : Value) (cs : List (Value × Value)) : Prop := One cs ∧ w.ownsRow base T 2 v cs.length (pc cs)
section
variable {T : TypeId}
theorem jp_nil (w : World) (base : Nat) : JP T w base (.slice none 0 0) [] := ⟨(fun p hp => by cases hp), rfl, .inl ⟨rfl, rfl⟩⟩
theorem JP.shape {w : World} {base : Nat} {v : Value} {cs : List (Value × Value)} (h : JP T w base v cs) : ∃ a c, v = .slice a cs.length c ∧ cs.length ≤ c := by
  rcases h.2.2 with ⟨rfl, e⟩ | ⟨g, cap, cur, rfl, _, _, hl, _⟩
  · exact ⟨none, 0, by rw [e], by omega⟩
  · exact ⟨_, cap, rfl, hl⟩
theorem JP.blk_lt {w : World} {base : Nat} {v : Value} {cs : List (Value × Value)} (h : JP T w base v cs) : ∀ g, v.ownBlock = some g → g < w.heap.size := by
  intro g hg
  obtain ⟨_, _, ⟨rfl, e⟩ | ⟨g', cap', cur, rfl, hbs, hh, hr⟩⟩ := h
  · cases hg
  · cases hg
    exact (Array.getElem?_eq_some_iff.1 hh).1
theorem JP.blk_ge {w : World} {base : Nat} {v : Value} {cs : List (Value × Value)} (h : JP T w base v cs) : ∀ g, v.ownBlock = some g → base ≤ g := by
  intro g hg
  obtain ⟨_, _, ⟨rfl, e⟩ | ⟨g', cap', cur, rfl, hbs, hh, hr⟩⟩ := h
  · cases hg
  · cases hg
    exact hbs
theorem JP.same {w w' : World} {base : Nat} {v : Value} {cs : List (Value × Value)} (h : JP T w base v cs) (hb : ∀ g, v.ownBlock = some g → w'.heap[g]? = w.heap[g]?) : JP T w' base v cs := by
  obtain ⟨h1, h0, ⟨rfl, e⟩ | ⟨g', cap', cur, rfl, hbs, hh, hr⟩⟩ := h
  · exact ⟨h1, h0, .inl ⟨rfl, e⟩⟩
  · exact ⟨h1, h0, .inr ⟨g', cap', cur, rfl, hbs, (hb g' rfl).trans hh, hr⟩⟩
theorem JP.below {w w' : World} {base : Nat} {v : Value} {cs : List (Value × Value)} (h : JP T w base v cs) (hb : Below w.heap.size w w') : JP T w' base v cs := h.same fun g e => hb.block g (h.blk_lt g e)
theorem JP.grownO {w w' : World} {base : Nat} {row : Option Nat} {v : Value} {cs : List (Value × Value)} (h : JP T w base v cs) (hg : w.grownBy w' row) (hne : ∀ g, v.ownBlock = some g → some g ≠ row) : JP T w' base v cs := h.same fun g e => hg.block g (h.blk_lt g e) (hne g e)
/-- the block of a row, by its type -/
def BT (w : World) (g : Nat) (T : TypeId) : Prop := ∃ cur, w.heap[g]? = some (.cells cur T (0, 0))
theorem BT.ne {w : World} {g h : Nat} {T1 T2 : TypeId} (a : BT w g T1) (b : BT w h T2) (hT : T1 ≠ T2) : g ≠ h := by
  rintro rfl
  obtain ⟨c1, h1⟩ := a
  obtain ⟨c2, h2⟩ := b
  rw [h1] at h2
  injection h2 with h2
  injection h2 with _ h3 _
  exact hT h3
theorem JP.bt {w : World} {base : Nat} {v : Value} {cs : List (Value × Value)} (h : JP T w base v cs) {g : Nat} (hg : v.ownBlock = some g) : BT w g T := by
  obtain ⟨_, _, ⟨rfl, _⟩ | ⟨g1, c1, cur1, rfl, _, hh1, _⟩⟩ := h
  · cases hg
  · have e : g1 = g := by simpa [Value.ownBlock] using hg
    rw [e] at hh1
    exact ⟨_, hh1⟩
theorem JV.bt {w : World} {base : Nat} {v : Value} {xs : List Value} (h : JV T w base v xs) {g : Nat} (hg : v.ownBlock = some g) : BT w g T := by
  obtain ⟨_, _, ⟨rfl, _⟩ | ⟨g1, c1, cur1, rfl, _, hh1, _⟩⟩ := h
  · cases hg
  · have e : g1 = g := by simpa [Value.ownBlock] using hg
    rw [e] at hh1
    exact ⟨_, hh1⟩
theorem JP.at {w : World} {base g n cap : Nat} {cs : List (Value × Value)} (h : JP T w base (.slice (some ⟨g, 0, none⟩) n cap) cs) : n = cs.length ∧ n ≤ cap ∧ cap ≤ maxLen ∧ g < w.heap.size ∧ base ≤ g ∧ ∀ i p, cs[i]? = some p → w.cell? ⟨g, i * 2, none⟩ = some p.1 ∧ w.cell? ⟨g, i * 2 + 1, none⟩ = some p.2 := by
  obtain ⟨h1, h0, ⟨e, _⟩ | ⟨g', cap', cur, e, hbs, hh, hl, hm, hc, ht⟩⟩ := h
  · cases e
  · injection e with e1 e2 e3
    injection e1 with e1
    injection e1 with e4 _
    subst e4 e3 e2
    refine ⟨rfl, hl, hm, (Array.getElem?_eq_some_iff.1 hh).1, hbs, fun i p hp => ?_⟩
    have hi : i < cs.length := (List.getElem?_eq_some_iff.1 hp).1
    obtain ⟨q1, q2⟩ := pc_at cs i p hp
    have k : ∀ j u, (pc cs)[j]? = some u → j < cs.length * 2 → w.cell? ⟨g, j, none⟩ = some u := by
      intro j u hu hj
      rw [← ht, List.getElem?_take_of_lt hj] at hu
      simp only [World.cell?, hh]
      simpa using hu
    exact ⟨k _ _ q1 (by omega), k _ _ q2 (by omega)⟩
variable {S : TypeId} {z : Value} {by_ : Nat}
end
end Ow
end Go.Proofs.YtolddolfpnkndaaGreat
