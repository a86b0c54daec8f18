/-
  THE LAW'S works(): junk and two frames, as the chapter fixes it: it answers true.
  RAW RECORDS AS A WRITER'S: what the theorems' own written puts, plainly.
  OWN ROWS THAT THEIR OWNER WRITES FULL AND MAKES LONGER: rows of one-cell values of any type ('JV'); an append of one element that tells besides what becomes of the elder list ('AppPost'); the relation of a loop of such appends ('Ext').
-/
import Derived.Test.YtolddolfpnkndaaGreatXubo
import Derived.Test.YtolddolfpnkndaaGreatXubp
import Derived.Test.YtolddolfpnkndaaGreatXubq
import Derived.Test.YtolddolfpnkndaaGreatXuba
import Derived.Test.YtolddolfpnkndaaGreatXubm
import Derived.Test.YtolddolfpnkndaaGreatXuab
import Derived.ArgAppend
namespace Go.Proofs.YtolddolfpnkndaaGreat
open Go.RowKit Go.Shelf
namespace Vt
/-- a Put of the key tea -/
def tf (n : Nat) : Fr := ⟨1, ⟨n, 1, ⟨#[116, 101, 97]⟩, ⟨#[103, 114, 101, 101, 110]⟩⟩, zp, ze⟩
/-- junk and two frames -/
def two : List Nat := [1, 2] ++ (en (tf 1) ++ en (tf 2))
theorem en_byt {f : Fr} (h : rf f = 0) : Byt (en f) := by
  rw [en_eq]
  intro x hx
  rcases List.mem_cons.1 hx with rfl | hx
  · decide
  · exact byt_app (dg_byt _ _) (byt_app (wr_byt (bd_byt h)) (dg_byt _ _)) x hx
end Vt
end Go.Proofs.YtolddolfpnkndaaGreat
namespace Go.Proofs.YtolddolfpnkndaaGreat
open Go.RowKit Go.Maps Go.Sort
namespace Sg
open Vt Dk
structure Rw4 where
  k : Int
  y : Int
  v : Int
  n : Int
def wcl (x : Rw4) : List Value := [.int .i64 x.k, .int .i64 x.y, .int .i64 x.v, .int .i64 x.n]
def Rw4.Ok (x : Rw4) : Prop := (Lit.int .i64 x.k).wf = true ∧ (Lit.int .i64 x.y).wf = true ∧ (Lit.int .i64 x.v).wf = true ∧ (Lit.int .i64 x.n).wf = true
/-- a slice of raw records that came in -/
def IsRw (w : World) (v : Value) (l : List Rw4) : Prop :=
  (∀ x ∈ l, x.Ok) ∧ ((l = [] ∧ ∃ a c, v = .slice a 0 c) ∨ ∃ b off c, v = .slice (some ⟨b, off, none⟩) l.length c ∧ l.length ≤ c ∧ c ≤ maxLen ∧ b < w.heap.size ∧ ∀ i x, l[i]? = some x → ∀ j u, (wcl x)[j]? = some u → w.cell? ⟨b, off + i * 4 + j, none⟩ = some u)
theorem IsRw.shape {w : World} {v : Value} {l : List Rw4} (h : IsRw w v l) : ∃ a c, v = .slice a l.length c := by
  rcases h.2 with ⟨rfl, a, c, h⟩ | ⟨b, off, c, h, _⟩
  · exact ⟨a, c, h⟩
  · exact ⟨_, c, h⟩
theorem IsRw.keep {w w' : World} {n : Nat} {v : Value} {rs : List Rw4} (h : IsRw w v rs) (hn : w.heap.size ≤ n) (hb : Below n w w') : IsRw w' v rs := by
  refine ⟨h.1, ?_⟩
  rcases h.2 with h | ⟨b, off, c, h1, h2, h3, h4, h5⟩
  · exact .inl h
  · exact .inr ⟨b, off, c, h1, h2, h3, Nat.lt_of_lt_of_le h4 hb.size, fun i r hr j u hu => (World.cell?_of_block (hb.block b (Nat.lt_of_lt_of_le h4 hn))).trans (h5 i r hr j u hu)⟩
def zw : Rw4 := ⟨0, 0, 0, 0⟩
theorem IsRw.at {w : World} {a : Option Addr} {n c k : Nat} {l : List Rw4} (h : IsRw w (.slice a n c) l) (hk : k < l.length) : ∃ b off x, a = some ⟨b, off, none⟩ ∧ l.getD k zw = x ∧ x.Ok ∧ c ≤ maxLen ∧ b < w.heap.size ∧ ∀ j u, (wcl x)[j]? = some u → w.cell? ⟨b, off + k * 4 + j, none⟩ = some u := by
  obtain ⟨h0, ⟨rfl, _⟩ | ⟨b, off, c', e, _, h3, h4, h5⟩⟩ := h
  · simp at hk
  · injection e with e1 e2 e3
    have hx : l[k]? = some (l.getD k zw) := by rw [List.getD_eq_getElem?_getD, List.getElem?_eq_getElem hk]; rfl
    exact ⟨b, off, _, e1, rfl, h0 _ (List.mem_of_getElem? hx), by rw [e3]; exact h3, h4, fun j u hu => h5 k _ hx j u hu⟩
theorem IsRw.len {w : World} {a : Option Addr} {n c : Nat} {l : List Rw4} (h : IsRw w (.slice a n c) l) : l.length ≤ maxLen := by
  obtain ⟨_, ⟨rfl, _⟩ | ⟨b, off, c', e, h2, h3, _⟩⟩ := h
  · exact Nat.zero_le _
  · omega
/-- the records -/
def twR (l : List Rw4) (i : Nat) : Rec := rcQ (l.getD i zw).k (l.getD i zw).y (l.getD i zw).v (i + 1)
def twS (l : List Rw4) (i : Nat) : Bool := decide (pkN (l.getD i zw).n 6 = 0)
def twX (_ : Nat) : Nat := 0
/-- how many are synced behind k -/
def lastS (l : List Rw4) : Nat → Nat
  | 0 => 0
  | k + 1 => if twS l k then k + 1 else lastS l k
/-- the state at the start -/
def tw0 (lim evy : Int) : Ws × Ds := (⟨64 + pkN lim 2000, pkN evy 8, true, 0, 0, 0⟩, ds0 2097152)
end Sg
end Go.Proofs.YtolddolfpnkndaaGreat
namespace Go.Proofs.YtolddolfpnkndaaGreat
open Go.RowKit
namespace Ow
open Vt
/-- a row of the call's own, of one-cell values -/
def JV (E : TypeId) (w : World) (base : Nat) (v : Value) (xs : List Value) : Prop := (∀ u ∈ xs, u.oneCell' = true) ∧ w.ownsRow base E 1 v xs.length xs
section
variable {E : TypeId}
theorem JV.shape {w : World} {base : Nat} {v : Value} {xs : List Value} (h : JV E w base v xs) : ∃ a c, v = .slice a xs.length c ∧ xs.length ≤ c := by
  rcases h.2.2 with ⟨rfl, e⟩ | ⟨g, cap, cur, rfl, _, _, hl, _⟩
  · exact ⟨none, 0, by rw [e], by omega⟩
  · exact ⟨_, cap, rfl, hl⟩
theorem JV.blk_lt {w : World} {base : Nat} {v : Value} {xs : List Value} (h : JV E w base v xs) : ∀ g, v.ownBlock = some g → g < w.heap.size := by
  intro g hg
  obtain ⟨_, _, ⟨rfl, e⟩ | ⟨g', cap', cur, rfl, hbs, hh, hr⟩⟩ := h
  · cases hg
  · cases hg
    exact (Array.getElem?_eq_some_iff.1 hh).1
theorem JV.blk_ge {w : World} {base : Nat} {v : Value} {xs : List Value} (h : JV E w base v xs) : ∀ g, v.ownBlock = some g → base ≤ g := by
  intro g hg
  obtain ⟨_, _, ⟨rfl, e⟩ | ⟨g', cap', cur, rfl, hbs, hh, hr⟩⟩ := h
  · cases hg
  · cases hg
    exact hbs
/-- the row's block is as it was: so is the row -/
theorem JV.same {w w' : World} {base : Nat} {v : Value} {xs : List Value} (h : JV E w base v xs) (hb : ∀ g, v.ownBlock = some g → w'.heap[g]? = w.heap[g]?) : JV E w' base v xs := by
  obtain ⟨h1, h0, ⟨rfl, e⟩ | ⟨g', cap', cur, rfl, hbs, hh, hr⟩⟩ := h
  · exact ⟨h1, h0, .inl ⟨rfl, e⟩⟩
  · exact ⟨h1, h0, .inr ⟨g', cap', cur, rfl, hbs, (hb g' rfl).trans hh, hr⟩⟩
theorem JV.grownO {w w' : World} {base : Nat} {row : Option Nat} {v : Value} {xs : List Value} (h : JV E w base v xs) (hg : w.grownBy w' row) (hne : ∀ g, v.ownBlock = some g → some g ≠ row) : JV E w' base v xs :=
  h.same fun g e => hg.block g (h.blk_lt g e) (hne g e)
theorem JV.below {w w' : World} {base : Nat} {v : Value} {xs : List Value} (h : JV E w base v xs) (hb : Below w.heap.size w w') : JV E w' base v xs :=
  h.same fun g e => hb.block g (h.blk_lt g e)
theorem JV.mono {w : World} {base b' : Nat} {v : Value} {xs : List Value} (h : JV E w base v xs) (hb : b' ≤ base) : JV E w b' v xs := by
  obtain ⟨h1, h0, ⟨rfl, e⟩ | ⟨g', cap', cur, rfl, hbs, hr⟩⟩ := h
  · exact ⟨h1, h0, .inl ⟨rfl, e⟩⟩
  · exact ⟨h1, h0, .inr ⟨g', cap', cur, rfl, by omega, hr⟩⟩
/-- a shorter slice of the same row -/
theorem JV.pre {w : World} {base g n cap : Nat} {xs ys : List Value} (h : JV E w base (.slice (some ⟨g, 0, none⟩) n cap) (xs ++ ys)) : JV E w base (.slice (some ⟨g, 0, none⟩) xs.length cap) xs := by
  obtain ⟨h1, h0, ⟨e, _⟩ | ⟨g', cap', cur, e, hbs, hh, hl, hm, hc, ht⟩⟩ := h
  · cases e
  · injection e with e1 e2 e3
    injection e1 with e1
    injection e1 with e4 _
    subst e4 e3
    rw [List.length_append] at hl
    refine ⟨fun u hu => h1 u (List.mem_append_left _ hu), by simp, .inr ⟨g, cap, cur, rfl, hbs, hh, by omega, hm, hc, ?_⟩⟩
    have := congrArg (List.take xs.length) ht
    rw [List.take_left, List.take_take, List.length_append, Nat.mul_one, show min xs.length (xs.length + ys.length) = xs.length by omega] at this
    rw [Nat.mul_one]
    exact this
theorem JV.at {w : World} {base g n cap : Nat} {xs : List Value} (h : JV E w base (.slice (some ⟨g, 0, none⟩) n cap) xs) : n = xs.length ∧ n ≤ cap ∧ cap ≤ maxLen ∧ g < w.heap.size ∧ base ≤ g ∧ ∀ j u, xs[j]? = some u → w.cell? ⟨g, j, none⟩ = some u ∧ w.frozen? ⟨g, j, none⟩ = false := by
  obtain ⟨h1, h0, ⟨e, _⟩ | ⟨g', cap', cur, e, hbs, hh, hl, hm, hc, ht⟩⟩ := h
  · cases e
  · injection e with e1 e2 e3
    injection e1 with e1
    injection e1 with e4 _
    subst e4 e3 e2
    refine ⟨rfl, hl, hm, (Array.getElem?_eq_some_iff.1 hh).1, hbs, fun j u hu => ⟨?_, by simp [World.frozen?, hh]⟩⟩
    have hj : j < xs.length := (List.getElem?_eq_some_iff.1 hu).1
    rw [← ht, List.getElem?_take_of_lt (by omega)] at hu
    simp only [World.cell?, hh]
    simpa using hu
theorem JV.set {w : World} {base g n cap j : Nat} {xs : List Value} (h : JV E w base (.slice (some ⟨g, 0, none⟩) n cap) xs) (hn : n = xs.length) {u : Value} (hu : u.oneCell' = true) : JV E (w.setCell ⟨g, j, none⟩ u) base (.slice (some ⟨g, 0, none⟩) n cap) (xs.set j u) := by
  subst hn
  refine ⟨fun x hx => ?_, ?_⟩
  · rcases List.mem_or_eq_of_mem_set hx with hx | hx
    · exact h.1 x hx
    · rw [hx]; exact hu
  · have := own_set (j := j) h.2 u
    rw [List.length_set]
    exact this
/-- what an append of one element leaves -/
structure AppPost (E : TypeId) (w : World) (base : Nat) (v : Value) (xs : List Value) (u0 : Value) (v' : Value) (w' : World) : Prop where
  row : JV E w' base v' (xs ++ [u0])
  old : JV E w' base v xs
  grown : w.grownBy w' v.ownBlock
  way : (∃ g cap, v = .slice (some ⟨g, 0, none⟩) xs.length cap ∧ v' = .slice (some ⟨g, 0, none⟩) (xs.length + 1) cap) ∨ ((∃ h, v'.ownBlock = some h ∧ w.heap.size ≤ h) ∧ w.grownBy w' none)
variable {S : TypeId} {z : Value} {by_ : Nat}
/-- a loop of such appends, begun with v0 in the world W: k elements more -/
structure Ext (E : TypeId) (W : World) (base : Nat) (v0 : Value) (xs : List Value) (u0 : Value) (k : Nat) (v : Value) (w : World) : Prop where
  row : JV E w base v (xs ++ List.replicate k u0)
  old : JV E w base v0 xs
  os : w.os = W.os
  tape : w.tape = W.tape
  output : w.output = W.output
  size : W.heap.size ≤ w.heap.size
  block : ∀ b, b < W.heap.size → some b ≠ v0.ownBlock → w.heap[b]? = W.heap[b]?
  way : (∃ g cap, v0 = .slice (some ⟨g, 0, none⟩) xs.length cap ∧ v = .slice (some ⟨g, 0, none⟩) (xs.length + k) cap) ∨ (k = 0 ∧ v = v0) ∨ ∃ h, v.ownBlock = some h ∧ W.heap.size ≤ h
theorem Ext.start {W : World} {base : Nat} {v0 : Value} {xs : List Value} (h : JV E W base v0 xs) (u0 : Value) : Ext E W base v0 xs u0 0 v0 W :=
  ⟨by simpa using h, h, rfl, rfl, rfl, Nat.le_refl _, fun _ _ _ => rfl, .inr (.inl ⟨rfl, rfl⟩)⟩
theorem Ext.step {W w w' : World} {base : Nat} {v0 v v' : Value} {xs : List Value} {u0 : Value} {k : Nat} {o : Obj} (hx : JV E W base v0 xs) (h : Ext E W base v0 xs u0 k v w) (hp : AppPost E (w.alloc o) base v (xs ++ List.replicate k u0) u0 v' w') : Ext E W base v0 xs u0 (k + 1) v' w' := by
  have hrow : JV E w' base v' (xs ++ List.replicate (k + 1) u0) := by
    rw [List.replicate_succ', ← List.append_assoc]; exact hp.row
  have hsz : (w.alloc o).heap.size = w.heap.size + 1 := by simp
  have hal : ∀ b, b < w.heap.size → (w.alloc o).heap[b]? = w.heap[b]? := fun b hb => ((Below.refl w.heap.size w).alloc (Nat.le_refl _) o).block b hb
  have hv0 : ∀ g, v0.ownBlock = some g → g < W.heap.size := fun g e => hx.blk_lt g e
  have hold : JV E (w.alloc o) base v0 xs := h.old.same fun g e => hal g (h.old.blk_lt g e)
  -- the row that grows is v0's own, or lies behind W
  have hvb : ∀ b, b < W.heap.size → some b ≠ v0.ownBlock → some b ≠ v.ownBlock := by
    intro b hb hne
    rcases h.way with ⟨g, cap, e1, e2⟩ | ⟨_, e⟩ | ⟨g, e, hg⟩
    · rw [e1] at hne; rw [e2]; exact hne
    · rw [e]; exact hne
    · rw [e]; intro q; injection q with q; omega
  have hblk : ∀ b, b < W.heap.size → some b ≠ v0.ownBlock → w'.heap[b]? = W.heap[b]? := by
    intro b hb hne
    have h1 := hp.grown.block b (by rw [hsz]; have := h.size; omega) (hvb b hb hne)
    rw [h1, hal b (by have := h.size; omega), h.block b hb hne]
  refine ⟨hrow, ?_, hp.grown.os.trans h.os, hp.grown.tape.trans h.tape, hp.grown.output.trans h.output, by have := hp.grown.size; have := h.size; omega, hblk, ?_⟩
  · rcases h.way with ⟨g, cap, e1, e2⟩ | ⟨hk, e⟩ | ⟨g, e, hg⟩
    · rw [e1]
      have := hp.old
      rw [e2] at this
      exact this.pre
    · subst hk
      have := hp.old
      rw [e] at this
      simpa using this
    · refine hold.grownO hp.grown fun g' e' q => ?_
      rw [e] at q
      injection q with q
      have := hv0 g' e'
      omega
  · rcases hp.way with ⟨g, cap, e1, e2⟩ | ⟨⟨g, e, hg⟩, _⟩
    · have hl : (xs ++ List.replicate k u0).length = xs.length + k := by simp
      rw [hl] at e1 e2
      rcases h.way with ⟨g2, cap2, f1, f2⟩ | ⟨hk, f⟩ | ⟨g2, f, hg2⟩
      · left
        rw [e1] at f2
        injection f2 with f3 f4 f5
        exact ⟨g, cap, by rw [f1, ← f3, f5], e2⟩
      · subst hk
        left
        exact ⟨g, cap, by rw [← f, e1]; simp, e2⟩
      · right; right
        rw [e1] at f
        exact ⟨g2, by rw [e2]; exact f, hg2⟩
    · right; right
      exact ⟨g, e, by rw [hsz] at hg; have := h.size; omega⟩
end
end Ow
end Go.Proofs.YtolddolfpnkndaaGreat
