/-
  OWN ROWS OF STRUCTS THAT THEIR OWNER MAKES LONGER: an append of one element that tells besides what becomes of the elder list ('AppPostR'); the relation of a loop of such appends ('ExtR'): Ow0's laws for elements of several cells.
  OWN ROWS OF STRUCTS THAT THEIR OWNER WRITES FULL: one element stored (run_storeAt_mid: 'setCells') leaves the row with that element in its place.
  ROWS OF STRUCTS THAT CAME OUT, EACH ITS OWNER'S: several of them, no two the same ('RSR'); written full, each of a mark of its own ('In1R'), then made longer one by one ('In2R').
  A REGION THAT DRAWS ITS ORDER, whose last operation comes behind all others and alone turns the world, in whatever way (a call). No condition beyond those that each theorem bears.
  A fingerprint as a parameter.
-/
import Derived.Test.YtifjjoobbegpoaaMhbg
import Derived.ArgAppend
import Derived.Deep.MidRow
import Derived.Test.YtifjjoobbegpoaaMhby
import Derived.Test.YtifjjoobbegpoaaMhbn
import Derived.Test.YtifjjoobbegpoaaMhbo
import Derived.Test.YtifjjoobbegpoaaMhaq
import Derived.Deep.Matrix
namespace Go.Proofs.Ytifjjoobbegpoaa
open Go.RowKit
namespace Os
open Vt
section
variable {E : TypeId} {sz : Nat}
/-- a shorter slice of the same row -/
theorem jr_pre {w : World} {base g n cap : Nat} {xs ys : List (List Value)} (h : JR E sz w base (.slice (some ⟨g, 0, none⟩) n cap) (xs ++ ys)) : JR E sz w base (.slice (some ⟨g, 0, none⟩) xs.length cap) xs := by
  obtain ⟨h1, h0, ⟨e, _⟩ | ⟨g', cap', cur, e, hbs, hh, hl, hm, hc, ht⟩⟩ := h
  · cases e
  · injection e with e1 e2 e3
    injection e1 with e1
    injection e1 with e4 _
    subst e4 e3
    rw [List.length_append] at hl
    have hx : ∀ r ∈ xs, r.length = sz := fun r hr => (h1 r (List.mem_append_left _ hr)).1
    refine ⟨fun r hr => h1 r (List.mem_append_left _ hr), by rw [flat_len hx], .inr ⟨g, cap, cur, rfl, hbs, hh, by omega, hm, hc, ?_⟩⟩
    have := congrArg (List.take (xs.length * sz)) ht
    rw [List.flatten_append, List.take_left' (flat_len hx), List.take_take, List.length_append, Nat.add_mul, Nat.min_eq_left (by omega)] at this
    exact this
theorem jr_same {w w' : World} {base : Nat} {v : Value} {xs : List (List Value)} (h : JR E sz w base v xs) (hb : ∀ g, v.ownBlock = some g → w'.heap[g]? = w.heap[g]?) : JR E sz w' base v xs := by
  obtain ⟨h1, h0, ⟨rfl, e⟩ | ⟨g', cap', cur, rfl, hbs, hh, hr⟩⟩ := h
  · exact ⟨h1, h0, .inl ⟨rfl, e⟩⟩
  · exact ⟨h1, h0, .inr ⟨g', cap', cur, rfl, hbs, (hb g' rfl).trans hh, hr⟩⟩
/-- what an append of one element leaves -/
structure AppPostR (E : TypeId) (sz : Nat) (w : World) (base : Nat) (v : Value) (xs : List (List Value)) (r0 : List Value) (v' : Value) (w' : World) : Prop where
  row : JR E sz w' base v' (xs ++ [r0])
  old : JR E sz w' base v xs
  grown : w.grownBy w' v.ownBlock
  way : (∃ g cap, v = .slice (some ⟨g, 0, none⟩) xs.length cap ∧ v' = .slice (some ⟨g, 0, none⟩) (xs.length + 1) cap) ∨ ((∃ h, v'.ownBlock = some h ∧ w.heap.size ≤ h) ∧ w.grownBy w' none)
variable {S : TypeId} {z : Value} {by_ : Nat}
theorem run_append_keepR (hS : Try.prog.underlying S = some (.slice E)) (hE : (Try.prog.info? E).map (fun i => (i.zero, i.size, i.bytes)) = some (some z, sz, by_)) (hz : z.cells.size = sz) (hsz : 0 < sz) (ty : TypeId) (w : World) (base : Nat) (v : Value) (xs : List (List Value)) (hJ : JR E sz w base v xs) (ad : Addr) (c : Nat) (r0 : List Value) (hr0 : r0.length = sz) (hu : ∀ j u, r0[j]? = some u → w.cell? (ad.add j) = some u) (h1 : ∀ u ∈ r0, u.oneCell' = true) (hb : (xs.length + 1) * by_ ≤ 140737488355328) (hb2 : xs.length + 1 ≤ maxLen) (hbase : base ≤ w.heap.size) :
    ∃ a' cap w', (Builtin.append_ #[S, S] ty #[v, .slice (some ad) 1 c]).run Try.prog w = .ok (.slice a' (xs.length + 1) cap) w' ∧ AppPostR E sz w base v xs r0 (.slice a' (xs.length + 1) cap) w' := by
  obtain ⟨i0, hi, hz0, hz1, hz2⟩ := info_parts hE
  have hall : ∀ r ∈ xs ++ [r0], r.length = sz ∧ ∀ u ∈ r, u.oneCell' = true := by
    intro r hr
    rcases List.mem_append.1 hr with hr | hr
    · exact hJ.1 r hr
    · simp at hr; rw [hr]; exact ⟨hr0, h1⟩
  have hlen : (xs ++ [r0]).length = xs.length + 1 := by simp
  have hfl : (xs ++ [r0]).flatten = xs.flatten ++ r0 := by simp
  have hn1 : r0.length = 1 * sz := by rw [hr0, Nat.one_mul]
  obtain ⟨hx1, h0, ⟨rfl, e⟩ | ⟨g, cap, cur, rfl, hbs, hh, hl, hm, hc, ht⟩⟩ := hJ
  · obtain rfl : xs = [] := List.length_eq_zero_iff.1 e
    obtain ⟨g, cap, w', hr, h2, h3, h4, _⟩ := run_append_lies (P := Try.prog) w S ty base E i0 z sz by_ hS hi hz0 hz1 hz2 hz hsz (.slice none 0 0) 0 [] ⟨by simp, .inl ⟨rfl, rfl⟩⟩ ad 1 c r0 hn1 hu h1 (by omega) (by simpa using hb2) (by simpa using hb) hbase w.heap.size rfl
    refine ⟨_, cap, w', hr, ⟨⟨hall, by rw [hlen, hfl]; exact h2⟩, ⟨by simp, by simp, .inl ⟨rfl, rfl⟩⟩, h3, .inr ⟨⟨g, rfl, ?_⟩, h3⟩⟩⟩
    rcases h4 with h4 | h4
    · cases h4
    · omega
  · by_cases hroom : xs.length + 1 ≤ cap
    · have hown : w.ownsRow base E sz (.slice (some ⟨g, 0, none⟩) xs.length cap) xs.length xs.flatten := ⟨h0, .inr ⟨g, cap, cur, rfl, hbs, hh, hl, hm, hc, ht⟩⟩
      obtain ⟨w', hr, h2, h3⟩ := run_append_fits (P := Try.prog) w base S ty E i0 sz hS hi hz1 g xs.length cap xs.flatten hown ad 1 c r0 hn1 hu h1 hroom
      have hJ' : JR E sz w' base (.slice (some ⟨g, 0, none⟩) (xs.length + 1) cap) (xs ++ [r0]) := ⟨hall, by rw [hlen, hfl]; exact h2⟩
      exact ⟨_, cap, w', hr, ⟨hJ', jr_pre hJ', h3, .inl ⟨g, cap, rfl, rfl⟩⟩⟩
    · have hJ0 : JR E sz w base (.slice (some ⟨g, 0, none⟩) xs.length cap) xs := ⟨hx1, h0, .inr ⟨g, cap, cur, rfl, hbs, hh, hl, hm, hc, ht⟩⟩
      have hx : ∀ r ∈ xs, r.length = sz := fun r hr => (hx1 r hr).1
      obtain ⟨v', w', hr, h2, h3⟩ := run_append_arg_grows (P := Try.prog) w S ty E i0 z sz by_ hS hi hz0 hz1 hz2 hz hsz ⟨g, 0, none⟩ xs.length cap xs.flatten (flat_len hx) (fun j u hj => by
        rw [add_at, Nat.zero_add]
        have hjl : j < xs.length * sz := by rw [← flat_len hx]; exact (List.getElem?_eq_some_iff.1 hj).1
        have hq : j / sz < xs.length := Nat.div_lt_of_lt_mul (by rw [Nat.mul_comm]; exact hjl)
        have hm0 := Nat.mod_lt j hsz
        have hdm : j / sz * sz + j % sz = j := by rw [Nat.mul_comm]; exact Nat.div_add_mod j sz
        have hk : xs[j / sz]? = some xs[j / sz] := List.getElem?_eq_getElem hq
        have hf := flat_at hx (j / sz) _ (j % sz) hk hm0
        rw [hdm, hj] at hf
        have := hJ0.at (j / sz) _ (j % sz) u hk hf.symm
        rwa [hdm] at this) ad 1 c r0 hn1 hu (by omega) hb2 hb
      obtain ⟨g2, cap2, rfl, hg2, hlt2⟩ := h2.form (by omega)
      have hJ2 : JR E sz w' w.heap.size (.slice (some ⟨g2, 0, none⟩) (xs.length + 1) cap2) (xs ++ [r0]) := ⟨hall, by rw [hlen, hfl]; exact h2⟩
      refine ⟨_, cap2, w', hr, ⟨hJ2.lower hbase, hJ0.grownO h3 (fun g e => by simp), ⟨h3.os, h3.tape, h3.output, h3.size, fun k hk _ => h3.block k hk (by simp)⟩, .inr ⟨⟨g2, rfl, hJ2.blk_ge g2 rfl⟩, h3⟩⟩⟩
theorem wpList_append_keepR (hS : Try.prog.underlying S = some (.slice E)) (hE : (Try.prog.info? E).map (fun i => (i.zero, i.size, i.bytes)) = some (some z, sz, by_)) (hz : z.cells.size = sz) (hsz : 0 < sz) (w : World) {ops : Array Oper} {rest : List Oper} {o : Oper} {a : Act} {Q : Exit → Act → World → Prop} (hgd : o.guard = none) (s x : Operand)
    (ho : o.op = .call { callee := .builtin .append, args := #[s, x], argTypes := #[S, S] })
    (base : Nat) (v : Value) (xs : List (List Value)) (ad : Addr) (c : Nat) (r0 : List Value) (hs : a.eval s = v) (hx : a.eval x = .slice (some ad) 1 c) (hJ : JR E sz w base v xs) (hr0 : r0.length = sz) (hu : ∀ j u, r0[j]? = some u → w.cell? (ad.add j) = some u) (h1 : ∀ u ∈ r0, u.oneCell' = true) (n : Nat) (hn : xs.length + 1 = n) (hb : n * by_ ≤ 140737488355328) (hb2 : n ≤ maxLen) (hbase : base ≤ w.heap.size)
    (h : ∀ a' cap w', AppPostR E sz w base v xs r0 (.slice a' n cap) w' → wpList Try.prog ops Q rest (a.put o.dst (.slice a' n cap)) w') : wpList Try.prog ops Q (o :: rest) a w := by
  subst hn
  refine wpList_plain hgd fun K hK => ?_
  obtain ⟨a', cap, w', hr, hp⟩ := run_append_keepR hS hE hz hsz o.type w base v xs hJ ad c r0 hr0 hu h1 hb hb2 hbase
  unfold Oper.wp execOp
  simp only [ho, resolve, invoke, builtin, Sem.run_bind, Sem.run_pure, Result.andThen_ok, List.map_toArray, List.map_cons, List.map_nil, hs, hx, hr]
  exact hK _ _ (h a' cap w' hp)
/-- a loop of such appends, begun with v0 in the world W: k elements more -/
structure ExtR (E : TypeId) (sz : Nat) (W : World) (base : Nat) (v0 : Value) (xs : List (List Value)) (r0 : List Value) (k : Nat) (v : Value) (w : World) : Prop where
  row : JR E sz w base v (xs ++ List.replicate k r0)
  old : JR E sz w base v0 xs
  os : w.os = W.os
  tape : w.tape = W.tape
  output : w.output = W.output
  size : W.heap.size ≤ w.heap.size
  block : ∀ b, b < W.heap.size → some b ≠ v0.ownBlock → w.heap[b]? = W.heap[b]?
  way : (∃ g cap, v0 = .slice (some ⟨g, 0, none⟩) xs.length cap ∧ v = .slice (some ⟨g, 0, none⟩) (xs.length + k) cap) ∨ (k = 0 ∧ v = v0) ∨ ∃ h, v.ownBlock = some h ∧ W.heap.size ≤ h
theorem ExtR.start {W : World} {base : Nat} {v0 : Value} {xs : List (List Value)} (h : JR E sz W base v0 xs) (r0 : List Value) : ExtR E sz W base v0 xs r0 0 v0 W :=
  ⟨by simpa using h, h, rfl, rfl, rfl, Nat.le_refl _, fun _ _ _ => rfl, .inr (.inl ⟨rfl, rfl⟩)⟩
theorem ExtR.step {W w w' : World} {base : Nat} {v0 v v' : Value} {xs : List (List Value)} {r0 : List Value} {k : Nat} {o : Obj} (hx : JR E sz W base v0 xs) (h : ExtR E sz W base v0 xs r0 k v w) (hp : AppPostR E sz (w.alloc o) base v (xs ++ List.replicate k r0) r0 v' w') : ExtR E sz W base v0 xs r0 (k + 1) v' w' := by
  have hrow : JR E sz w' base v' (xs ++ List.replicate (k + 1) r0) := by
    rw [List.replicate_succ', ← List.append_assoc]; exact hp.row
  have hsz : (w.alloc o).heap.size = w.heap.size + 1 := by simp
  have hal : ∀ b, b < w.heap.size → (w.alloc o).heap[b]? = w.heap[b]? := fun b hb => ((Below.refl w.heap.size w).alloc (Nat.le_refl _) o).block b hb
  have hv0 : ∀ g, v0.ownBlock = some g → g < W.heap.size := fun g e => hx.blk_lt g e
  have hold : JR E sz (w.alloc o) base v0 xs := jr_same h.old fun g e => hal g (h.old.blk_lt g e)
  have hvb : ∀ b, b < W.heap.size → some b ≠ v0.ownBlock → some b ≠ v.ownBlock := by
    intro b hb hne
    rcases h.way with ⟨g, cap, e1, e2⟩ | ⟨_, e⟩ | ⟨g, e, hg⟩
    · rw [e1] at hne; rw [e2]; exact hne
    · rw [e]; exact hne
    · rw [e]; intro q; injection q with q; omega
  have hblk : ∀ b, b < W.heap.size → some b ≠ v0.ownBlock → w'.heap[b]? = W.heap[b]? := by
    intro b hb hne
    have h1 := hp.grown.block b (by rw [hsz]; have := h.size; omega) (hvb b hb hne)
    rw [h1, hal b (by have := h.size; omega), h.block b hb hne]
  refine ⟨hrow, ?_, hp.grown.os.trans h.os, hp.grown.tape.trans h.tape, hp.grown.output.trans h.output, by have := hp.grown.size; have := h.size; omega, hblk, ?_⟩
  · rcases h.way with ⟨g, cap, e1, e2⟩ | ⟨hk, e⟩ | ⟨g, e, hg⟩
    · rw [e1]
      have := hp.old
      rw [e2] at this
      exact jr_pre this
    · subst hk
      have := hp.old
      rw [e] at this
      simpa using this
    · refine hold.grownO hp.grown fun g' e' q => ?_
      rw [e] at q
      injection q with q
      have := hv0 g' e'
      omega
  · rcases hp.way with ⟨g, cap, e1, e2⟩ | ⟨⟨g, e, hg⟩, _⟩
    · have hl : (xs ++ List.replicate k r0).length = xs.length + k := by simp
      rw [hl] at e1 e2
      rcases h.way with ⟨g2, cap2, f1, f2⟩ | ⟨hk, f⟩ | ⟨g2, f, hg2⟩
      · left
        rw [e1] at f2
        injection f2 with f3 f4 f5
        exact ⟨g, cap, by rw [f1, ← f3, f5], e2⟩
      · subst hk
        left
        exact ⟨g, cap, by rw [← f, e1]; simp, e2⟩
      · right; right
        rw [e1] at f
        exact ⟨g2, by rw [e2]; exact f, hg2⟩
    · right; right
      exact ⟨g, e, by rw [hsz] at hg; have := h.size; omega⟩
end
end Os
end Go.Proofs.Ytifjjoobbegpoaa
namespace Go.Proofs.Ytifjjoobbegpoaa
open Go.RowKit
namespace Os
open Vt
theorem row_setR {w : World} {base g p : Nat} {E : TypeId} {sz n cap : Nat} {xs : List Value} (h : w.ownsRow base E sz (.slice (some ⟨g, 0, none⟩) n cap) n xs) {u : Value} : (w.setCell ⟨g, p, none⟩ u).ownsRow base E sz (.slice (some ⟨g, 0, none⟩) n cap) n (xs.set p u) := by
  obtain ⟨h0, ⟨h, _⟩ | ⟨g', cap', cur, h, hb, hh, hl, hm, hc, ht⟩⟩ := h
  · cases h
  · injection h with h1 h2 h3
    injection h1 with h1
    injection h1 with h1
    subst h1 h3
    refine ⟨by rw [List.length_set]; exact h0, .inr ⟨g, cap, cur.setIfInBounds p u, rfl, hb, ?_, hl, hm, by rw [Array.size_setIfInBounds]; exact hc, ?_⟩⟩
    · have hlt := (Array.getElem?_eq_some_iff.1 hh).1
      have h' : w.heap[g] = .cells cur E (0, 0) := by simpa [Array.getElem?_eq_getElem hlt] using hh
      show (w.heap.modify g _)[g]? = _
      rw [Array.getElem?_eq_getElem (by simpa using hlt), Array.getElem_modify_self, h']
      rfl
    · rw [Array.toList_setIfInBounds, List.take_set, ht]
/-- what was put there from p on -/
def putFrom : List Value → Nat → List Value → List Value
  | l, _, [] => l
  | l, p, u :: q => putFrom (l.set p u) (p + 1) q
theorem putFrom_eq (r : List Value) : ∀ (l : List Value) (p : Nat), p + r.length ≤ l.length → putFrom l p r = l.take p ++ r ++ l.drop (p + r.length) := by
  induction r with
  | nil => intro l p _; simp [putFrom]
  | cons u q ih =>
    intro l p h
    rw [List.length_cons] at h
    rw [putFrom, ih (l.set p u) (p + 1) (by rw [List.length_set]; omega)]
    have e1 : (l.set p u).take (p + 1) = l.take p ++ [u] := by
      rw [List.take_succ_eq_append_getElem (by rw [List.length_set]; omega), List.getElem_set_self, List.take_set_of_le (Nat.le_refl _)]
    have e2 : (l.set p u).drop (p + 1 + q.length) = l.drop (p + 1 + q.length) := List.drop_set_of_lt (by omega)
    rw [e1, e2, List.length_cons, show p + (q.length + 1) = p + 1 + q.length by omega]
    simp
theorem rows_set {base g n cap sz : Nat} {E : TypeId} (r : List Value) : ∀ (w : World) (p : Nat) (xs : List Value), w.ownsRow base E sz (.slice (some ⟨g, 0, none⟩) n cap) n xs → (w.setCells g p r).ownsRow base E sz (.slice (some ⟨g, 0, none⟩) n cap) n (putFrom xs p r) := by
  induction r with
  | nil => intro w p xs h; exact h
  | cons u q ih => intro w p xs h; exact ih _ (p + 1) _ (row_setR h)
theorem flat_set {sz : Nat} {r : List Value} : ∀ (xs : List (List Value)) (k : Nat), (∀ x ∈ xs, x.length = sz) → k < xs.length → (xs.set k r).flatten = xs.flatten.take (k * sz) ++ r ++ xs.flatten.drop (k * sz + sz) := by
  intro xs
  induction xs with
  | nil => intro k _ hk; simp at hk
  | cons a q ih =>
    intro k hx hk
    have ha := hx a List.mem_cons_self
    have hq := fun x hx' => hx x (List.mem_cons_of_mem _ hx')
    cases k with
    | zero =>
      rw [List.set_cons_zero, List.flatten_cons, List.flatten_cons, Nat.zero_mul, Nat.zero_add, List.take_zero, List.nil_append, List.drop_left' ha]
    | succ k =>
      rw [List.set_cons_succ, List.flatten_cons, List.flatten_cons, ih k hq (by simpa using hk), Nat.succ_mul]
      rw [show k * sz + sz = a.length + k * sz by omega, List.take_append, List.take_of_length_le (by omega : a.length ≤ a.length + k * sz), Nat.add_sub_cancel_left]
      rw [show a.length + k * sz + sz = a.length + (k * sz + sz) by omega, List.drop_append, List.drop_of_length_le (by omega : a.length ≤ a.length + (k * sz + sz)), Nat.add_sub_cancel_left]
      simp only [List.append_assoc, List.nil_append]
      rw [show a.length + k * sz = k * sz + sz by omega]
section
variable {E : TypeId} {sz : Nat}
theorem jr_setCells {w : World} {base g n cap k : Nat} {xs : List (List Value)} (h : JR E sz w base (.slice (some ⟨g, 0, none⟩) n cap) xs) (hn : n = xs.length) (hk : k < xs.length) {r : List Value} (hr : r.length = sz) (h1 : ∀ u ∈ r, u.oneCell' = true) : JR E sz (w.setCells g (k * sz) r) base (.slice (some ⟨g, 0, none⟩) n cap) (xs.set k r) := by
  have hx : ∀ x ∈ xs, x.length = sz := fun x hx => (h.1 x hx).1
  have hkl : k * sz + r.length ≤ xs.flatten.length := by
    rw [flat_len hx, hr, ← Nat.succ_mul]
    exact Nat.mul_le_mul_right sz hk
  refine ⟨fun x hx' => ?_, ?_⟩
  · rcases List.mem_or_eq_of_mem_set hx' with hx' | hx'
    · exact h.1 x hx'
    · rw [hx']; exact ⟨hr, h1⟩
  · have h2 := h.2
    rw [← hn] at h2
    have h3 := rows_set r w (k * sz) _ h2
    rw [putFrom_eq r _ _ hkl, hr, ← flat_set xs k hx hk] at h3
    rw [List.length_set, ← hn]
    exact h3
theorem jr_thereR {w : World} {base g k n cap : Nat} {xs : List (List Value)} (h : JR E sz w base (.slice (some ⟨g, 0, none⟩) n cap) xs) (hk : k < xs.length) : w.there g (k * sz) sz := by
  intro j hj
  have hr : xs[k]? = some xs[k] := List.getElem?_eq_getElem hk
  have hl : xs[k].length = sz := (h.1 _ (List.getElem_mem hk)).1
  have hu : xs[k][j]? = some xs[k][j] := List.getElem?_eq_getElem (by omega)
  refine ⟨by rw [h.at k _ j _ hr hu]; rfl, ?_⟩
  obtain ⟨_, _, ⟨q, _⟩ | ⟨g', cap', cur, q, _, hh, _⟩⟩ := h
  · cases q
  · injection q with q _ _
    injection q with q
    injection q with q
    subst q
    simp [World.frozen?, hh]
/-- the store of one element, and what it leaves -/
theorem store_midR {w : World} {base g k n cap : Nat} {xs : List (List Value)} (h : JR E sz w base (.slice (some ⟨g, 0, none⟩) n cap) xs) (hn : n = xs.length) (hk : k < xs.length) (hi : (Try.prog.info? E).map (·.size) = some sz) {r : List Value} (hr : r.length = sz) (h1 : ∀ u ∈ r, u.oneCell' = true) :
    (Instr.storeAt E (.pointer (some ⟨g, k * sz, none⟩)) (.agg r.toArray)).run Try.prog w = .ok () (w.setCells g (k * sz) r) ∧ JR E sz (w.setCells g (k * sz) r) base (.slice (some ⟨g, 0, none⟩) n cap) (xs.set k r) := by
  have hz : r.toArray.size = sz := by simp [hr]
  refine ⟨run_storeAt_mid w g (k * sz) E r.toArray (by rw [hz]; exact jr_thereR h hk) (by rw [hz]; exact hi) ?_, jr_setCells h hn hk hr h1⟩
  rw [Array.all_eq_true']
  intro u hu
  exact h1 u (by simpa using hu)
end
theorem setCells_size (g : Nat) (r : List Value) : ∀ (w : World) (p : Nat), (w.setCells g p r).heap.size = w.heap.size := by
  induction r with
  | nil => intro w p; rfl
  | cons u q ih => intro w p; show ((w.setCell ⟨g, p, none⟩ u).setCells g (p + 1) q).heap.size = _; rw [ih]; simp [World.setCell]
theorem keepS_setCells {S : Nat → Prop} {g : Nat} (hg : ¬ S g) (r : List Value) : ∀ (w0 w : World) (p : Nat), KeepS S w0 w → KeepS S w0 (w.setCells g p r) := by
  induction r with
  | nil => intro w0 w p h; exact h
  | cons u q ih => intro w0 w p h; exact ih w0 _ (p + 1) (h.setCell (p := ⟨g, p, none⟩) hg u)
theorem others_setCells {g : Nat} (r : List Value) : ∀ (w : World) (p : Nat), KeepsOthers w (w.setCells g p r) := by
  induction r with
  | nil => intro w p; exact KeepsOthers.refl w
  | cons u q ih => intro w p; exact (KeepsOthers.setCell _ _ _).trans (ih _ (p + 1))
end Os
end Go.Proofs.Ytifjjoobbegpoaa
namespace Go.Proofs.Ytifjjoobbegpoaa
open Go.RowKit
namespace Os
open Vt Ow
theorem setCells_heap (g b : Nat) (h : b ≠ g) (r : List Value) : ∀ (w : World) (p : Nat), (w.setCells g p r).heap[b]? = w.heap[b]? := by
  induction r with
  | nil => intro w p; rfl
  | cons u q ih =>
    intro w p
    show ((w.setCell ⟨g, p, none⟩ u).setCells g (p + 1) q).heap[b]? = _
    rw [ih, set_heap w g p b u h]
theorem setCells_below {base g : Nat} (hg : base ≤ g) (r : List Value) : ∀ (w0 w : World) (p : Nat), Below base w0 w → Below base w0 (w.setCells g p r) := by
  induction r with
  | nil => intro w0 w p h; exact h
  | cons u q ih => intro w0 w p h; exact ih w0 _ (p + 1) (h.setCell hg u)
section
variable {α : Type} (mk : Nat → α)
/-- the rows while they are written full: those ahead of i are, of i the first k elements -/
def wrg (f : Nat → List α) (i k : Nat) : Nat → List α := fun t => if t < i then List.replicate (f t).length (mk t) else if t = i then List.replicate k (mk i) ++ (f i).drop k else f t
theorem rep_setg (k : Nat) (u : α) (xs : List α) (h : k < xs.length) : (List.replicate k u ++ xs.drop k).set k u = List.replicate (k + 1) u ++ xs.drop (k + 1) := by
  rw [List.set_append_right _ _ (by simp), List.length_replicate, Nat.sub_self]
  rw [List.drop_eq_getElem_cons h, List.set_cons_zero, List.replicate_succ', List.append_assoc]
  rfl
theorem wrg_next (f : Nat → List α) (i k : Nat) (h : k < (f i).length) (t : Nat) : (if t = i then (wrg mk f i k i).set k (mk i) else wrg mk f i k t) = wrg mk f i (k + 1) t := by
  unfold wrg
  by_cases hti : t = i
  · subst hti
    simp only [if_true, Nat.lt_irrefl, if_false]
    exact rep_setg k (mk t) (f t) h
  · simp only [if_neg hti]
theorem wrg_done (f : Nat → List α) (i k : Nat) (h : k = (f i).length) (t : Nat) : wrg mk f i k t = wrg mk f (i + 1) 0 t := by
  subst h
  unfold wrg
  rcases Nat.lt_trichotomy t i with q | q | q
  · rw [if_pos q, if_pos (by omega)]
  · subst q
    rw [if_neg (by omega), if_pos rfl, if_pos (by omega), List.drop_length, List.append_nil]
  · rw [if_neg (by omega), if_neg (by omega), if_neg (by omega)]
    by_cases h1 : t = i + 1
    · rw [if_pos h1, h1]; simp
    · rw [if_neg h1]
theorem wrg_zero (f : Nat → List α) (t : Nat) : f t = wrg mk f 0 0 t := by
  unfold wrg
  rw [if_neg (by omega)]
  by_cases h : t = 0
  · rw [if_pos h, h]; simp
  · rw [if_neg h]
theorem wrg_len (f : Nat → List α) (i k t : Nat) (h : k ≤ (f i).length) : (wrg mk f i k t).length = (f t).length := by
  unfold wrg
  split
  · simp
  · split
    · rename_i e; subst e; simp; omega
    · rfl
/-- a row written full -/
def fug (f : Nat → List α) (t : Nat) : List α := List.replicate (f t).length (mk t)
theorem wrg_full (f : Nat → List α) (m t : Nat) (h : t < m) : wrg mk f m 0 t = fug mk f t := by unfold wrg fug; rw [if_pos h]
theorem fug_len (f : Nat → List α) (t : Nat) : (fug mk f t).length = (f t).length := by simp [fug]
theorem fug_at (f : Nat → List α) (t k : Nat) (h : k < (f t).length) : (fug mk f t)[k]? = some (mk t) := by simp [fug, h]
theorem long_at (f : Nat → List α) (t k : Nat) (h : k < (f t).length + 64) : (fug mk f t ++ List.replicate 64 (mk t))[k]? = some (mk t) := by
  unfold fug
  rw [List.replicate_append_replicate]
  simp [h]
theorem long_len (f : Nat → List α) (t : Nat) : (fug mk f t ++ List.replicate 64 (mk t)).length = (f t).length + 64 := by simp [fug]
end
/-- the rows: each its owner's, no two the same -/
structure RSR (E : TypeId) (sz : Nat) (w : World) (base : Nat) (vs : List Value) (f : Nat → List (List Value)) : Prop where
  row : ∀ i, i < vs.length → JR E sz w base (vs.getD i nil) (f i)
  apart : ∀ i j g, i < vs.length → j < vs.length → i ≠ j → (vs.getD i nil).ownBlock = some g → (vs.getD j nil).ownBlock ≠ some g
section
variable {E : TypeId} {sz : Nat}
theorem JR.rlow {w : World} {base : Nat} {v : Value} {xs : List (List Value)} (h : JR E sz w base v xs) {b' : Nat} (hb : b' ≤ base) : JR E sz w b' v xs := h.lower hb
theorem RSR.eq {w : World} {base : Nat} {vs : List Value} {f f' : Nat → List (List Value)} (h : RSR E sz w base vs f) (e : ∀ t, t < vs.length → f t = f' t) : RSR E sz w base vs f' := ⟨fun i hi => by rw [← e i hi]; exact h.row i hi, h.apart⟩
theorem RSR.keep {w w' : World} {base : Nat} {vs : List Value} {f : Nat → List (List Value)} (h : RSR E sz w base vs f) (hb : Below w.heap.size w w') : RSR E sz w' base vs f := ⟨fun i hi => (h.row i hi).keepAll hb, h.apart⟩
/-- a row of structs and a row of other things -/
theorem jr_ne_jv {w : World} {b1 b2 : Nat} {v1 v2 : Value} {x1 : List (List Value)} {E2 : TypeId} {x2 : List Value} (h1 : JR E sz w b1 v1 x1) (h2 : JV E2 w b2 v2 x2) (hE : E ≠ E2) {g : Nat} (hg : v1.ownBlock = some g) : v2.ownBlock ≠ some g := by
  intro hg2
  obtain ⟨_, _, ⟨rfl, _⟩ | ⟨g1, c1, cur1, rfl, _, hh1, _⟩⟩ := h1
  · cases hg
  · obtain ⟨_, _, ⟨rfl, _⟩ | ⟨g2, c2, cur2, rfl, _, hh2, _⟩⟩ := h2
    · cases hg2
    · have e1 : g1 = g := by simpa [Value.ownBlock] using hg
      have e2 : g2 = g := by simpa [Value.ownBlock] using hg2
      rw [e1] at hh1
      rw [e2, hh1] at hh2
      injection hh2 with hh2
      injection hh2 with _ h3 _
      exact hE h3
/-- one element of a row is written -/
theorem RSR.put {w : World} {base : Nat} {vs : List Value} {f : Nat → List (List Value)} (h : RSR E sz w base vs f) {i g n cap k : Nat} (hi : i < vs.length) (hk : k < (f i).length) (hv : vs.getD i nil = .slice (some ⟨g, 0, none⟩) n cap) {r : List Value} (hr : r.length = sz) (h1 : ∀ u ∈ r, u.oneCell' = true) :
    RSR E sz (w.setCells g (k * sz) r) base vs (fun t => if t = i then (f i).set k r else f t) ∧ Kept w (w.setCells g (k * sz) r) vs ∧ base ≤ g := by
  have hrow := h.row i hi
  rw [hv] at hrow
  have hn : n = (f i).length := by
    obtain ⟨a, c, e, _⟩ := hrow.shape
    injection e
  have hb : base ≤ g := hrow.blk_ge g rfl
  refine ⟨⟨fun t ht => ?_, h.apart⟩, ⟨by rw [setCells_size]; exact Nat.le_refl _, fun b _ hb => setCells_heap g b (fun e => ?_) r w _⟩, hb⟩
  · by_cases hti : t = i
    · subst hti
      simp only [if_true]
      rw [hv]
      exact jr_setCells hrow hn hk hr h1
    · simp only [if_neg hti]
      refine jr_same (h.row t ht) fun b hb => setCells_heap g b (fun e => ?_) r w _
      refine h.apart t i b ht hi hti hb ?_
      rw [hv, e]; rfl
  · refine hb i hi ?_
    rw [hv, e]; rfl
/-- all that is known while the rows are written full -/
structure In1R (E : TypeId) (sz : Nat) (mk : Nat → List Value) (w : World) (base : Nat) (vs : List Value) (f : Nat → List (List Value)) (wr : World) (i k : Nat) : Prop where
  rows : RSR E sz wr base vs (wrg mk f i k)
  below : Below base w wr
  kept : Kept w wr vs
variable {mk : Nat → List Value}
theorem In1R.start {w w0 : World} {base : Nat} {vs : List Value} {f : Nat → List (List Value)} (h : RSR E sz w0 base vs f) (hb : Below base w w0) (hk : Kept w w0 vs) : In1R E sz mk w base vs f w0 0 0 := ⟨h.eq fun t _ => wrg_zero mk f t, hb, hk⟩
theorem In1R.put {w : World} {base : Nat} {vs : List Value} {f : Nat → List (List Value)} {wr : World} {i k : Nat} (h : In1R E sz mk w base vs f wr i k) (hi : i < vs.length) (hk : k < (f i).length) {g n c : Nat} (hv : vs.getD i nil = .slice (some ⟨g, 0, none⟩) n c) (hr : (mk i).length = sz) (h1 : ∀ u ∈ mk i, u.oneCell' = true) : In1R E sz mk w base vs f (wr.setCells g (k * sz) (mk i)) i (k + 1) := by
  obtain ⟨h2, h3, h4⟩ := h.rows.put (k := k) hi (by rw [wrg_len mk f i k i (by omega)]; exact hk) hv hr h1
  exact ⟨h2.eq fun t _ => wrg_next mk f i k hk t, setCells_below h4 _ _ _ _ h.below, h.kept.trans h3⟩
theorem In1R.next {w : World} {base : Nat} {vs : List Value} {f : Nat → List (List Value)} {wr : World} {i k : Nat} (h : In1R E sz mk w base vs f wr i k) (hk : k = (f i).length) : In1R E sz mk w base vs f wr (i + 1) 0 := ⟨h.rows.eq fun t _ => wrg_done mk f i k hk t, h.below, h.kept⟩
/-- a list of another type stands while an element is written -/
theorem RSR.jv {w : World} {base b2 : Nat} {vs : List Value} {f : Nat → List (List Value)} (h : RSR E sz w base vs f) {E2 : TypeId} (hE : E ≠ E2) {v2 : Value} {xs : List Value} (h2 : JV E2 w b2 v2 xs) {i g n cap p : Nat} (hi : i < vs.length) (hv : vs.getD i nil = .slice (some ⟨g, 0, none⟩) n cap) (r : List Value) : JV E2 (w.setCells g p r) b2 v2 xs := by
  have hrow := h.row i hi
  rw [hv] at hrow
  refine h2.same fun b hb => setCells_heap g b (fun e => ?_) r w p
  exact jr_ne_jv hrow h2 hE (g := g) rfl (by rw [← e]; exact hb)
/-- all that is known while the rows are made longer -/
structure In2R (E : TypeId) (sz : Nat) (mk : Nat → List Value) (w : World) (base : Nat) (vs : List Value) (f : Nat → List (List Value)) (wr : World) (i : Nat) (gs : List Value) : Prop where
  rows : RSR E sz wr base vs (fug mk f)
  len : gs.length = i
  grow : ∀ t, t < i → JR E sz wr base (gs.getD t nil) (fug mk f t ++ List.replicate 64 (mk t))
  apart : ∀ t s b, t < i → i ≤ s → s < vs.length → (gs.getD t nil).ownBlock = some b → (vs.getD s nil).ownBlock ≠ some b
  below : Below base w wr
  kept : Kept w wr vs
theorem In1R.two {w : World} {base : Nat} {vs : List Value} {f : Nat → List (List Value)} {wr : World} (h : In1R E sz mk w base vs f wr vs.length 0) : In2R E sz mk w base vs f wr 0 [] :=
  ⟨h.rows.eq fun t ht => wrg_full mk f vs.length t ht, rfl, fun t ht => by omega, fun t s b ht => by omega, h.below, h.kept⟩
/-- a row was made longer, and what came of it was put into a list of another type: w' is the world behind -/
theorem In2R.step {w : World} {base : Nat} {vs : List Value} {f : Nat → List (List Value)} {W wk w' : World} {i : Nat} {gv : Value} {gs : List Value} (h : In2R E sz mk w base vs f W i gs) (hbase : base ≤ w.heap.size) (hi : i < vs.length)
    (hx : ExtR E sz W base (vs.getD i nil) (fug mk f i) (mk i) 64 gv wk) (hrest : ∀ {v : Value} {xs : List (List Value)}, JR E sz wk base v xs → JR E sz w' base v xs) (hbel : Below base wk w') (hk : ∀ b, b < w.heap.size → wk.heap.size ≤ w'.heap.size ∧ w'.heap[b]? = wk.heap[b]?) (hsz : wk.heap.size ≤ w'.heap.size) : In2R E sz mk w base vs f w' (i + 1) (gs ++ [gv]) := by
  have hri := h.rows.row i hi
  have k1 : ∀ {v : Value} {xs : List (List Value)}, JR E sz W base v xs → (∀ b, v.ownBlock = some b → (vs.getD i nil).ownBlock ≠ some b) → JR E sz wk base v xs := fun {v xs} hv hne => jr_same hv fun b hb => hx.block b (hv.blk_lt b hb) fun e => hne b hb e.symm
  have hrows : ∀ t, t < vs.length → JR E sz wk base (vs.getD t nil) (fug mk f t) := by
    intro t ht
    by_cases e : t = i
    · subst e; exact hx.old
    · exact k1 (h.rows.row t ht) fun b hb => h.rows.apart t i b ht hi e hb
  have hgrow : ∀ t, t < i + 1 → JR E sz wk base ((gs ++ [gv]).getD t nil) (fug mk f t ++ List.replicate 64 (mk t)) := by
    intro t ht
    rw [getD_snoc h.len]
    by_cases e : t = i
    · subst e; rw [if_pos rfl]; exact hx.row
    · rw [if_neg e]
      exact k1 (h.grow t (by omega)) fun b hb => h.apart t i b (by omega) (Nat.le_refl _) hi hb
  have h1 := h.kept.1
  have h2 := hx.size
  refine ⟨⟨fun t ht => hrest (hrows t ht), h.rows.apart⟩, by simp [h.len], fun t ht => hrest (hgrow t ht), ?_, ?_, ?_⟩
  · intro t s b ht hs hsl hb
    rw [getD_snoc h.len] at hb
    by_cases e : t = i
    · subst e
      rw [if_pos rfl] at hb
      rcases hx.way with ⟨g, cap, e1, e2⟩ | ⟨e1, _⟩ | ⟨g, e1, e2⟩
      · refine h.rows.apart t s b hi hsl (by omega) ?_
        rw [e2] at hb
        rw [e1]; exact hb
      · omega
      · intro q
        rw [e1] at hb
        injection hb with hb
        have := (h.rows.row s hsl).blk_lt b q
        omega
    · rw [if_neg e] at hb
      exact h.apart t s b (by omega) (by omega) hsl hb
  · have hb1 : Below base W wk := ⟨hx.os, hx.tape, hx.output, hx.size, fun b hb => hx.block b (by omega) (fun e => by have := hri.blk_ge b e.symm; omega)⟩
    exact (h.below.trans hb1).trans hbel
  · refine ⟨by omega, fun b hb hn => ?_⟩
    rw [(hk b hb).2, hx.block b (by omega) (fun e => hn i hi e.symm), h.kept.2 b hb hn]
/-- a list of another type stands while a row is made longer -/
theorem RSR.jvx {w : World} {base b2 : Nat} {vs : List Value} {f : Nat → List (List Value)} {i : Nat} {xs : List (List Value)} {r0 : List Value} {k : Nat} {gv : Value} {wk : World} (h : RSR E sz w base vs f) {E2 : TypeId} (hE : E ≠ E2) {v2 : Value} {ys : List Value} (h2 : JV E2 w b2 v2 ys) (hi : i < vs.length) (hx : ExtR E sz w base (vs.getD i nil) xs r0 k gv wk) : JV E2 wk b2 v2 ys :=
  h2.same fun b hb => hx.block b (h2.blk_lt b hb) fun e => jr_ne_jv (h.row i hi) h2 hE (g := b) e.symm hb
/-- rows of structs stand while a list of another type is made longer -/
theorem jr_after {base : Nat} {E2 : TypeId} (hE : E ≠ E2) {wk w' : World} {V2 V3 gv : Value} {gs : List Value} {o : Obj} (hlong : JV E2 wk base V2 gs) (hp : AppPost E2 (wk.alloc o) base V2 gs gv V3 w') {v : Value} {xs : List (List Value)} (hv : JR E sz wk base v xs) : JR E sz w' base v xs := by
  have hsz : (wk.alloc o).heap.size = wk.heap.size + 1 := by simp
  refine jr_same hv fun b hb => ?_
  have hlt := hv.blk_lt b hb
  rw [hp.grown.block b (by rw [hsz]; omega) (fun e => jr_ne_jv hv hlong hE hb e.symm)]
  exact ((Below.refl wk.heap.size wk).alloc (Nat.le_refl _) o).block b hlt
end
end Os
end Go.Proofs.Ytifjjoobbegpoaa
namespace Go.Proofs.Ytifjjoobbegpoaa
open Go Go.RowKit
def lastOk (ops : Array Oper) (L : Nat) : Bool := decide (L < ops.size) && (List.range ops.size).all fun j => decide (j = L) || anc ops ops.size L j
theorem last_spec {ops : Array Oper} {L : Nat} (h : lastOk ops L = true) : L < ops.size ∧ ∀ j, j < ops.size → j ≠ L → anc ops ops.size L j = true := by
  unfold lastOk at h
  simp only [Bool.and_eq_true, decide_eq_true_eq, List.all_eq_true, List.mem_range, Bool.or_eq_true] at h
  exact ⟨h.1, fun j hj hne => (h.2 j hj).elim (fun e => absurd e hne) id⟩
theorem region_end {P : Program} {id : Nat} {ops : Array Oper} {Q : Exit → Act → World → Prop} {a0 : Act} {w0 : World} (val : Nat → Value) (E : Nat)
    (hm : P.follows .mixedOrders = true) (hg : (ops.all fun o => o.guard.isNone) = true) (hdf : dstsGood ops a0.tmps.size = true) (hah : aftersAhead ops = true) (hE : lastOk ops E = true)
    (step : ∀ i o, i ≠ E → ops[i]? = some o → ∀ (a : Act),
      (∀ k, (∀ j, j < ops.size → dstOf ops j ≠ some k) → a.tmps.getD k undef = a0.tmps.getD k undef) →
      (∀ e ∈ o.after, Region.binds .any e = true → ∀ d, dstOf ops e.on = some d → a.tmps.getD d undef = val e.on) →
      o.wp P a w0.drew (fun a' w' => a' = a.put o.dst (val i) ∧ w' = w0.drew) Q)
    (last : ∀ o, ops[E]? = some o → ∀ a, a.defers = a0.defers → a.tmps.size = a0.tmps.size →
      (∀ k, (∀ j, j < ops.size → dstOf ops j ≠ some k) → a.tmps.getD k undef = a0.tmps.getD k undef) →
      (∀ i d, i < ops.size → i ≠ E → dstOf ops i = some d → a.tmps.getD d undef = val i) →
      (∀ d, dstOf ops E = some d → a.tmps.getD d undef = a0.tmps.getD d undef) → o.wp P a w0.drew (fun a' w' => Q .normal a' w') Q) :
    (Code.region id ops true).wp P Q a0 w0 := by
  obtain ⟨hElt, hEanc⟩ := last_spec hE
  refine wp_region_any hm ?_
  refine wpAny_inv (fun L a w => L.size = ops.size ∧ ((L.getD E false = false ∧ ClosedL ops L ∧ w = w0.drew ∧ a.defers = a0.defers ∧ a.tmps.size = a0.tmps.size ∧
      (∀ k, (∀ j, j < ops.size → dstOf ops j ≠ some k) → a.tmps.getD k undef = a0.tmps.getD k undef) ∧
      (∀ i d, i < ops.size → L.getD i false = true → dstOf ops i = some d → a.tmps.getD d undef = val i) ∧
      (∀ d, dstOf ops E = some d → a.tmps.getD d undef = a0.tmps.getD d undef)) ∨ ((∀ j, j < ops.size → L.getD j false = true) ∧ Q .normal a w))) (fun L a w h => h.1) ?_ ?_ _ _ _ _ ?_ ?_
  · rintro L a w i ⟨h1, ⟨hE0, hcl, rfl, h3, h4, h5, h6, h7⟩ | ⟨hall, _⟩⟩ hi
    · obtain ⟨o, ho, hlt', hL, haf⟩ := ready_spec hi
      have hLf : L.getD i false = false := by
        rw [Array.getD_eq_getD_getElem?, Array.getElem?_eq_getElem (by omega)] at hL ⊢
        simpa using hL
      have hon : ∀ e ∈ o.after, Region.binds .any e = true → e.on < ops.size := fun e he hb => by
        have := haf e he hb
        rcases Nat.lt_or_ge e.on ops.size with h' | h'
        · exact h'
        · rw [Array.getD_eq_getD_getElem?, Array.getElem?_eq_none (by omega)] at this; simp at this
      have hgo : o.guard = none := by
        rw [Array.all_eq_true] at hg
        have := hg i hlt'
        have ho' : ops[i] = o := by rw [Array.getElem?_eq_getElem hlt'] at ho; injection ho
        rw [ho'] at this
        simpa using this
      unfold wpOp
      rw [ho]
      simp only [wanted_none hgo, if_true]
      by_cases hiE : i = E
      · subst hiE
        have hlist : ∀ j, j < ops.size → j ≠ i → L.getD j false = true := fun j hj hne => anc_ready hcl ho haf _ _ (hEanc j hj hne)
        refine .inl (Oper.wp_mono ?_ (last o ho a h3 h4 h5 (fun k d hk hne hd => h6 k d hk (hlist k hk hne) hd) h7))
        intro a' w' hq
        refine ⟨by rw [Array.size_setIfInBounds]; exact h1, .inr ⟨fun j hj => ?_, hq⟩⟩
        rw [set_getD' _ _ _ (by omega)]
        by_cases e : j = i
        · rw [if_pos e]
        · rw [if_neg e]; exact hlist j hj e
      · refine .inl (Oper.wp_mono ?_ (step i o hiE ho a h5 (fun e he hb d hd => h6 e.on d (hon e he hb) (haf e he hb) hd)))
        rintro a' w' ⟨rfl, rfl⟩
        refine ⟨by rw [Array.size_setIfInBounds]; exact h1, .inl ⟨?_, ?_, rfl, ?_, ?_, ?_, ?_, ?_⟩⟩
        · rw [set_getD' _ _ _ (by omega), if_neg (fun e => hiE e.symm)]; exact hE0
        · intro j p hp hj e he hb
          rw [set_getD' _ _ _ (by omega)] at hj ⊢
          by_cases hji : j = i
          · subst hji
            rw [ho] at hp
            injection hp with hp
            subst hp
            rw [haf e he hb]; simp
          · rw [if_neg hji] at hj
            rw [hcl j p hp hj e he hb]; simp
        · cases o.dst <;> exact h3
        · cases hod : o.dst with
          | none => exact h4
          | some d => simp only [Act.put, Array.size_setIfInBounds]; exact h4
        · intro k hk
          cases hod : o.dst with
          | none => exact h5 k hk
          | some d =>
            have hdi : dstOf ops i = some d := by simp [dstOf, ho, hod]
            rw [getD_put _ _ _ _ (by have := (good_spec hdf hlt' hdi).1; omega), if_neg (fun e => hk i hlt' (by rw [e]; exact hdi))]
            exact h5 k hk
        · intro j d hj hLj hdj
          rw [set_getD' _ _ _ (by omega)] at hLj
          cases hod : o.dst with
          | none =>
            by_cases hji : j = i
            · subst hji
              have : dstOf ops j = none := by simp [dstOf, ho, hod]
              rw [this] at hdj
              cases hdj
            · rw [if_neg hji] at hLj
              exact h6 j d hj hLj hdj
          | some d' =>
            have hdi : dstOf ops i = some d' := by simp [dstOf, ho, hod]
            have hf := good_spec hdf hlt' hdi
            rw [getD_put _ _ _ _ (by omega)]
            by_cases hji : j = i
            · subst hji
              rw [hdi] at hdj
              injection hdj with hdj
              rw [if_pos hdj.symm]
            · rw [if_neg hji] at hLj
              rw [if_neg (fun e => hf.2 j hj hji (by rw [← e]; exact hdj))]
              exact h6 j d hj hLj hdj
        · intro d hdj
          cases hod : o.dst with
          | none => exact h7 d hdj
          | some d' =>
            have hdi : dstOf ops i = some d' := by simp [dstOf, ho, hod]
            have hf := good_spec hdf hlt' hdi
            rw [getD_put _ _ _ _ (by omega), if_neg (fun e => hf.2 E hElt (fun q => hiE q.symm) (by rw [← e]; exact hdj))]
            exact h7 d hdj
    · exfalso
      obtain ⟨o, ho, hlt', hL, haf⟩ := ready_spec hi
      have := hall i hlt'
      rw [Array.getD_eq_getD_getElem?, Array.getElem?_eq_getElem (by omega)] at hL this
      simp at hL this
      rw [hL] at this
      cases this
  · rintro L a w ⟨h1, ⟨hE0, _⟩ | ⟨_, hq⟩⟩ hr
    · have hall := all_listed hah h1 hr
      rw [hall E hElt] at hE0
      cases hE0
    · exact hq
  · refine ⟨by simp, .inl ⟨?_, ?_, rfl, rfl, rfl, fun _ _ => rfl, fun i d hi h => ?_, fun _ _ => rfl⟩⟩
    · rw [Array.getD_eq_getD_getElem?, Array.getElem?_replicate]
      split <;> simp
    · intro j p hp hj
      rw [Array.getD_eq_getD_getElem?, Array.getElem?_replicate] at hj
      split at hj <;> simp at hj
    · rw [Array.getD_eq_getD_getElem?, Array.getElem?_replicate] at h
      simp [hi] at h
  · unfold left
    exact Nat.le_trans (List.countP_le_length) (by simp)
end Go.Proofs.Ytifjjoobbegpoaa
namespace Go.Proofs.Ytifjjoobbegpoaa
open Go.ChangeShapes Go.WideShapes Go.ChangeAt Go.RowKit Go.Deep
namespace Vt
theorem list_three {α : Type} {l : List α} (h : l.length = 3) : ∃ a b c, l = [a, b, c] := by
  match l, h with
  | [a, b, c], _ => exact ⟨a, b, c, rfl⟩
theorem cells_prt : Try.prog.cellTypes Try.prog.depth 37 = some [3, 3, 35] := by kernel_rfl
theorem size_prt : Try.prog.cellsOf 37 = 3 := by kernel_rfl
set_option maxRecDepth 100000 in
/-- a fingerprint that comes in -/
theorem print_arg {w : World} {r : Reach} {base : Nat} {v : Value} (h : Value.okWide Try.prog w r base 37 v) : ∃ (n k : Int) (s : Nat), v = .agg (prl n k s) ∧ s < 4294967296 := by
  obtain ⟨cs, rfl, hsz, ts, hts, _, hcell⟩ := okW_struct Try.underlying37 h
  rw [size_prt] at hsz
  rw [cells_prt] at hts
  injection hts with hts
  subst hts
  obtain ⟨l⟩ := cs
  obtain ⟨v0, v1, v2, rfl⟩ := list_three (l := l) (by simpa using hsz)
  have key : ∀ i v u, (#[v0, v1, v2] : Array Value)[i]? = some v → [3, 3, 35][i % 3]? = some u → Cell.okWide Try.prog w r base u v := by
    intro i v u hv hu
    obtain ⟨u', hu', hc⟩ := hcell i v hv
    have e : some u' = some u := hu'.symm.trans hu
    injection e with e
    subst e
    exact hc
  obtain ⟨n1, rfl, _⟩ := cell_int Try.underlying3 (key 0 _ _ rfl rfl)
  obtain ⟨n2, rfl, _⟩ := cell_int Try.underlying3 (key 1 _ _ rfl rfl)
  obtain ⟨n3, rfl, b3⟩ := cell_int Try.underlying35 (key 2 _ _ rfl rfl)
  have u1 : 0 ≤ n3 ∧ n3 < 4294967296 := has_u32 b3
  obtain ⟨m1, rfl⟩ : ∃ m : Nat, n3 = (m : Int) := ⟨n3.toNat, by omega⟩
  exact ⟨n1, n2, m1, rfl, by omega⟩
end Vt
end Go.Proofs.Ytifjjoobbegpoaa
