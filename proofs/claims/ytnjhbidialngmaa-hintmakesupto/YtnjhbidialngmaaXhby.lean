/-
  OWN ROWS OF STRUCTS THAT THEIR OWNER MAKES LONGER: an append of one element that tells besides what becomes of the elder list ('AppPostR'); the relation of a loop of such appends ('ExtR'): Ow0's laws for elements of several cells.
  OWN ROWS OF STRUCTS THAT THEIR OWNER WRITES FULL: one element stored (run_storeAt_mid: 'setCells') leaves the row with that element in its place.
-/
import Derived.Test.YtnjhbidialngmaaXhbg
import Derived.ArgAppend
import Derived.Deep.MidRow
namespace Go.Proofs.Ytnjhbidialngmaa
open Go.RowKit
namespace Os
open Vt
section
variable {E : TypeId} {sz : Nat}
/-- a shorter slice of the same row -/
theorem jr_pre {w : World} {base g n cap : Nat} {xs ys : List (List Value)} (h : JR E sz w base (.slice (some ⟨g, 0, none⟩) n cap) (xs ++ ys)) : JR E sz w base (.slice (some ⟨g, 0, none⟩) xs.length cap) xs := by
  obtain ⟨h1, h0, ⟨e, _⟩ | ⟨g', cap', cur, e, hbs, hh, hl, hm, hc, ht⟩⟩ := h
  · cases e
  · injection e with e1 e2 e3
    injection e1 with e1
    injection e1 with e4 _
    subst e4 e3
    rw [List.length_append] at hl
    have hx : ∀ r ∈ xs, r.length = sz := fun r hr => (h1 r (List.mem_append_left _ hr)).1
    refine ⟨fun r hr => h1 r (List.mem_append_left _ hr), by rw [flat_len hx], .inr ⟨g, cap, cur, rfl, hbs, hh, by omega, hm, hc, ?_⟩⟩
    have := congrArg (List.take (xs.length * sz)) ht
    rw [List.flatten_append, List.take_left' (flat_len hx), List.take_take, List.length_append, Nat.add_mul, Nat.min_eq_left (by omega)] at this
    exact this
theorem jr_same {w w' : World} {base : Nat} {v : Value} {xs : List (List Value)} (h : JR E sz w base v xs) (hb : ∀ g, v.ownBlock = some g → w'.heap[g]? = w.heap[g]?) : JR E sz w' base v xs := by
  obtain ⟨h1, h0, ⟨rfl, e⟩ | ⟨g', cap', cur, rfl, hbs, hh, hr⟩⟩ := h
  · exact ⟨h1, h0, .inl ⟨rfl, e⟩⟩
  · exact ⟨h1, h0, .inr ⟨g', cap', cur, rfl, hbs, (hb g' rfl).trans hh, hr⟩⟩
/-- what an append of one element leaves -/
structure AppPostR (E : TypeId) (sz : Nat) (w : World) (base : Nat) (v : Value) (xs : List (List Value)) (r0 : List Value) (v' : Value) (w' : World) : Prop where
  row : JR E sz w' base v' (xs ++ [r0])
  old : JR E sz w' base v xs
  grown : w.grownBy w' v.ownBlock
  way : (∃ g cap, v = .slice (some ⟨g, 0, none⟩) xs.length cap ∧ v' = .slice (some ⟨g, 0, none⟩) (xs.length + 1) cap) ∨ ((∃ h, v'.ownBlock = some h ∧ w.heap.size ≤ h) ∧ w.grownBy w' none)
variable {S : TypeId} {z : Value} {by_ : Nat}
theorem run_append_keepR (hS : Try.prog.underlying S = some (.slice E)) (hE : (Try.prog.info? E).map (fun i => (i.zero, i.size, i.bytes)) = some (some z, sz, by_)) (hz : z.cells.size = sz) (hsz : 0 < sz) (ty : TypeId) (w : World) (base : Nat) (v : Value) (xs : List (List Value)) (hJ : JR E sz w base v xs) (ad : Addr) (c : Nat) (r0 : List Value) (hr0 : r0.length = sz) (hu : ∀ j u, r0[j]? = some u → w.cell? (ad.add j) = some u) (h1 : ∀ u ∈ r0, u.oneCell' = true) (hb : (xs.length + 1) * by_ ≤ 140737488355328) (hb2 : xs.length + 1 ≤ maxLen) (hbase : base ≤ w.heap.size) :
    ∃ a' cap w', (Builtin.append_ #[S, S] ty #[v, .slice (some ad) 1 c]).run Try.prog w = .ok (.slice a' (xs.length + 1) cap) w' ∧ AppPostR E sz w base v xs r0 (.slice a' (xs.length + 1) cap) w' := by
  obtain ⟨i0, hi, hz0, hz1, hz2⟩ := info_parts hE
  have hall : ∀ r ∈ xs ++ [r0], r.length = sz ∧ ∀ u ∈ r, u.oneCell' = true := by
    intro r hr
    rcases List.mem_append.1 hr with hr | hr
    · exact hJ.1 r hr
    · simp at hr; rw [hr]; exact ⟨hr0, h1⟩
  have hlen : (xs ++ [r0]).length = xs.length + 1 := by simp
  have hfl : (xs ++ [r0]).flatten = xs.flatten ++ r0 := by simp
  have hn1 : r0.length = 1 * sz := by rw [hr0, Nat.one_mul]
  obtain ⟨hx1, h0, ⟨rfl, e⟩ | ⟨g, cap, cur, rfl, hbs, hh, hl, hm, hc, ht⟩⟩ := hJ
  · obtain rfl : xs = [] := List.length_eq_zero_iff.1 e
    obtain ⟨g, cap, w', hr, h2, h3, h4, _⟩ := run_append_lies (P := Try.prog) w S ty base E i0 z sz by_ hS hi hz0 hz1 hz2 hz hsz (.slice none 0 0) 0 [] ⟨by simp, .inl ⟨rfl, rfl⟩⟩ ad 1 c r0 hn1 hu h1 (by omega) (by simpa using hb2) (by simpa using hb) hbase w.heap.size rfl
    refine ⟨_, cap, w', hr, ⟨⟨hall, by rw [hlen, hfl]; exact h2⟩, ⟨by simp, by simp, .inl ⟨rfl, rfl⟩⟩, h3, .inr ⟨⟨g, rfl, ?_⟩, h3⟩⟩⟩
    rcases h4 with h4 | h4
    · cases h4
    · omega
  · by_cases hroom : xs.length + 1 ≤ cap
    · have hown : w.ownsRow base E sz (.slice (some ⟨g, 0, none⟩) xs.length cap) xs.length xs.flatten := ⟨h0, .inr ⟨g, cap, cur, rfl, hbs, hh, hl, hm, hc, ht⟩⟩
      obtain ⟨w', hr, h2, h3⟩ := run_append_fits (P := Try.prog) w base S ty E i0 sz hS hi hz1 g xs.length cap xs.flatten hown ad 1 c r0 hn1 hu h1 hroom
      have hJ' : JR E sz w' base (.slice (some ⟨g, 0, none⟩) (xs.length + 1) cap) (xs ++ [r0]) := ⟨hall, by rw [hlen, hfl]; exact h2⟩
      exact ⟨_, cap, w', hr, ⟨hJ', jr_pre hJ', h3, .inl ⟨g, cap, rfl, rfl⟩⟩⟩
    · have hJ0 : JR E sz w base (.slice (some ⟨g, 0, none⟩) xs.length cap) xs := ⟨hx1, h0, .inr ⟨g, cap, cur, rfl, hbs, hh, hl, hm, hc, ht⟩⟩
      have hx : ∀ r ∈ xs, r.length = sz := fun r hr => (hx1 r hr).1
      obtain ⟨v', w', hr, h2, h3⟩ := run_append_arg_grows (P := Try.prog) w S ty E i0 z sz by_ hS hi hz0 hz1 hz2 hz hsz ⟨g, 0, none⟩ xs.length cap xs.flatten (flat_len hx) (fun j u hj => by
        rw [add_at, Nat.zero_add]
        have hjl : j < xs.length * sz := by rw [← flat_len hx]; exact (List.getElem?_eq_some_iff.1 hj).1
        have hq : j / sz < xs.length := Nat.div_lt_of_lt_mul (by rw [Nat.mul_comm]; exact hjl)
        have hm0 := Nat.mod_lt j hsz
        have hdm : j / sz * sz + j % sz = j := by rw [Nat.mul_comm]; exact Nat.div_add_mod j sz
        have hk : xs[j / sz]? = some xs[j / sz] := List.getElem?_eq_getElem hq
        have hf := flat_at hx (j / sz) _ (j % sz) hk hm0
        rw [hdm, hj] at hf
        have := hJ0.at (j / sz) _ (j % sz) u hk hf.symm
        rwa [hdm] at this) ad 1 c r0 hn1 hu (by omega) hb2 hb
      obtain ⟨g2, cap2, rfl, hg2, hlt2⟩ := h2.form (by omega)
      have hJ2 : JR E sz w' w.heap.size (.slice (some ⟨g2, 0, none⟩) (xs.length + 1) cap2) (xs ++ [r0]) := ⟨hall, by rw [hlen, hfl]; exact h2⟩
      refine ⟨_, cap2, w', hr, ⟨hJ2.lower hbase, hJ0.grownO h3 (fun g e => by simp), ⟨h3.os, h3.tape, h3.output, h3.size, fun k hk _ => h3.block k hk (by simp)⟩, .inr ⟨⟨g2, rfl, hJ2.blk_ge g2 rfl⟩, h3⟩⟩⟩
theorem wpList_append_keepR (hS : Try.prog.underlying S = some (.slice E)) (hE : (Try.prog.info? E).map (fun i => (i.zero, i.size, i.bytes)) = some (some z, sz, by_)) (hz : z.cells.size = sz) (hsz : 0 < sz) (w : World) {ops : Array Oper} {rest : List Oper} {o : Oper} {a : Act} {Q : Exit → Act → World → Prop} (hgd : o.guard = none) (s x : Operand)
    (ho : o.op = .call { callee := .builtin .append, args := #[s, x], argTypes := #[S, S] })
    (base : Nat) (v : Value) (xs : List (List Value)) (ad : Addr) (c : Nat) (r0 : List Value) (hs : a.eval s = v) (hx : a.eval x = .slice (some ad) 1 c) (hJ : JR E sz w base v xs) (hr0 : r0.length = sz) (hu : ∀ j u, r0[j]? = some u → w.cell? (ad.add j) = some u) (h1 : ∀ u ∈ r0, u.oneCell' = true) (n : Nat) (hn : xs.length + 1 = n) (hb : n * by_ ≤ 140737488355328) (hb2 : n ≤ maxLen) (hbase : base ≤ w.heap.size)
    (h : ∀ a' cap w', AppPostR E sz w base v xs r0 (.slice a' n cap) w' → wpList Try.prog ops Q rest (a.put o.dst (.slice a' n cap)) w') : wpList Try.prog ops Q (o :: rest) a w := by
  subst hn
  refine wpList_plain hgd fun K hK => ?_
  obtain ⟨a', cap, w', hr, hp⟩ := run_append_keepR hS hE hz hsz o.type w base v xs hJ ad c r0 hr0 hu h1 hb hb2 hbase
  unfold Oper.wp execOp
  simp only [ho, resolve, invoke, builtin, Sem.run_bind, Sem.run_pure, Result.andThen_ok, List.map_toArray, List.map_cons, List.map_nil, hs, hx, hr]
  exact hK _ _ (h a' cap w' hp)
/-- a loop of such appends, begun with v0 in the world W: k elements more -/
structure ExtR (E : TypeId) (sz : Nat) (W : World) (base : Nat) (v0 : Value) (xs : List (List Value)) (r0 : List Value) (k : Nat) (v : Value) (w : World) : Prop where
  row : JR E sz w base v (xs ++ List.replicate k r0)
  old : JR E sz w base v0 xs
  os : w.os = W.os
  tape : w.tape = W.tape
  output : w.output = W.output
  size : W.heap.size ≤ w.heap.size
  block : ∀ b, b < W.heap.size → some b ≠ v0.ownBlock → w.heap[b]? = W.heap[b]?
  way : (∃ g cap, v0 = .slice (some ⟨g, 0, none⟩) xs.length cap ∧ v = .slice (some ⟨g, 0, none⟩) (xs.length + k) cap) ∨ (k = 0 ∧ v = v0) ∨ ∃ h, v.ownBlock = some h ∧ W.heap.size ≤ h
theorem ExtR.start {W : World} {base : Nat} {v0 : Value} {xs : List (List Value)} (h : JR E sz W base v0 xs) (r0 : List Value) : ExtR E sz W base v0 xs r0 0 v0 W :=
  ⟨by simpa using h, h, rfl, rfl, rfl, Nat.le_refl _, fun _ _ _ => rfl, .inr (.inl ⟨rfl, rfl⟩)⟩
theorem ExtR.step {W w w' : World} {base : Nat} {v0 v v' : Value} {xs : List (List Value)} {r0 : List Value} {k : Nat} {o : Obj} (hx : JR E sz W base v0 xs) (h : ExtR E sz W base v0 xs r0 k v w) (hp : AppPostR E sz (w.alloc o) base v (xs ++ List.replicate k r0) r0 v' w') : ExtR E sz W base v0 xs r0 (k + 1) v' w' := by
  have hrow : JR E sz w' base v' (xs ++ List.replicate (k + 1) r0) := by
    rw [List.replicate_succ', ← List.append_assoc]; exact hp.row
  have hsz : (w.alloc o).heap.size = w.heap.size + 1 := by simp
  have hal : ∀ b, b < w.heap.size → (w.alloc o).heap[b]? = w.heap[b]? := fun b hb => ((Below.refl w.heap.size w).alloc (Nat.le_refl _) o).block b hb
  have hv0 : ∀ g, v0.ownBlock = some g → g < W.heap.size := fun g e => hx.blk_lt g e
  have hold : JR E sz (w.alloc o) base v0 xs := jr_same h.old fun g e => hal g (h.old.blk_lt g e)
  have hvb : ∀ b, b < W.heap.size → some b ≠ v0.ownBlock → some b ≠ v.ownBlock := by
    intro b hb hne
    rcases h.way with ⟨g, cap, e1, e2⟩ | ⟨_, e⟩ | ⟨g, e, hg⟩
    · rw [e1] at hne; rw [e2]; exact hne
    · rw [e]; exact hne
    · rw [e]; intro q; injection q with q; omega
  have hblk : ∀ b, b < W.heap.size → some b ≠ v0.ownBlock → w'.heap[b]? = W.heap[b]? := by
    intro b hb hne
    have h1 := hp.grown.block b (by rw [hsz]; have := h.size; omega) (hvb b hb hne)
    rw [h1, hal b (by have := h.size; omega), h.block b hb hne]
  refine ⟨hrow, ?_, hp.grown.os.trans h.os, hp.grown.tape.trans h.tape, hp.grown.output.trans h.output, by have := hp.grown.size; have := h.size; omega, hblk, ?_⟩
  · rcases h.way with ⟨g, cap, e1, e2⟩ | ⟨hk, e⟩ | ⟨g, e, hg⟩
    · rw [e1]
      have := hp.old
      rw [e2] at this
      exact jr_pre this
    · subst hk
      have := hp.old
      rw [e] at this
      simpa using this
    · refine hold.grownO hp.grown fun g' e' q => ?_
      rw [e] at q
      injection q with q
      have := hv0 g' e'
      omega
  · rcases hp.way with ⟨g, cap, e1, e2⟩ | ⟨⟨g, e, hg⟩, _⟩
    · have hl : (xs ++ List.replicate k r0).length = xs.length + k := by simp
      rw [hl] at e1 e2
      rcases h.way with ⟨g2, cap2, f1, f2⟩ | ⟨hk, f⟩ | ⟨g2, f, hg2⟩
      · left
        rw [e1] at f2
        injection f2 with f3 f4 f5
        exact ⟨g, cap, by rw [f1, ← f3, f5], e2⟩
      · subst hk
        left
        exact ⟨g, cap, by rw [← f, e1]; simp, e2⟩
      · right; right
        rw [e1] at f
        exact ⟨g2, by rw [e2]; exact f, hg2⟩
    · right; right
      exact ⟨g, e, by rw [hsz] at hg; have := h.size; omega⟩
end
end Os
end Go.Proofs.Ytnjhbidialngmaa
namespace Go.Proofs.Ytnjhbidialngmaa
open Go.RowKit
namespace Os
open Vt
theorem row_setR {w : World} {base g p : Nat} {E : TypeId} {sz n cap : Nat} {xs : List Value} (h : w.ownsRow base E sz (.slice (some ⟨g, 0, none⟩) n cap) n xs) {u : Value} : (w.setCell ⟨g, p, none⟩ u).ownsRow base E sz (.slice (some ⟨g, 0, none⟩) n cap) n (xs.set p u) := by
  obtain ⟨h0, ⟨h, _⟩ | ⟨g', cap', cur, h, hb, hh, hl, hm, hc, ht⟩⟩ := h
  · cases h
  · injection h with h1 h2 h3
    injection h1 with h1
    injection h1 with h1
    subst h1 h3
    refine ⟨by rw [List.length_set]; exact h0, .inr ⟨g, cap, cur.setIfInBounds p u, rfl, hb, ?_, hl, hm, by rw [Array.size_setIfInBounds]; exact hc, ?_⟩⟩
    · have hlt := (Array.getElem?_eq_some_iff.1 hh).1
      have h' : w.heap[g] = .cells cur E (0, 0) := by simpa [Array.getElem?_eq_getElem hlt] using hh
      show (w.heap.modify g _)[g]? = _
      rw [Array.getElem?_eq_getElem (by simpa using hlt), Array.getElem_modify_self, h']
      rfl
    · rw [Array.toList_setIfInBounds, List.take_set, ht]
/-- what was put there from p on -/
def putFrom : List Value → Nat → List Value → List Value
  | l, _, [] => l
  | l, p, u :: q => putFrom (l.set p u) (p + 1) q
theorem putFrom_eq (r : List Value) : ∀ (l : List Value) (p : Nat), p + r.length ≤ l.length → putFrom l p r = l.take p ++ r ++ l.drop (p + r.length) := by
  induction r with
  | nil => intro l p _; simp [putFrom]
  | cons u q ih =>
    intro l p h
    rw [List.length_cons] at h
    rw [putFrom, ih (l.set p u) (p + 1) (by rw [List.length_set]; omega)]
    have e1 : (l.set p u).take (p + 1) = l.take p ++ [u] := by
      rw [List.take_succ_eq_append_getElem (by rw [List.length_set]; omega), List.getElem_set_self, List.take_set_of_le (Nat.le_refl _)]
    have e2 : (l.set p u).drop (p + 1 + q.length) = l.drop (p + 1 + q.length) := List.drop_set_of_lt (by omega)
    rw [e1, e2, List.length_cons, show p + (q.length + 1) = p + 1 + q.length by omega]
    simp
theorem rows_set {base g n cap sz : Nat} {E : TypeId} (r : List Value) : ∀ (w : World) (p : Nat) (xs : List Value), w.ownsRow base E sz (.slice (some ⟨g, 0, none⟩) n cap) n xs → (w.setCells g p r).ownsRow base E sz (.slice (some ⟨g, 0, none⟩) n cap) n (putFrom xs p r) := by
  induction r with
  | nil => intro w p xs h; exact h
  | cons u q ih => intro w p xs h; exact ih _ (p + 1) _ (row_setR h)
theorem flat_set {sz : Nat} {r : List Value} : ∀ (xs : List (List Value)) (k : Nat), (∀ x ∈ xs, x.length = sz) → k < xs.length → (xs.set k r).flatten = xs.flatten.take (k * sz) ++ r ++ xs.flatten.drop (k * sz + sz) := by
  intro xs
  induction xs with
  | nil => intro k _ hk; simp at hk
  | cons a q ih =>
    intro k hx hk
    have ha := hx a List.mem_cons_self
    have hq := fun x hx' => hx x (List.mem_cons_of_mem _ hx')
    cases k with
    | zero =>
      rw [List.set_cons_zero, List.flatten_cons, List.flatten_cons, Nat.zero_mul, Nat.zero_add, List.take_zero, List.nil_append, List.drop_left' ha]
    | succ k =>
      rw [List.set_cons_succ, List.flatten_cons, List.flatten_cons, ih k hq (by simpa using hk), Nat.succ_mul]
      rw [show k * sz + sz = a.length + k * sz by omega, List.take_append, List.take_of_length_le (by omega : a.length ≤ a.length + k * sz), Nat.add_sub_cancel_left]
      rw [show a.length + k * sz + sz = a.length + (k * sz + sz) by omega, List.drop_append, List.drop_of_length_le (by omega : a.length ≤ a.length + (k * sz + sz)), Nat.add_sub_cancel_left]
      simp only [List.append_assoc, List.nil_append]
      rw [show a.length + k * sz = k * sz + sz by omega]
section
variable {E : TypeId} {sz : Nat}
theorem jr_setCells {w : World} {base g n cap k : Nat} {xs : List (List Value)} (h : JR E sz w base (.slice (some ⟨g, 0, none⟩) n cap) xs) (hn : n = xs.length) (hk : k < xs.length) {r : List Value} (hr : r.length = sz) (h1 : ∀ u ∈ r, u.oneCell' = true) : JR E sz (w.setCells g (k * sz) r) base (.slice (some ⟨g, 0, none⟩) n cap) (xs.set k r) := by
  have hx : ∀ x ∈ xs, x.length = sz := fun x hx => (h.1 x hx).1
  have hkl : k * sz + r.length ≤ xs.flatten.length := by
    rw [flat_len hx, hr, ← Nat.succ_mul]
    exact Nat.mul_le_mul_right sz hk
  refine ⟨fun x hx' => ?_, ?_⟩
  · rcases List.mem_or_eq_of_mem_set hx' with hx' | hx'
    · exact h.1 x hx'
    · rw [hx']; exact ⟨hr, h1⟩
  · have h2 := h.2
    rw [← hn] at h2
    have h3 := rows_set r w (k * sz) _ h2
    rw [putFrom_eq r _ _ hkl, hr, ← flat_set xs k hx hk] at h3
    rw [List.length_set, ← hn]
    exact h3
theorem jr_thereR {w : World} {base g k n cap : Nat} {xs : List (List Value)} (h : JR E sz w base (.slice (some ⟨g, 0, none⟩) n cap) xs) (hk : k < xs.length) : w.there g (k * sz) sz := by
  intro j hj
  have hr : xs[k]? = some xs[k] := List.getElem?_eq_getElem hk
  have hl : xs[k].length = sz := (h.1 _ (List.getElem_mem hk)).1
  have hu : xs[k][j]? = some xs[k][j] := List.getElem?_eq_getElem (by omega)
  refine ⟨by rw [h.at k _ j _ hr hu]; rfl, ?_⟩
  obtain ⟨_, _, ⟨q, _⟩ | ⟨g', cap', cur, q, _, hh, _⟩⟩ := h
  · cases q
  · injection q with q _ _
    injection q with q
    injection q with q
    subst q
    simp [World.frozen?, hh]
end
theorem setCells_size (g : Nat) (r : List Value) : ∀ (w : World) (p : Nat), (w.setCells g p r).heap.size = w.heap.size := by
  induction r with
  | nil => intro w p; rfl
  | cons u q ih => intro w p; show ((w.setCell ⟨g, p, none⟩ u).setCells g (p + 1) q).heap.size = _; rw [ih]; simp [World.setCell]
end Os
end Go.Proofs.Ytnjhbidialngmaa
