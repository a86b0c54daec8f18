/-
  ROWS OF STRUCTS OF THE CALL'S OWN ('JR': elements of sz cells each): 'append' of one more as a law for the walk, within a fence and without; what is read at a place.
  THE WALKS OF slices.Grow (of nil) and slices.Concat of lists of bytes: one row of the call's own, all lists one behind the other.
-/
import Derived.Test.YtkcbehdfiaobcaaMag
import Derived.Test.YtkcbehdfiaobcaaMaf
import Derived.Lib.AppendZeros
namespace Go.Proofs.Ytkcbehdfiaobcaa
open Go.RowKit Go.Shelf
namespace Vt
/-- a row of the call's own, of elements of sz cells each: nil where there is none -/
def JR (E : TypeId) (sz : Nat) (w : World) (base : Nat) (v : Value) (ls : List (List Value)) : Prop := (∀ r ∈ ls, r.length = sz ∧ ∀ u ∈ r, u.oneCell' = true) ∧ w.ownsRow base E sz v ls.length ls.flatten
section
variable {E : TypeId} {sz : Nat}
theorem jr_nil (w : World) (base : Nat) : JR E sz w base (.slice none 0 0) [] := ⟨by simp, by simp, .inl ⟨rfl, rfl⟩⟩
theorem JR.shape {w : World} {base : Nat} {v : Value} {l : List (List Value)} (h : JR E sz w base v l) : ∃ a c, v = .slice a l.length c ∧ l.length ≤ c := by
  rcases h.2.2 with ⟨rfl, e⟩ | ⟨g, cap, cur, rfl, _, _, hl, _⟩
  · exact ⟨none, 0, by rw [e], by omega⟩
  · exact ⟨_, cap, rfl, hl⟩
theorem JR.blk_lt {w : World} {base : Nat} {v : Value} {l : List (List Value)} (h : JR E sz w base v l) : ∀ g, v.ownBlock = some g → g < w.heap.size := by
  intro g hg
  obtain ⟨_, _, ⟨rfl, e⟩ | ⟨g', cap', cur, rfl, hbs, hh, hr⟩⟩ := h
  · cases hg
  · cases hg
    exact (Array.getElem?_eq_some_iff.1 hh).1
theorem JR.blk_ge {w : World} {base : Nat} {v : Value} {l : List (List Value)} (h : JR E sz w base v l) : ∀ g, v.ownBlock = some g → base ≤ g := by
  intro g hg
  obtain ⟨_, _, ⟨rfl, e⟩ | ⟨g', cap', cur, rfl, hbs, hh, hr⟩⟩ := h
  · cases hg
  · cases hg
    exact hbs
theorem JR.keep {w w' : World} {base n : Nat} {v : Value} {l : List (List Value)} (h : JR E sz w base v l) (hk : ∀ g, v.ownBlock = some g → g < n) (hb : Below n w w') : JR E sz w' base v l := by
  obtain ⟨h1, h0, ⟨rfl, e⟩ | ⟨g', cap', cur, rfl, hbs, hh, hr⟩⟩ := h
  · exact ⟨h1, h0, .inl ⟨rfl, e⟩⟩
  · refine ⟨h1, h0, .inr ⟨g', cap', cur, rfl, hbs, ?_, hr⟩⟩
    rw [hb.block g' (hk g' rfl)]; exact hh
theorem JR.keepAll {w w' : World} {base : Nat} {v : Value} {l : List (List Value)} (h : JR E sz w base v l) (hb : Below w.heap.size w w') : JR E sz w' base v l := h.keep h.blk_lt hb
theorem JR.alloc {w : World} {base : Nat} {v : Value} {l : List (List Value)} (h : JR E sz w base v l) (o : Obj) : JR E sz (w.alloc o) base v l := h.keepAll ((Below.refl _ _).alloc (Nat.le_refl _) _)
theorem JR.keepS {S : Nat → Prop} {w w' : World} {base : Nat} {v : Value} {l : List (List Value)} (h : JR E sz w base v l) (hS : ∀ g, v.ownBlock = some g → S g) (hb : KeepS S w w') : JR E sz w' base v l := by
  obtain ⟨h1, h0, ⟨rfl, e⟩ | ⟨g', cap', cur, rfl, hbs, hh, hr⟩⟩ := h
  · exact ⟨h1, h0, .inl ⟨rfl, e⟩⟩
  · refine ⟨h1, h0, .inr ⟨g', cap', cur, rfl, hbs, ?_, hr⟩⟩
    rw [hb.block g' (hS g' rfl)]; exact hh
theorem JR.rebase {w : World} {base base' : Nat} {v : Value} {l : List (List Value)} (h : JR E sz w base v l) (hb : ∀ g, v.ownBlock = some g → base' ≤ g) : JR E sz w base' v l := by
  obtain ⟨h1, h0, ⟨rfl, e⟩ | ⟨g', cap', cur, rfl, hbs, hh, hr⟩⟩ := h
  · exact ⟨h1, h0, .inl ⟨rfl, e⟩⟩
  · exact ⟨h1, h0, .inr ⟨g', cap', cur, rfl, hb g' rfl, hh, hr⟩⟩
theorem JR.lower {w : World} {base base' : Nat} {v : Value} {l : List (List Value)} (h : JR E sz w base v l) (hb : base' ≤ base) : JR E sz w base' v l := h.rebase fun g hg => Nat.le_trans hb (h.blk_ge g hg)
theorem JR.grownO {w w' : World} {base : Nat} {row : Option Nat} {v : Value} {l : List (List Value)} (h : JR E sz w base v l) (hg : w.grownBy w' row) (hne : ∀ g, v.ownBlock = some g → some g ≠ row) : JR E sz w' base v l := by
  obtain ⟨h1, h0, ⟨rfl, e⟩ | ⟨g', cap', cur, rfl, hbs, hh, hr⟩⟩ := h
  · exact ⟨h1, h0, .inl ⟨rfl, e⟩⟩
  · refine ⟨h1, h0, .inr ⟨g', cap', cur, rfl, hbs, ?_, hr⟩⟩
    rw [hg.block g' (Array.getElem?_eq_some_iff.1 hh).1 (hne g' rfl)]; exact hh
theorem JR.setO {w : World} {base : Nat} {v : Value} {l : List (List Value)} (h : JR E sz w base v l) {p : Addr} (hne : ∀ g, v.ownBlock = some g → g ≠ p.block) (u : Value) : JR E sz (w.setCell p u) base v l := by
  obtain ⟨h1, h0, ⟨rfl, e⟩ | ⟨g', cap', cur, rfl, hbs, hh, hr⟩⟩ := h
  · exact ⟨h1, h0, .inl ⟨rfl, e⟩⟩
  · refine ⟨h1, h0, .inr ⟨g', cap', cur, rfl, hbs, ?_, hr⟩⟩
    have := hne g' rfl
    rw [← hh]
    show (w.heap.modify p.block _)[g']? = _
    rw [Array.getElem?_modify, if_neg (fun e => this e.symm)]
theorem JR.drew {w : World} {base : Nat} {v : Value} {l : List (List Value)} (h : JR E sz w base v l) : JR E sz w.drew base v l := h
theorem JR.drewN {w : World} {base : Nat} {v : Value} {l : List (List Value)} (h : JR E sz w base v l) (n : Nat) : JR E sz (w.drewN n) base v l := h
theorem flat_at {ls : List (List Value)} (h : ∀ r ∈ ls, r.length = sz) : ∀ (k : Nat) (r : List Value) (j : Nat), ls[k]? = some r → j < sz → ls.flatten[k * sz + j]? = r[j]? := by
  induction ls with
  | nil => intro k r j hk; simp at hk
  | cons a q ih =>
    intro k r j hk hj
    have ha := h a List.mem_cons_self
    rw [List.flatten_cons]
    cases k with
    | zero =>
      simp at hk
      subst hk
      rw [Nat.zero_mul, Nat.zero_add, List.getElem?_append_left (by omega)]
    | succ k =>
      rw [List.getElem?_cons_succ] at hk
      rw [List.getElem?_append_right (by rw [ha, Nat.succ_mul]; omega), ha, show (k + 1) * sz + j - sz = k * sz + j by rw [Nat.succ_mul]; omega]
      exact ih (fun r hr => h r (List.mem_cons_of_mem _ hr)) k r j hk hj
theorem flat_len {ls : List (List Value)} (h : ∀ r ∈ ls, r.length = sz) : ls.flatten.length = ls.length * sz := by
  induction ls with
  | nil => simp
  | cons a q ih => rw [List.flatten_cons, List.length_append, ih (fun r hr => h r (List.mem_cons_of_mem _ hr)), h a List.mem_cons_self, List.length_cons, Nat.succ_mul]; omega
/-- what stands at a place -/
theorem JR.at {w : World} {base g : Nat} {n c : Nat} {l : List (List Value)} (h : JR E sz w base (.slice (some ⟨g, 0, none⟩) n c) l) (k : Nat) (r : List Value) (j : Nat) (u : Value) (hk : l[k]? = some r) (hu : r[j]? = some u) : w.cell? ⟨g, k * sz + j, none⟩ = some u := by
  obtain ⟨h1, h0, ⟨e, _⟩ | ⟨g', cap', cur, e, hbs, hh, h3, h4, h5, h6⟩⟩ := h
  · cases e
  · injection e with e1 e2 e3
    injection e1 with e1
    injection e1 with e1
    subst e1
    have hr : r.length = sz := (h1 r (List.mem_of_getElem? hk)).1
    have hj : j < sz := by have := (List.getElem?_eq_some_iff.1 hu).1; omega
    have hf := flat_at (fun r hr => (h1 r hr).1) k r j hk hj
    rw [hu, ← h6] at hf
    simp only [World.cell?, hh]
    rw [List.getElem?_take] at hf
    split at hf
    · simpa using hf
    · cases hf
theorem JR.nn {w : World} {base : Nat} {v : Value} {l : List (List Value)} (h : JR E sz w base v l) (hl : l ≠ []) : ∃ g c, v = .slice (some ⟨g, 0, none⟩) l.length c ∧ l.length ≤ c ∧ c ≤ maxLen := by
  obtain ⟨h1, h0, ⟨e, h⟩ | ⟨g', cap', cur, e, hbs, hh, h3, h4, h5, h6⟩⟩ := h
  · exact absurd (List.length_eq_zero_iff.1 h) hl
  · exact ⟨g', cap', e, h3, h4⟩
theorem JR.len_le {w : World} {base : Nat} {v : Value} {l : List (List Value)} (h : JR E sz w base v l) : l.length ≤ maxLen := by
  obtain ⟨h1, h0, ⟨e, h⟩ | ⟨g', cap', cur, e, hbs, hh, h3, h4, h5, h6⟩⟩ := h
  · rw [h]; exact Nat.zero_le _
  · omega
/-- a turn of what is no cells leaves the row -/
theorem JR.kept {w w' : World} {base : Nat} {row : Option Nat} {v : Value} {l : List (List Value)} (h : JR E sz w base v l) (hg : w.grownBy w' row) (hr : ∀ r, row = some r → ∃ o : Obj, w.heap[r]? = some o ∧ o.isCells = false) : JR E sz w' base v l := by
  refine h.grownO hg fun g hgb e => ?_
  obtain ⟨o, ho, hc⟩ := hr g e.symm
  obtain ⟨_, _, ⟨rfl, _⟩ | ⟨g', cap', cur, rfl, hbs, hh, _⟩⟩ := h
  · cases hgb
  · cases hgb
    have : some o = some (.cells cur E (0, 0)) := ho.symm.trans hh
    injection this with this
    rw [this] at hc
    cases hc
theorem JR.not_blk {W : World} {O base : Nat} {t : TypeId} {cs : List Value} {v : Value} {l : List (List Value)} (hr : JR E sz W base v l) (h : Blk W O t cs) (hte : t ≠ E) : some O ≠ v.ownBlock := by
  intro e
  obtain ⟨_, _, ⟨rfl, _⟩ | ⟨g', cap', cur, rfl, _, hh, _⟩⟩ := hr
  · cases e
  · injection e with e
    have e' : O = g' := e
    subst e'
    have h' : W.heap[O]? = some (.cells cs.toArray t (0, 0)) := h
    rw [h'] at hh
    injection hh with hh
    injection hh with _ hh
    exact hte hh
theorem JR.not_box {W : World} {B base : Nat} {t : TypeId} {u v : Value} {l : List (List Value)} (hr : JR E sz W base v l) (h : Boxed W B t u) (hte : t ≠ E) : some B ≠ v.ownBlock := JR.not_blk (cs := [u]) hr h hte
/-- what was put behind a row is cells: all else lies as it lay -/
theorem JR.others {W W' : World} {base : Nat} {v : Value} {l : List (List Value)} (h : JR E sz W base v l) (hg : W.grownBy W' v.ownBlock) : KeepsOthers W W' := by
  refine ⟨hg.size, fun i o hi ho => ?_⟩
  rw [hg.block i (Array.getElem?_eq_some_iff.1 hi).1 ?_]
  · exact hi
  · intro e
    obtain ⟨_, _, ⟨rfl, _⟩ | ⟨g', cap', cur, rfl, _, hh, _⟩⟩ := h
    · cases e
    · have e' : i = g' := by injection e
      subst e'
      rw [hi] at hh
      injection hh with hh
      rw [hh] at ho
      cases ho
variable {S : TypeId} {by_ : Nat} {z : Value}
/-- one more is put behind: r its cells, which lie in a block of their own -/
theorem run_append_jr (hS : Try.prog.underlying S = some (.slice E)) (hE : (Try.prog.info? E).map (fun i => (i.zero, i.size, i.bytes)) = some (some z, sz, by_)) (hz : z.cells.size = sz) (hsz : 0 < sz) (ty : TypeId) (w : World) (base : Nat) (v : Value) (l : List (List Value)) (hJ : JR E sz w base v l) (g c : Nat) (r : List Value) (hr : r.length = sz) (h1 : ∀ u ∈ r, u.oneCell' = true) (hc : ∀ j u, r[j]? = some u → w.cell? ⟨g, j, none⟩ = some u) (hb : (l.length + 1) * by_ ≤ 140737488355328) (hb2 : l.length + 1 ≤ maxLen) (hbase : base ≤ w.heap.size) :
    ∃ g' cap w', (Builtin.append_ #[S, S] ty #[v, .slice (some ⟨g, 0, none⟩) 1 c]).run Try.prog w = .ok (.slice (some ⟨g', 0, none⟩) (l.length + 1) cap) w' ∧ JR E sz w' base (.slice (some ⟨g', 0, none⟩) (l.length + 1) cap) (l ++ [r]) ∧ w.grownBy w' v.ownBlock ∧ (v.ownBlock = some g' ∨ g' = w.heap.size) := by
  obtain ⟨i0, hi, hz0, hz1, hz2⟩ := info_parts hE
  obtain ⟨g', cap, w', e1, h2, h3, h4, _⟩ := run_append_lies (P := Try.prog) w S ty base E i0 z sz by_ hS hi hz0 hz1 hz2 hz hsz v l.length l.flatten hJ.2 ⟨g, 0, none⟩ 1 c r (by omega) (fun j u hu => by
    have := hc j u hu
    rw [add_at, Nat.zero_add]; exact this) h1 (by omega) hb2 hb hbase w.heap.size rfl
  refine ⟨g', cap, w', e1, ⟨?_, ?_⟩, h3, h4⟩
  · intro q hq
    rcases List.mem_append.1 hq with hq | hq
    · exact hJ.1 q hq
    · rw [List.mem_singleton] at hq; subst hq; exact ⟨hr, h1⟩
  · rw [List.length_append, List.length_singleton, List.flatten_append, List.flatten_singleton]; exact h2
theorem wpListIn_append_jr {F : Fence} {d : Nat} (hS : Try.prog.underlying S = some (.slice E)) (hE : (Try.prog.info? E).map (fun i => (i.zero, i.size, i.bytes)) = some (some z, sz, by_)) (hz : z.cells.size = sz) (hsz : 0 < sz) (w : World) {ops : Array Oper} {rest : List Oper} {o : Oper} {a : Act} {Q : Exit → Act → World → Prop} (hgd : o.guard = none) (s x : Operand)
    (ho : o.op = .call { callee := .builtin .append, args := #[s, x], argTypes := #[S, S] })
    (base : Nat) (v : Value) (l : List (List Value)) (g c : Nat) (r : List Value) (hs : a.eval s = v) (hx : a.eval x = .slice (some ⟨g, 0, none⟩) 1 c) (hJ : JR E sz w base v l) (hr : r.length = sz) (h1 : ∀ u ∈ r, u.oneCell' = true) (hc : ∀ j u, r[j]? = some u → w.cell? ⟨g, j, none⟩ = some u) (n : Nat) (hn : l.length + 1 = n) (hb : n * by_ ≤ 140737488355328) (hb2 : n ≤ maxLen) (hbase : base ≤ w.heap.size)
    (h : ∀ g' cap w', JR E sz w' base (.slice (some ⟨g', 0, none⟩) n cap) (l ++ [r]) → w.grownBy w' v.ownBlock → (v.ownBlock = some g' ∨ g' = w.heap.size) → wpListIn F d Try.prog ops Q rest (a.put o.dst (.slice (some ⟨g', 0, none⟩) n cap)) w') : wpListIn F d Try.prog ops Q (o :: rest) a w := by
  subst hn
  refine wpListIn_plain hgd fun K hK => ?_
  obtain ⟨a', cap, w', hrr, h2, h3, h4⟩ := run_append_jr hS hE hz hsz o.type w base v l hJ g c r hr h1 hc hb hb2 hbase
  unfold Oper.wpIn
  refine ⟨?_, ?_⟩
  · simp [Oper.about, ho, resolve, Target.leads, Sem.run_pure]
  · rw [Oper.semAt_plain F _ _ (by rw [ho]; intro c hc'; cases hc')]
    simp [execOp, ho, resolve, invoke, builtin, hs, hx, hrr, Result.andThen]
    exact hK _ _ (h a' cap w' h2 h3 h4)
theorem wpList_append_jr (hS : Try.prog.underlying S = some (.slice E)) (hE : (Try.prog.info? E).map (fun i => (i.zero, i.size, i.bytes)) = some (some z, sz, by_)) (hz : z.cells.size = sz) (hsz : 0 < sz) (w : World) {ops : Array Oper} {rest : List Oper} {o : Oper} {a : Act} {Q : Exit → Act → World → Prop} (hgd : o.guard = none) (s x : Operand)
    (ho : o.op = .call { callee := .builtin .append, args := #[s, x], argTypes := #[S, S] })
    (base : Nat) (v : Value) (l : List (List Value)) (g c : Nat) (r : List Value) (hs : a.eval s = v) (hx : a.eval x = .slice (some ⟨g, 0, none⟩) 1 c) (hJ : JR E sz w base v l) (hr : r.length = sz) (h1 : ∀ u ∈ r, u.oneCell' = true) (hc : ∀ j u, r[j]? = some u → w.cell? ⟨g, j, none⟩ = some u) (n : Nat) (hn : l.length + 1 = n) (hb : n * by_ ≤ 140737488355328) (hb2 : n ≤ maxLen) (hbase : base ≤ w.heap.size)
    (h : ∀ g' cap w', JR E sz w' base (.slice (some ⟨g', 0, none⟩) n cap) (l ++ [r]) → w.grownBy w' v.ownBlock → (v.ownBlock = some g' ∨ g' = w.heap.size) → wpList Try.prog ops Q rest (a.put o.dst (.slice (some ⟨g', 0, none⟩) n cap)) w') : wpList Try.prog ops Q (o :: rest) a w := by
  subst hn
  refine wpList_plain hgd fun K hK => ?_
  obtain ⟨a', cap, w', hrr, h2, h3, h4⟩ := run_append_jr hS hE hz hsz o.type w base v l hJ g c r hr h1 hc hb hb2 hbase
  unfold Oper.wp execOp
  simp only [ho, resolve, invoke, builtin, Sem.run_bind, Sem.run_pure, Result.andThen_ok, List.map_toArray, List.map_cons, List.map_nil, hs, hx, hrr]
  exact hK _ _ (h a' cap w' h2 h3 h4)
end
end Vt
end Go.Proofs.Ytkcbehdfiaobcaa
namespace Go.Proofs.Ytkcbehdfiaobcaa
open Go.RowKit
namespace Vt
theorem zeros_jb (w : World) (n cap : Nat) (hn : n ≤ cap) (hm : cap ≤ maxLen) : JB (w.drew.alloc (.cells (Builtin.zeroCells (Value.int .u8 0).cells n ++ Builtin.zeroCells (Value.int .u8 0).cells (cap - n)) 5)) w.heap.size (.slice (some ⟨w.heap.size, 0, none⟩) 0 cap) [] := by
  refine ⟨byt_nil, by simp [bs], .inr ⟨w.heap.size, cap, Builtin.zeroCells (Value.int .u8 0).cells n ++ Builtin.zeroCells (Value.int .u8 0).cells (cap - n), rfl, Nat.le_refl _, ?_, Nat.zero_le _, hm, ?_, by simp [bs]⟩⟩
  · show (w.drew.heap.push _)[w.heap.size]? = _
    rw [show w.heap.size = w.drew.heap.size from rfl, Array.getElem?_push_size]
  · simp [Builtin.zeroCells, Value.cells]; omega
set_option maxRecDepth 100000 in
set_option maxHeartbeats 400000 in
theorem grow_nil (n : Nat) (w : World) (h0 : 0 < n) (hm : n ≤ 140737488355328) :
    Calls Try.prog 64 #[.slice none 0 0, .int .i64 (n : Int)] w fun e w' => ∃ cap, e = .returned (.slice (some ⟨w.heap.size, 0, none⟩) 0 cap) ∧ JB w' w.heap.size (.slice (some ⟨w.heap.size, 0, none⟩) 0 cap) [] ∧ Below w.heap.size w w' := by
  obtain ⟨i0, hi, hz0, hz1, hz2⟩ := info_parts info_u8
  have hrun := fun (ty : TypeId) => Lib.run_append_nil_zeros (P := Try.prog) w 22 3 ty 5 i0 (.int .u8 0) .i64 .i64 Try.underlying22 Try.underlying3 hi hz0 n h0 (by omega) (by omega) (by rw [hz2]; omega)
  have hge := grownCap_ge w n 0 5
  have hle := grownCap_le_maxLen w n 0 5 (by unfold maxLen; omega)
  have HJ := hd (zeros_jb w n _ hge hle)
  have hle2 := hle
  unfold maxLen at hle2
  generalize grownCap w n 0 5 = cap at *
  have HB : Hid (Below w.heap.size w (w.drew.alloc (.cells (Builtin.zeroCells (Value.int .u8 0).cells n ++ Builtin.zeroCells (Value.int .u8 0).cells (cap - n)) 5))) := (below_drewN (Below.refl _ _) 1).alloc (Nat.le_refl _) _
  generalize (w.drew.alloc (.cells (Builtin.zeroCells (Value.int .u8 0).cells n ++ Builtin.zeroCells (Value.int .u8 0).cells (cap - n)) 5)) = w1 at *
  go_enter Try.func64, Try.ntmps64
  go_wp2_with (at_builtin; refine Lib.wpList_append_run _ rfl _ _ _ _ rfl _ _ rfl rfl _ _ (hrun _) ?_)
  go_ret
  exact ⟨cap, rfl, HJ.out, HB.out⟩
/-- a slice of slices of bytes -/
def Ps (w : World) (b off : Nat) (ls : List (List Nat)) : Prop := ∀ i, i < ls.length → ∃ v, w.cell? ⟨b, off + i, none⟩ = some v ∧ IsB w v (ls.getD i [])
theorem ps_succ {ls : List (List Nat)} {k : Nat} (h : k < ls.length) : (ls.take (k + 1)).flatten = (ls.take k).flatten ++ ls.getD k [] := by
  rw [List.take_succ_eq_append_getElem h, List.getD_eq_getElem?_getD, List.getElem?_eq_getElem h, List.flatten_append]; simp
theorem ps_le (ls : List (List Nat)) (k : Nat) : (ls.take k).flatten.length ≤ ls.flatten.length := by
  have : ls.flatten = (ls.take k).flatten ++ (ls.drop k).flatten := by rw [← List.flatten_append, List.take_append_drop]
  rw [this, List.length_append]; omega
set_option maxRecDepth 100000 in
set_option maxHeartbeats 400000 in
theorem concat_row (b off c : Nat) (ls : List (List Nat)) (w : World) (hb : b < w.heap.size) (hn : ls.length ≤ 1000) (hP : Ps w b off ls) (h0 : 0 < ls.flatten.length) (hm : ls.flatten.length ≤ 140737488355328) :
    Calls Try.prog 52 #[.slice (some ⟨b, off, none⟩) ls.length c] w fun e w' => ∃ u, e = .returned u ∧ JB w' w.heap.size u ls.flatten ∧ Below w.heap.size w w' := by
  have HP := hd hP
  clear hP
  have HG := hd (grow_nil ls.flatten.length w h0 hm)
  have HPS := hd (ps_le ls)
  generalize hT : ls.flatten.length = T at *
  have HT := hd hT
  clear hT
  go_enter Try.func52, Try.ntmps52
  go_wp2_with fail
  go_loop [3, 11] (fun s i => ∃ k : Nat, k ≤ ls.length ∧ i = .int .i64 (k : Int) ∧ s = .int .i64 (((ls.take k).flatten.length : Nat) : Int)) (fun _ i => ls.length - (intOf i).toNat)
  case atStart => exact ⟨0, by omega, rfl, rfl⟩
  case round =>
    obtain ⟨k, hk, rfl, rfl⟩ := hrel
    by_cases hlt : k < ls.length
    · obtain ⟨v, hv, hB⟩ := HP.out k hlt
      have he := congrArg List.length (ps_succ hlt)
      have hle := HPS.out (k + 1)
      rw [List.length_append] at he
      rw [he] at hle
      have HE := hd he
      clear he
      obtain ⟨a, c', e⟩ := hB.shape
      subst e
      clear hB
      generalize (ls.take k).flatten.length = s at *
      generalize (ls.getD k []).length = d at *
      go_wp2_with fail
      go_round
      case rel => exact ⟨k + 1, hlt, by go_num, by rw [HE.out]; rfl⟩
      case measure => simp [intOf]; omega
    · obtain rfl : k = ls.length := by omega
      rw [List.take_length, HT.out]
      go_wp2_with fail
      refine Calls.mono HG.out ?_
      rintro e w1 ⟨cap, rfl, hJ1, hB1⟩
      have HJ1 := hd hJ1
      have HB1 := hd hB1
      clear hJ1 hB1 HG
      go_wp2_with fail
      go_loopw [6, 27] (fun v i wr => ∃ k : Nat, k ≤ ls.length ∧ i = .int .i64 (k : Int) ∧ JB wr w.heap.size v (ls.take k).flatten ∧ Below w.heap.size w wr) (fun _ i _ => ls.length - (intOf i).toNat)
      case atStart => exact ⟨0, by omega, rfl, HJ1.out, HB1.out⟩
      case round =>
        obtain ⟨k, hk, rfl, hJ, hBB⟩ := hrel
        have HJ := hd hJ
        have HBB := hd hBB
        clear hJ hBB HJ1 HB1
        by_cases hlt : k < ls.length
        · obtain ⟨u, hv, hB⟩ := HP.out k hlt
          have HI := hd (hB.below HBB.out)
          have hc : wr.cell? ⟨b, off + k, none⟩ = some u := by rw [HBB.out.cell hb]; exact hv
          have HE := hd (ps_succ hlt)
          have hle := HPS.out (k + 1)
          have hl2 := congrArg List.length HE.out
          rw [List.length_append] at hl2
          have hsz := HBB.out.size
          clear hv hB
          obtain ⟨R, hR⟩ : ∃ R, R = (ls.take (k + 1)).flatten := ⟨_, rfl⟩
          obtain ⟨A, hA⟩ : ∃ A, A = (ls.take k).flatten := ⟨_, rfl⟩
          obtain ⟨D, hD⟩ : ∃ D, D = ls.getD k [] := ⟨_, rfl⟩
          rw [← hR, ← hA, ← hD] at HE
          rw [← hR] at hle hl2
          rw [← hA, ← hD] at hl2
          rw [← hA] at HJ
          rw [← hD] at HI
          have HR := hd hR
          clear hR hA hD
          go_wp2_with (at_builtin; refine wpList_append_jb _ rfl _ _ rfl w.heap.size _ _ _ _ rfl rfl HJ.out HI.out _ hl2.symm _ HE.out.symm (by omega) hsz ?_; intro a2 cap2 w2 hJ2 hg2 hc2)
          have HJ2 := hd hJ2
          have HB2 := hd (HJ.out.grown HBB.out (Nat.le_refl _) hsz hg2)
          clear hJ2 hg2
          go_roundw
          case rel => exact ⟨k + 1, hlt, by go_num, by rw [← HR.out]; have := HJ2.out; rw [hl2] at this; exact this, HB2.out⟩
          case measure => simp [intOf]; omega
        · obtain rfl : k = ls.length := by omega
          rw [List.take_length] at HJ
          go_wp2_with fail
          go_ret
          exact ⟨_, rfl, HJ.out, HBB.out⟩
end Vt
end Go.Proofs.Ytkcbehdfiaobcaa
