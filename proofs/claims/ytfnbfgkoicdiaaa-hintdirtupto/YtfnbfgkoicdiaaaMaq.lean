/-
  'append' onto a row of integers of the call's own, for the walk within a fence (functions with ranges over iterators).
  ROWS OF STRUCTS OF THE CALL'S OWN ('JR': elements of sz cells each): 'append' of one more as a law for the walk, within a fence and without; what is read at a place.
  escape.Next at any bytes, none at all too.
  ROWS OF STRUCTS OF THE CALL'S OWN ('JR': elements of sz cells each): 'append' of one more as a law for the walk, within a fence and without; what is read at a place.
  WHAT scan.located TELLS: the list 'locs'; the contract of its iterator, for every loop body that keeps the blocks of S.
-/
import Derived.Test.YtfnbfgkoicdiaaaMap
import Derived.Deep.RegionLaw
import Derived.Test.YtfnbfgkoicdiaaaMai
import Derived.Test.YtfnbfgkoicdiaaaMao
namespace Go.Proofs.Ytfnbfgkoicdiaaa
open Go.RowKit Go.Shelf
namespace Vt
/-- a function with ranges over iterators that returns: no other way out -/
def bodyPostF (F : Fence) (n : Nat) (P : Program) (fn : Func) (R : Ending → World → Prop) : Exit → Act → World → Prop
  | .normal, a, w | .ret, a, w => LeavesInM F n P fn a.tmps R a.defers .returning w
  | _, _, _ => False
theorem bodyPostF_M {F : Fence} {n : Nat} {P : Program} {fn : Func} {R : Ending → World → Prop} : ∀ e a w, bodyPostF F n P fn R e a w → bodyPostM F n P fn R e a w := by
  intro e a w h
  cases e with
  | normal => exact h
  | ret => exact h
  | _ => exact h.elim
/-- append, left standing by the walk: its run is handed in as an equation -/
def apH (ats : Array TypeId) (ty : TypeId) (args : Array Value) : Sem Value := Builtin.append_ ats ty args
theorem append_hide (ats : Array TypeId) (ty : TypeId) (args : Array Value) : Builtin.append_ ats ty args = apH ats ty args := rfl
section
variable {k : IntKind} {M : Nat} {E S : TypeId} {by_ : Nat}
theorem wpListIn_append_jk {F : Fence} {d : Nat} (hS : Try.prog.underlying S = some (.slice E)) (hE : (Try.prog.info? E).map (fun i => (i.zero, i.size, i.bytes)) = some (some (.int k 0), 1, by_)) (w : World) {ops : Array Oper} {rest : List Oper} {o : Oper} {a : Act} {Q : Exit → Act → World → Prop} (hgd : o.guard = none) (s x : Operand)
    (ho : o.op = .call { callee := .builtin .append, args := #[s, x], argTypes := #[S, S] })
    (base : Nat) (v u : Value) (l r : List Nat) (hs : a.eval s = v) (hx : a.eval x = u) (hJ : JK k M E w base v l) (hI : IsK k M w u r) (n : Nat) (hn : l.length + r.length = n) (R : List Nat) (hR : l ++ r = R) (hb : n * by_ ≤ 140737488355328) (hb2 : n ≤ 140737488355328) (hbase : base ≤ w.heap.size)
    (h : ∀ a' cap w', JK k M E w' base (.slice a' n cap) R → w.grownBy w' v.ownBlock → (∀ g, (Value.slice a' n cap).ownBlock = some g → v.ownBlock = some g ∨ g = w.heap.size) → n ≤ cap → wpListIn F d Try.prog ops Q rest (a.put o.dst (.slice a' n cap)) w') : wpListIn F d Try.prog ops Q (o :: rest) a w := by
  subst hn hR
  refine wpListIn_plain hgd fun K hK => ?_
  obtain ⟨a', cap, w', hr, h2, h3, h4⟩ := run_append_jk hS hE o.type w base v u l r hJ hI hb hb2 hbase
  have hle : l.length + r.length ≤ cap := by
    obtain ⟨a2, c2, e, hle⟩ := h2.shape
    injection e with e1 e2 e3
    rw [List.length_append] at hle
    omega
  unfold Oper.wpIn
  refine ⟨?_, ?_⟩
  · simp [Oper.about, ho, resolve, Target.leads, Sem.run_pure]
  · rw [Oper.semAt_plain F _ _ (by rw [ho]; intro c hc'; cases hc')]
    simp [execOp, ho, resolve, invoke, builtin, hs, hx, hr, Result.andThen]
    exact hK _ _ (h a' cap w' h2 h3 h4 hle)
/-- .. as one step of a region that draws its order -/
theorem step_append_jk (hS : Try.prog.underlying S = some (.slice E)) (hE : (Try.prog.info? E).map (fun i => (i.zero, i.size, i.bytes)) = some (some (.int k 0), 1, by_)) (w : World) {ops : Array Oper} {o : Oper} {a : Act} {K : Act → World → Prop} {Q : Exit → Act → World → Prop} {X : Prop} (hgd : o.guard = none) (s x : Operand)
    (ho : o.op = .call { callee := .builtin .append, args := #[s, x], argTypes := #[S, S] })
    (base : Nat) (v u : Value) (l r : List Nat) (hs : a.eval s = v) (hx : a.eval x = u) (hJ : JK k M E w base v l) (hI : IsK k M w u r) (n : Nat) (hn : l.length + r.length = n) (R : List Nat) (hR : l ++ r = R) (hb : n * by_ ≤ 140737488355328) (hb2 : n ≤ 140737488355328) (hbase : base ≤ w.heap.size)
    (h : ∀ a' cap w', JK k M E w' base (.slice a' n cap) R → w.grownBy w' v.ownBlock → (∀ g, (Value.slice a' n cap).ownBlock = some g → v.ownBlock = some g ∨ g = w.heap.size) → n ≤ cap → K (a.put o.dst (.slice a' n cap)) w') :
    if Region.wanted o (yielded ops a.tmps) = true then Oper.wp Try.prog o a w K Q else X := by
  subst hn hR
  have hw : Region.wanted o (yielded ops a.tmps) = true := by simp [Region.wanted, hgd]
  rw [if_pos hw]
  obtain ⟨a', cap, w', hr, h2, h3, h4⟩ := run_append_jk hS hE o.type w base v u l r hJ hI hb hb2 hbase
  have hle : l.length + r.length ≤ cap := by
    obtain ⟨a2, c2, e, hle⟩ := h2.shape
    injection e with e1 e2 e3
    rw [List.length_append] at hle
    omega
  unfold Oper.wp execOp
  simp only [ho, resolve, invoke, builtin, Sem.run_bind, Sem.run_pure, Result.andThen_ok, List.map_toArray, List.map_cons, List.map_nil, hs, hx, hr]
  exact h a' cap w' h2 h3 h4 hle
theorem JK.drew {w : World} {base : Nat} {v : Value} {l : List Nat} (h : JK k M E w base v l) : JK k M E w.drew base v l := h
theorem JK.drewN {w : World} {base : Nat} {v : Value} {l : List Nat} (h : JK k M E w base v l) (n : Nat) : JK k M E (w.drewN n) base v l := h
/-- a turn of what is no cells leaves the row -/
theorem JK.kept {w w' : World} {base : Nat} {row : Option Nat} {v : Value} {l : List Nat} (h : JK k M E w base v l) (hg : w.grownBy w' row) (hr : ∀ r, row = some r → ∃ o : Obj, w.heap[r]? = some o ∧ o.isCells = false) : JK k M E w' base v l := by
  refine h.grownO hg fun g hgb e => ?_
  obtain ⟨o, ho, hc⟩ := hr g e.symm
  obtain ⟨_, _, ⟨rfl, _⟩ | ⟨g', cap', cur, rfl, hbs, hh, _⟩⟩ := h
  · cases hgb
  · cases hgb
    have : some o = some (.cells cur E (0, 0)) := ho.symm.trans hh
    injection this with this
    rw [this] at hc
    cases hc
theorem Boxed.keptO {W W' : World} {row : Option Nat} {B : Nat} {t : TypeId} {v : Value} (h : Boxed W B t v) (hg : W.grownBy W' row) (hr : ∀ r, row = some r → ∃ o : Obj, W.heap[r]? = some o ∧ o.isCells = false) : Boxed W' B t v := by
  refine h.kept hg fun e => ?_
  obtain ⟨o, ho, hc⟩ := hr B e.symm
  have : some o = some (.cells #[v] t) := ho.symm.trans h
  injection this with this
  rw [this] at hc
  cases hc
/-- a box of another type is no such row -/
theorem JK.not_box {W : World} {B base : Nat} {t : TypeId} {u v : Value} {l : List Nat} (h : Boxed W B t u) (hte : t ≠ E) (hr : JK k M E W base v l) : some B ≠ v.ownBlock := Boxed.not_row h hte hr.2
/-- a box lies as it lay where something was put behind a row -/
theorem box_row {W W' : World} {B base : Nat} {t : TypeId} {u v : Value} {l : List Nat} {o : Obj} (h : Boxed W B t u) (hr : JK k M E W base v l) (hg : (W.alloc o).grownBy W' v.ownBlock) (hte : t ≠ E) : Boxed W' B t u :=
  (h.alloc o).kept hg (JK.not_box (h.alloc o) hte (hr.keepAll ((Below.refl _ _).alloc (Nat.le_refl _) o)))
/-- what was put behind a row is cells: all else lies as it lay -/
theorem others_row {W W' : World} {base : Nat} {v : Value} {l : List Nat} (h : JK k M E W base v l) (hg : W.grownBy W' v.ownBlock) : KeepsOthers W W' := by
  refine ⟨hg.size, fun i o hi ho => ?_⟩
  rw [hg.block i (Array.getElem?_eq_some_iff.1 hi).1 ?_]
  · exact hi
  · intro e
    obtain ⟨_, _, ⟨rfl, _⟩ | ⟨g', cap', cur, rfl, _, hh, _⟩⟩ := h
    · cases e
    · have e' : i = g' := by injection e
      subst e'
      rw [hi] at hh
      injection hh with hh
      rw [hh] at ho
      cases ho
/-- rows of unlike elements are apart -/
theorem JK.apart {k2 : IntKind} {M2 : Nat} {E2 : TypeId} {W : World} {base base2 : Nat} {v u : Value} {l l2 : List Nat} (h : JK k M E W base v l) (h2 : JK k2 M2 E2 W base2 u l2) (hne : E ≠ E2) : ∀ g, v.ownBlock = some g → some g ≠ u.ownBlock := by
  intro g hg e
  obtain ⟨_, _, ⟨rfl, _⟩ | ⟨g1, cap1, cur1, rfl, _, hh1, _⟩⟩ := h
  · cases hg
  · obtain ⟨_, _, ⟨rfl, _⟩ | ⟨g2, cap2, cur2, rfl, _, hh2, _⟩⟩ := h2
    · cases e
    · cases hg
      injection e with e
      have e' : g1 = g2 := e
      subst e'
      rw [hh1] at hh2
      injection hh2 with hh2
      injection hh2 with _ hh2
      exact hne hh2
end
end Vt
end Go.Proofs.Ytfnbfgkoicdiaaa
namespace Go.Proofs.Ytfnbfgkoicdiaaa
open Go.RowKit Go.Shelf
namespace Vt
/-- a row of the call's own, of elements of sz cells each: nil where there is none -/
def JR (E : TypeId) (sz : Nat) (w : World) (base : Nat) (v : Value) (ls : List (List Value)) : Prop := (∀ r ∈ ls, r.length = sz ∧ ∀ u ∈ r, u.oneCell' = true) ∧ w.ownsRow base E sz v ls.length ls.flatten
section
variable {E : TypeId} {sz : Nat}
theorem jr_nil (w : World) (base : Nat) : JR E sz w base (.slice none 0 0) [] := ⟨by simp, by simp, .inl ⟨rfl, rfl⟩⟩
theorem JR.shape {w : World} {base : Nat} {v : Value} {l : List (List Value)} (h : JR E sz w base v l) : ∃ a c, v = .slice a l.length c ∧ l.length ≤ c := by
  rcases h.2.2 with ⟨rfl, e⟩ | ⟨g, cap, cur, rfl, _, _, hl, _⟩
  · exact ⟨none, 0, by rw [e], by omega⟩
  · exact ⟨_, cap, rfl, hl⟩
theorem JR.blk_lt {w : World} {base : Nat} {v : Value} {l : List (List Value)} (h : JR E sz w base v l) : ∀ g, v.ownBlock = some g → g < w.heap.size := by
  intro g hg
  obtain ⟨_, _, ⟨rfl, e⟩ | ⟨g', cap', cur, rfl, hbs, hh, hr⟩⟩ := h
  · cases hg
  · cases hg
    exact (Array.getElem?_eq_some_iff.1 hh).1
theorem JR.blk_ge {w : World} {base : Nat} {v : Value} {l : List (List Value)} (h : JR E sz w base v l) : ∀ g, v.ownBlock = some g → base ≤ g := by
  intro g hg
  obtain ⟨_, _, ⟨rfl, e⟩ | ⟨g', cap', cur, rfl, hbs, hh, hr⟩⟩ := h
  · cases hg
  · cases hg
    exact hbs
theorem JR.keep {w w' : World} {base n : Nat} {v : Value} {l : List (List Value)} (h : JR E sz w base v l) (hk : ∀ g, v.ownBlock = some g → g < n) (hb : Below n w w') : JR E sz w' base v l := by
  obtain ⟨h1, h0, ⟨rfl, e⟩ | ⟨g', cap', cur, rfl, hbs, hh, hr⟩⟩ := h
  · exact ⟨h1, h0, .inl ⟨rfl, e⟩⟩
  · refine ⟨h1, h0, .inr ⟨g', cap', cur, rfl, hbs, ?_, hr⟩⟩
    rw [hb.block g' (hk g' rfl)]; exact hh
theorem JR.keepAll {w w' : World} {base : Nat} {v : Value} {l : List (List Value)} (h : JR E sz w base v l) (hb : Below w.heap.size w w') : JR E sz w' base v l := h.keep h.blk_lt hb
theorem JR.alloc {w : World} {base : Nat} {v : Value} {l : List (List Value)} (h : JR E sz w base v l) (o : Obj) : JR E sz (w.alloc o) base v l := h.keepAll ((Below.refl _ _).alloc (Nat.le_refl _) _)
theorem JR.keepS {S : Nat → Prop} {w w' : World} {base : Nat} {v : Value} {l : List (List Value)} (h : JR E sz w base v l) (hS : ∀ g, v.ownBlock = some g → S g) (hb : KeepS S w w') : JR E sz w' base v l := by
  obtain ⟨h1, h0, ⟨rfl, e⟩ | ⟨g', cap', cur, rfl, hbs, hh, hr⟩⟩ := h
  · exact ⟨h1, h0, .inl ⟨rfl, e⟩⟩
  · refine ⟨h1, h0, .inr ⟨g', cap', cur, rfl, hbs, ?_, hr⟩⟩
    rw [hb.block g' (hS g' rfl)]; exact hh
theorem JR.rebase {w : World} {base base' : Nat} {v : Value} {l : List (List Value)} (h : JR E sz w base v l) (hb : ∀ g, v.ownBlock = some g → base' ≤ g) : JR E sz w base' v l := by
  obtain ⟨h1, h0, ⟨rfl, e⟩ | ⟨g', cap', cur, rfl, hbs, hh, hr⟩⟩ := h
  · exact ⟨h1, h0, .inl ⟨rfl, e⟩⟩
  · exact ⟨h1, h0, .inr ⟨g', cap', cur, rfl, hb g' rfl, hh, hr⟩⟩
theorem JR.lower {w : World} {base base' : Nat} {v : Value} {l : List (List Value)} (h : JR E sz w base v l) (hb : base' ≤ base) : JR E sz w base' v l := h.rebase fun g hg => Nat.le_trans hb (h.blk_ge g hg)
theorem JR.grownO {w w' : World} {base : Nat} {row : Option Nat} {v : Value} {l : List (List Value)} (h : JR E sz w base v l) (hg : w.grownBy w' row) (hne : ∀ g, v.ownBlock = some g → some g ≠ row) : JR E sz w' base v l := by
  obtain ⟨h1, h0, ⟨rfl, e⟩ | ⟨g', cap', cur, rfl, hbs, hh, hr⟩⟩ := h
  · exact ⟨h1, h0, .inl ⟨rfl, e⟩⟩
  · refine ⟨h1, h0, .inr ⟨g', cap', cur, rfl, hbs, ?_, hr⟩⟩
    rw [hg.block g' (Array.getElem?_eq_some_iff.1 hh).1 (hne g' rfl)]; exact hh
theorem JR.setO {w : World} {base : Nat} {v : Value} {l : List (List Value)} (h : JR E sz w base v l) {p : Addr} (hne : ∀ g, v.ownBlock = some g → g ≠ p.block) (u : Value) : JR E sz (w.setCell p u) base v l := by
  obtain ⟨h1, h0, ⟨rfl, e⟩ | ⟨g', cap', cur, rfl, hbs, hh, hr⟩⟩ := h
  · exact ⟨h1, h0, .inl ⟨rfl, e⟩⟩
  · refine ⟨h1, h0, .inr ⟨g', cap', cur, rfl, hbs, ?_, hr⟩⟩
    have := hne g' rfl
    rw [← hh]
    show (w.heap.modify p.block _)[g']? = _
    rw [Array.getElem?_modify, if_neg (fun e => this e.symm)]
theorem JR.drew {w : World} {base : Nat} {v : Value} {l : List (List Value)} (h : JR E sz w base v l) : JR E sz w.drew base v l := h
theorem JR.drewN {w : World} {base : Nat} {v : Value} {l : List (List Value)} (h : JR E sz w base v l) (n : Nat) : JR E sz (w.drewN n) base v l := h
theorem flat_at {ls : List (List Value)} (h : ∀ r ∈ ls, r.length = sz) : ∀ (k : Nat) (r : List Value) (j : Nat), ls[k]? = some r → j < sz → ls.flatten[k * sz + j]? = r[j]? := by
  induction ls with
  | nil => intro k r j hk; simp at hk
  | cons a q ih =>
    intro k r j hk hj
    have ha := h a List.mem_cons_self
    rw [List.flatten_cons]
    cases k with
    | zero =>
      simp at hk
      subst hk
      rw [Nat.zero_mul, Nat.zero_add, List.getElem?_append_left (by omega)]
    | succ k =>
      rw [List.getElem?_cons_succ] at hk
      rw [List.getElem?_append_right (by rw [ha, Nat.succ_mul]; omega), ha, show (k + 1) * sz + j - sz = k * sz + j by rw [Nat.succ_mul]; omega]
      exact ih (fun r hr => h r (List.mem_cons_of_mem _ hr)) k r j hk hj
theorem flat_len {ls : List (List Value)} (h : ∀ r ∈ ls, r.length = sz) : ls.flatten.length = ls.length * sz := by
  induction ls with
  | nil => simp
  | cons a q ih => rw [List.flatten_cons, List.length_append, ih (fun r hr => h r (List.mem_cons_of_mem _ hr)), h a List.mem_cons_self, List.length_cons, Nat.succ_mul]; omega
/-- what stands at a place -/
theorem JR.at {w : World} {base g : Nat} {n c : Nat} {l : List (List Value)} (h : JR E sz w base (.slice (some ⟨g, 0, none⟩) n c) l) (k : Nat) (r : List Value) (j : Nat) (u : Value) (hk : l[k]? = some r) (hu : r[j]? = some u) : w.cell? ⟨g, k * sz + j, none⟩ = some u := by
  obtain ⟨h1, h0, ⟨e, _⟩ | ⟨g', cap', cur, e, hbs, hh, h3, h4, h5, h6⟩⟩ := h
  · cases e
  · injection e with e1 e2 e3
    injection e1 with e1
    injection e1 with e1
    subst e1
    have hr : r.length = sz := (h1 r (List.mem_of_getElem? hk)).1
    have hj : j < sz := by have := (List.getElem?_eq_some_iff.1 hu).1; omega
    have hf := flat_at (fun r hr => (h1 r hr).1) k r j hk hj
    rw [hu, ← h6] at hf
    simp only [World.cell?, hh]
    rw [List.getElem?_take] at hf
    split at hf
    · simpa using hf
    · cases hf
theorem JR.nn {w : World} {base : Nat} {v : Value} {l : List (List Value)} (h : JR E sz w base v l) (hl : l ≠ []) : ∃ g c, v = .slice (some ⟨g, 0, none⟩) l.length c ∧ l.length ≤ c ∧ c ≤ maxLen := by
  obtain ⟨h1, h0, ⟨e, h⟩ | ⟨g', cap', cur, e, hbs, hh, h3, h4, h5, h6⟩⟩ := h
  · exact absurd (List.length_eq_zero_iff.1 h) hl
  · exact ⟨g', cap', e, h3, h4⟩
theorem JR.len_le {w : World} {base : Nat} {v : Value} {l : List (List Value)} (h : JR E sz w base v l) : l.length ≤ maxLen := by
  obtain ⟨h1, h0, ⟨e, h⟩ | ⟨g', cap', cur, e, hbs, hh, h3, h4, h5, h6⟩⟩ := h
  · rw [h]; exact Nat.zero_le _
  · omega
/-- a turn of what is no cells leaves the row -/
theorem JR.kept {w w' : World} {base : Nat} {row : Option Nat} {v : Value} {l : List (List Value)} (h : JR E sz w base v l) (hg : w.grownBy w' row) (hr : ∀ r, row = some r → ∃ o : Obj, w.heap[r]? = some o ∧ o.isCells = false) : JR E sz w' base v l := by
  refine h.grownO hg fun g hgb e => ?_
  obtain ⟨o, ho, hc⟩ := hr g e.symm
  obtain ⟨_, _, ⟨rfl, _⟩ | ⟨g', cap', cur, rfl, hbs, hh, _⟩⟩ := h
  · cases hgb
  · cases hgb
    have : some o = some (.cells cur E (0, 0)) := ho.symm.trans hh
    injection this with this
    rw [this] at hc
    cases hc
theorem JR.not_blk {W : World} {O base : Nat} {t : TypeId} {cs : List Value} {v : Value} {l : List (List Value)} (hr : JR E sz W base v l) (h : Blk W O t cs) (hte : t ≠ E) : some O ≠ v.ownBlock := by
  intro e
  obtain ⟨_, _, ⟨rfl, _⟩ | ⟨g', cap', cur, rfl, _, hh, _⟩⟩ := hr
  · cases e
  · injection e with e
    have e' : O = g' := e
    subst e'
    have h' : W.heap[O]? = some (.cells cs.toArray t (0, 0)) := h
    rw [h'] at hh
    injection hh with hh
    injection hh with _ hh
    exact hte hh
theorem JR.not_box {W : World} {B base : Nat} {t : TypeId} {u v : Value} {l : List (List Value)} (hr : JR E sz W base v l) (h : Boxed W B t u) (hte : t ≠ E) : some B ≠ v.ownBlock := JR.not_blk (cs := [u]) hr h hte
/-- what was put behind a row is cells: all else lies as it lay -/
theorem JR.others {W W' : World} {base : Nat} {v : Value} {l : List (List Value)} (h : JR E sz W base v l) (hg : W.grownBy W' v.ownBlock) : KeepsOthers W W' := by
  refine ⟨hg.size, fun i o hi ho => ?_⟩
  rw [hg.block i (Array.getElem?_eq_some_iff.1 hi).1 ?_]
  · exact hi
  · intro e
    obtain ⟨_, _, ⟨rfl, _⟩ | ⟨g', cap', cur, rfl, _, hh, _⟩⟩ := h
    · cases e
    · have e' : i = g' := by injection e
      subst e'
      rw [hi] at hh
      injection hh with hh
      rw [hh] at ho
      cases ho
variable {S : TypeId} {by_ : Nat} {z : Value}
/-- one more is put behind: r its cells, which lie in a block of their own -/
theorem run_append_jr (hS : Try.prog.underlying S = some (.slice E)) (hE : (Try.prog.info? E).map (fun i => (i.zero, i.size, i.bytes)) = some (some z, sz, by_)) (hz : z.cells.size = sz) (hsz : 0 < sz) (ty : TypeId) (w : World) (base : Nat) (v : Value) (l : List (List Value)) (hJ : JR E sz w base v l) (g c : Nat) (r : List Value) (hr : r.length = sz) (h1 : ∀ u ∈ r, u.oneCell' = true) (hc : ∀ j u, r[j]? = some u → w.cell? ⟨g, j, none⟩ = some u) (hb : (l.length + 1) * by_ ≤ 140737488355328) (hb2 : l.length + 1 ≤ maxLen) (hbase : base ≤ w.heap.size) :
    ∃ g' cap w', (Builtin.append_ #[S, S] ty #[v, .slice (some ⟨g, 0, none⟩) 1 c]).run Try.prog w = .ok (.slice (some ⟨g', 0, none⟩) (l.length + 1) cap) w' ∧ JR E sz w' base (.slice (some ⟨g', 0, none⟩) (l.length + 1) cap) (l ++ [r]) ∧ w.grownBy w' v.ownBlock ∧ (v.ownBlock = some g' ∨ g' = w.heap.size) := by
  obtain ⟨i0, hi, hz0, hz1, hz2⟩ := info_parts hE
  obtain ⟨g', cap, w', e1, h2, h3, h4, _⟩ := run_append_lies (P := Try.prog) w S ty base E i0 z sz by_ hS hi hz0 hz1 hz2 hz hsz v l.length l.flatten hJ.2 ⟨g, 0, none⟩ 1 c r (by omega) (fun j u hu => by
    have := hc j u hu
    rw [add_at, Nat.zero_add]; exact this) h1 (by omega) hb2 hb hbase w.heap.size rfl
  refine ⟨g', cap, w', e1, ⟨?_, ?_⟩, h3, h4⟩
  · intro q hq
    rcases List.mem_append.1 hq with hq | hq
    · exact hJ.1 q hq
    · rw [List.mem_singleton] at hq; subst hq; exact ⟨hr, h1⟩
  · rw [List.length_append, List.length_singleton, List.flatten_append, List.flatten_singleton]; exact h2
theorem wpListIn_append_jr {F : Fence} {d : Nat} (hS : Try.prog.underlying S = some (.slice E)) (hE : (Try.prog.info? E).map (fun i => (i.zero, i.size, i.bytes)) = some (some z, sz, by_)) (hz : z.cells.size = sz) (hsz : 0 < sz) (w : World) {ops : Array Oper} {rest : List Oper} {o : Oper} {a : Act} {Q : Exit → Act → World → Prop} (hgd : o.guard = none) (s x : Operand)
    (ho : o.op = .call { callee := .builtin .append, args := #[s, x], argTypes := #[S, S] })
    (base : Nat) (v : Value) (l : List (List Value)) (g c : Nat) (r : List Value) (hs : a.eval s = v) (hx : a.eval x = .slice (some ⟨g, 0, none⟩) 1 c) (hJ : JR E sz w base v l) (hr : r.length = sz) (h1 : ∀ u ∈ r, u.oneCell' = true) (hc : ∀ j u, r[j]? = some u → w.cell? ⟨g, j, none⟩ = some u) (n : Nat) (hn : l.length + 1 = n) (hb : n * by_ ≤ 140737488355328) (hb2 : n ≤ maxLen) (hbase : base ≤ w.heap.size)
    (h : ∀ g' cap w', JR E sz w' base (.slice (some ⟨g', 0, none⟩) n cap) (l ++ [r]) → w.grownBy w' v.ownBlock → (v.ownBlock = some g' ∨ g' = w.heap.size) → wpListIn F d Try.prog ops Q rest (a.put o.dst (.slice (some ⟨g', 0, none⟩) n cap)) w') : wpListIn F d Try.prog ops Q (o :: rest) a w := by
  subst hn
  refine wpListIn_plain hgd fun K hK => ?_
  obtain ⟨a', cap, w', hrr, h2, h3, h4⟩ := run_append_jr hS hE hz hsz o.type w base v l hJ g c r hr h1 hc hb hb2 hbase
  unfold Oper.wpIn
  refine ⟨?_, ?_⟩
  · simp [Oper.about, ho, resolve, Target.leads, Sem.run_pure]
  · rw [Oper.semAt_plain F _ _ (by rw [ho]; intro c hc'; cases hc')]
    simp [execOp, ho, resolve, invoke, builtin, hs, hx, hrr, Result.andThen]
    exact hK _ _ (h a' cap w' h2 h3 h4)
theorem wpList_append_jr (hS : Try.prog.underlying S = some (.slice E)) (hE : (Try.prog.info? E).map (fun i => (i.zero, i.size, i.bytes)) = some (some z, sz, by_)) (hz : z.cells.size = sz) (hsz : 0 < sz) (w : World) {ops : Array Oper} {rest : List Oper} {o : Oper} {a : Act} {Q : Exit → Act → World → Prop} (hgd : o.guard = none) (s x : Operand)
    (ho : o.op = .call { callee := .builtin .append, args := #[s, x], argTypes := #[S, S] })
    (base : Nat) (v : Value) (l : List (List Value)) (g c : Nat) (r : List Value) (hs : a.eval s = v) (hx : a.eval x = .slice (some ⟨g, 0, none⟩) 1 c) (hJ : JR E sz w base v l) (hr : r.length = sz) (h1 : ∀ u ∈ r, u.oneCell' = true) (hc : ∀ j u, r[j]? = some u → w.cell? ⟨g, j, none⟩ = some u) (n : Nat) (hn : l.length + 1 = n) (hb : n * by_ ≤ 140737488355328) (hb2 : n ≤ maxLen) (hbase : base ≤ w.heap.size)
    (h : ∀ g' cap w', JR E sz w' base (.slice (some ⟨g', 0, none⟩) n cap) (l ++ [r]) → w.grownBy w' v.ownBlock → (v.ownBlock = some g' ∨ g' = w.heap.size) → wpList Try.prog ops Q rest (a.put o.dst (.slice (some ⟨g', 0, none⟩) n cap)) w') : wpList Try.prog ops Q (o :: rest) a w := by
  subst hn
  refine wpList_plain hgd fun K hK => ?_
  obtain ⟨a', cap, w', hrr, h2, h3, h4⟩ := run_append_jr hS hE hz hsz o.type w base v l hJ g c r hr h1 hc hb hb2 hbase
  unfold Oper.wp execOp
  simp only [ho, resolve, invoke, builtin, Sem.run_bind, Sem.run_pure, Result.andThen_ok, List.map_toArray, List.map_cons, List.map_nil, hs, hx, hrr]
  exact hK _ _ (h a' cap w' h2 h3 h4)
end
end Vt
end Go.Proofs.Ytfnbfgkoicdiaaa
namespace Go.Proofs.Ytfnbfgkoicdiaaa
open Go.RowKit
namespace Vt
theorem run_index0 (a : Option Addr) (c : Nat) (cv : Int) (w : World) : (Extern.BytealgIndexByte.indexByte #[.slice a 0 c, .int .u8 cv]).run Try.prog w = .ok (.int .i64 (-1)) w := by
  cases a with
  | none => exact Lib.run_indexByteNil w 0 c cv
  | some x => 
    have hs := Lib.run_indexByteString (P := Try.prog) .empty cv w
    exact hs
set_option maxHeartbeats 1000000 in
set_option maxRecDepth 100000 in
theorem index_nil (a : Option Addr) (c : Nat) (w : World) :
    Calls Try.prog 61 #[.slice a 0 c, .int .u8 167] w fun e w' => e = .returned (.int .i64 (-1)) ∧ w' = w := by
  have L := ixLays
  have t3 := L.t3; have t5 := L.t5; have t37 := L.t37
  have a3 := L.a3; have a5 := L.a5; have a37 := L.a37
  have mixed := L.mixed; have z3 := L.z3; have v3 := L.v3; have z5 := L.z5; have v5 := L.v5; have z37 := L.z37; have v37 := L.v37
  go_enter Try.func61, Try.ntmps61
  go_wp2
  rw [run_callFunc_extern Try.func69 (by kernel_rfl) (by kernel_rfl) (by kernel_rfl) (e := Extern.BytealgIndexByte.indexByte) (by kernel_rfl), run_index0 a c 167 w]
  simp only [Result.andThen]
  rw [Oper.upon_value]
  go_wp2
  go_ret
  exact ⟨rfl, rfl⟩
set_option maxRecDepth 100000 in
set_option maxHeartbeats 400000 in
theorem next_nil (a : Option Addr) (c : Nat) (z : Int) (w : World) :
    Calls Try.prog 48 #[.slice a 0 c, .int .i64 z] w fun e w' => e = .returned (.int .i64 0) ∧ w' = w := by
  have e1 : min (max z 0) 0 = 0 := by omega
  have HC : Hid (∀ a, Calls Try.prog 61 #[.slice a 0 c, .int .u8 167] w fun e w' => e = .returned (.int .i64 (-1)) ∧ w' = w) := fun a => index_nil a c w
  cases a with
  | none =>
    go_enter Try.func48, Try.ntmps48
    go_wp2_with fail
    refine Calls.mono (HC.out _) ?_
    rintro e w' ⟨rfl, rfl⟩
    clear HC
    go_wp2_with fail
    go_ret
    exact ⟨rfl, rfl⟩
  | some x =>
    obtain ⟨b, o, s⟩ := x
    go_enter Try.func48, Try.ntmps48
    go_wp2_with fail
    refine Calls.mono (HC.out _) ?_
    rintro e w' ⟨rfl, rfl⟩
    clear HC
    go_wp2_with fail
    go_ret
    exact ⟨rfl, rfl⟩
theorem next_is (v : Value) (l : List Nat) (z : Int) (w : World) (hI : IsB w v l) :
    Calls Try.prog 48 #[v, .int .i64 z] w fun e w' => e = .returned (.int .i64 ((nxt l z : Nat) : Int)) ∧ w' = w := by
  obtain ⟨hb, hm, ⟨rfl, a, c, rfl⟩ | ⟨b, off, c, rfl, h1, h2, h3, h4⟩⟩ := hI
  · have : nxt [] z = 0 := by unfold nxt frm; simp [nx]
    rw [this]; exact next_nil a c z w
  · exact next_row b off c l z w hb h4 h1 h2
end Vt
end Go.Proofs.Ytfnbfgkoicdiaaa
namespace Go.Proofs.Ytfnbfgkoicdiaaa
open Go.RowKit Go.Shelf
namespace Vt
end Vt
end Go.Proofs.Ytfnbfgkoicdiaaa
namespace Go.Proofs.Ytfnbfgkoicdiaaa
open Go.RowKit Go.Shelf
namespace Vt
attribute [local go_sem] Oper.semAt_some
/-- 'scan.located(b, from)': both are boxed; the function value captures the boxes. -/
theorem located_is (a : Option Addr) (len cap : Nat) (z : Int) (w : World) :
    Calls Try.prog 33 #[.slice a len cap, .int .i64 z] w fun e w' => e = .returned (.func (.func 47) #[] #[.pointer (some ⟨w.heap.size, 0, none⟩), .pointer (some ⟨w.heap.size + 1, 0, none⟩)]) ∧ w' = (w.alloc (.cells #[.slice a len cap] 25)).alloc (.cells #[.int .i64 z] 3) := by
  go_enter Try.func33, Try.ntmps33
  go_wp2
  go_ret
  exact ⟨rfl, rfl⟩
/-- what is told: a place, a length, a frame that may be -/
abbrev PL (B : Nat) := { x : Lc // x.1 + x.2.1 ≤ B ∧ 9 ≤ x.2.1 ∧ rf x.2.2 = 0 ∧ x.2.2.Wf }
/-- its cells -/
def lcv (x : Lc) : List Value := [.int .i64 x.2.2.kind, .int .u64 (x.2.2.r.lsn : Int), .int .i64 x.2.2.r.kind, .string x.2.2.r.key, .string x.2.2.r.val, .int .u64 (x.2.2.p.lsn : Int), .int .i64 x.2.2.p.kind, .int .i64 x.2.2.p.at_, .int .i64 x.2.2.p.len, .string x.2.2.p.key, .int .i64 x.2.2.e.count, .int .i64 x.2.2.e.bytes, .int .i64 x.2.2.e.frames, .int .u32 (x.2.2.e.sum : Int), .int .i64 (x.1 : Int), .int .i64 (x.2.1 : Int)]
abbrev encl {B : Nat} (x : PL B) : Array Value := #[.agg (lcv x.1).toArray]
theorem nxt_at {l : List Nat} {k : Nat} (h : k ≤ l.length) : nxt l (k : Int) = k + nx (l.drop k) := by
  unfold nxt frm; rw [Int.toNat_natCast, Nat.min_eq_left h]
theorem nxt_le (l : List Nat) (z : Int) : nxt l z ≤ l.length := by
  unfold nxt
  have h1 : frm l.length z ≤ l.length := by unfold frm; omega
  have h2 := nx_le (l.drop (frm l.length z))
  rw [List.length_drop] at h2
  omega
theorem locs_nxt {l : List Nat} (hb : Byt l) (z : Int) : locs (frm l.length z) (l.drop (frm l.length z)) = locs (nxt l z) (l.drop (nxt l z)) := by
  have := locs_next (byt_drop hb (frm l.length z)) (frm l.length z)
  rw [List.drop_drop] at this
  exact this
theorem grown_of_below {w w' : World} (h : Below w.heap.size w w') : w.grownBy w' none := ⟨h.os, h.tape, h.output, h.size, fun k hk _ => h.block k hk⟩
set_option maxRecDepth 100000 in
set_option maxHeartbeats 2000000 in
theorem located1_in (n : Nat) (hn : 1 ≤ n) (B : Nat) (S : Nat → Prop) (l Bs Bf b off cap : Nat) (z : Int) (zs : List Nat) (hzB : zs.length ≤ B) (hz : Byt zs) (hlc : zs.length ≤ cap) (hcm : cap ≤ maxLen) (hb : S b) (hBn : S Bs) (J Jx : List (PL B) → World → Prop) (W : World) (hSl : ∀ k, S k → k < W.heap.size) (hJa : AbidesFrom W.heap.size J)
    (hY : ∀ pre x W, J pre W → pre.length < zs.length → YieldAt Fence.wide (n - 1) Try.prog l (encl x) W fun e W' =>
      (e = .returned (.bool true) ∧ J (pre ++ [x]) W' ∧ KeepS S W W') ∨ (e = .returned (.bool false) ∧ Jx (pre ++ [x]) W'))
    (hBs : W.cell? ⟨Bs, 0, none⟩ = some (.slice (some ⟨b, off, none⟩) zs.length cap)) (hBf : W.cell? ⟨Bf, 0, none⟩ = some (.int .i64 z)) (hbW : b < W.heap.size) (hc : Row W b off zs) (h0 : J [] W) :
    CallsIn Fence.wide n Try.prog 47 #[.func (.yield l) #[] #[], .pointer (some ⟨Bs, 0, none⟩), .pointer (some ⟨Bf, 0, none⟩)] W fun e W' => (∃ v, e = .returned v) ∧
      ((∃ ys : List (PL B), ys.map Subtype.val = locs (frm zs.length z) (zs.drop (frm zs.length z)) ∧ J ys W') ∨ (∃ pre : List (PL B), pre.map Subtype.val <+: locs (frm zs.length z) (zs.drop (frm zs.length z)) ∧ Jx pre W')) := by
  have hmm := hcm
  unfold maxLen at hmm
  have hI0 : IsB W (.slice (some ⟨b, off, none⟩) zs.length cap) zs := ⟨hz, by omega, .inr ⟨b, off, cap, rfl, hlc, hcm, hbW, hc⟩⟩
  have HN0 := hd ((callsIn_wide (n := n - 1)).2 (next_is _ zs z W hI0))
  have hn0 := nxt_le zs z
  have HL0 := hd (locs_nxt hz z)
  have hll : (locs (frm zs.length z) (zs.drop (frm zs.length z))).length ≤ zs.length := by
    have := locs_len (byt_drop hz (frm zs.length z)) _ (Nat.le_refl _) (frm zs.length z)
    rw [List.length_drop] at this
    omega
  obtain ⟨LL, hLL⟩ : ∃ LL, LL = locs (frm zs.length z) (zs.drop (frm zs.length z)) := ⟨_, rfl⟩
  rw [← hLL] at HL0 hll ⊢
  have HLL := hd hll
  clear hLL hll hI0
  generalize nxt zs z = a0 at *
  refine callsIn_of_wp Try.func47 rfl trivial ?_ rfl
  simp only [Try.ntmps47, List.size_toArray, List.length_cons, List.length_nil, Nat.reduceAdd, Nat.reduceSub, Array.replicate_succ, Array.replicate_zero, List.push_toArray, List.append_toArray, List.nil_append, List.cons_append]
  gi_wp2
  refine ⟨trivial, CallsIn.mono HN0.out ?_⟩
  rintro e w' ⟨rfl, hw'⟩
  have hw2 := hw'.symm
  subst hw2
  clear HN0 hw'
  gi_wp2
  gi_loopw [4] (fun i wr => ∃ (at_ : Nat) (pre : List (PL B)), at_ ≤ zs.length ∧ i = .int .i64 (at_ : Int) ∧ LL = pre.map Subtype.val ++ locs at_ (zs.drop at_) ∧ J pre wr ∧ KeepS S W wr) (fun i _ => zs.length - (intOf i).toNat)
  case atStart => exact ⟨a0, [], hn0, rfl, HL0.out, h0, KeepS.refl _⟩
  case round =>
    obtain ⟨at_, pre, hat, rfl, hall, hJs, hnx⟩ := hrel
    have HALL := hd hall
    have hcb : wr.cell? ⟨Bs, 0, none⟩ = some (.slice (some ⟨b, off, none⟩) zs.length cap) := (hnx.cell (p := ⟨Bs, 0, none⟩) hBn).trans hBs
    clear hall
    by_cases hlt : at_ < zs.length
    · have hI : IsB wr (.slice (some ⟨b, off, none⟩) zs.length cap) zs := ⟨hz, by omega, .inr ⟨b, off, cap, rfl, hlc, hcm, Nat.lt_of_lt_of_le hbW hnx.size, fun k hk => (hnx.cell (p := ⟨b, off + k, none⟩) hb).trans (hc k hk)⟩⟩
      have HC := hd ((callsIn_wide (n := n - 1)).2 (decode_all _ zs (at_ : Int) wr hI))
      have hlat : (zs.drop at_).length = zs.length - at_ := List.length_drop
      have hdec : decF zs (at_ : Int) = dcd (zs.drop at_) := by unfold decF; rw [if_neg (by omega), Int.toNat_natCast]
      rw [hdec] at HC
      have hbd := byt_drop hz at_
      by_cases he : (dcd (zs.drop at_)).2.2 = 0
      · obtain ⟨k1, k2, k3, k4, k5⟩ := en_dcd hbd he
        have hp := en_pos (dcd (zs.drop at_)).1
        have hok := locs_ok hbd at_ he
        rw [hlat] at k4
        obtain ⟨f, q, er, hdd⟩ : ∃ f q er, dcd (zs.drop at_) = (f, q, er) := ⟨_, _, _, rfl⟩
        rw [hdd] at he k1 k2 k3 k4 hp hok HC
        simp only [List.drop_drop] at he k1 k2 k3 k4 hp hok
        subst he
        have hq9 : 9 ≤ q := by omega
        have hlen2 : pre.length < zs.length := by
          have h1 := HLL.out
          rw [HALL.out, hok, List.length_append, List.length_map, List.length_cons] at h1
          omega
        have hnl := locs_next (byt_drop hz (at_ + q)) (at_ + q)
        rw [List.drop_drop] at hnl
        have hnq := nx_le (zs.drop (at_ + q))
        rw [List.length_drop] at hnq
        have hnt := nxt_at (l := zs) (k := at_ + q) (by omega)
        rw [hnl] at hok
        obtain ⟨xx, hxx⟩ : ∃ xx : PL B, xx.1 = (at_, q, f) := ⟨⟨(at_, q, f), by show at_ + q ≤ B; omega, hq9, k1, k2⟩, rfl⟩
        have HOK := hd hok
        clear hok hdd hdec hnl k1 k2 k3 k5 hp hbd
        obtain ⟨k, ⟨rl, rk, rkey, rval⟩, ⟨pl, pk, pa, pn, pkey⟩, ⟨ec, eb, ef, es⟩⟩ := f
        have HXX := hd hxx
        have hJn : ∀ wq, Below wr.heap.size wr wq → J pre wq := fun wq hq => hJa pre wr wq none hJs (grown_of_below hq) (by intro r e; cases e)
        have HY : Hid (∀ wq, Below wr.heap.size wr wq → YieldAt Fence.wide (n - 1) Try.prog l #[.agg #[.int .i64 k, .int .u64 (rl : Int), .int .i64 rk, .string rkey, .string rval, .int .u64 (pl : Int), .int .i64 pk, .int .i64 pa, .int .i64 pn, .string pkey, .int .i64 ec, .int .i64 eb, .int .i64 ef, .int .u32 (es : Int), .int .i64 (at_ : Int), .int .i64 (q : Int)]] wq fun e W' =>
            (e = .returned (.bool true) ∧ J (pre ++ [xx]) W' ∧ KeepS S wq W') ∨ (e = .returned (.bool false) ∧ Jx (pre ++ [xx]) W')) := by
          intro wq hq
          have := hY pre xx wq (hJn wq hq) hlen2
          have e1 : encl xx = #[.agg #[.int .i64 k, .int .u64 (rl : Int), .int .i64 rk, .string rkey, .string rval, .int .u64 (pl : Int), .int .i64 pk, .int .i64 pa, .int .i64 pn, .string pkey, .int .i64 ec, .int .i64 eb, .int .i64 ef, .int .u32 (es : Int), .int .i64 (at_ : Int), .int .i64 (q : Int)]] := by
            unfold encl; rw [hxx]; rfl
          rwa [e1] at this
        have HNX := hd hnx
        have HDV : Hid (dval (⟨k, ⟨rl, rk, rkey, rval⟩, ⟨pl, pk, pa, pn, pkey⟩, ⟨ec, eb, ef, es⟩⟩, q, 0) = .tuple #[.agg #[.int .i64 k, .int .u64 (rl : Int), .int .i64 rk, .string rkey, .string rval, .int .u64 (pl : Int), .int .i64 pk, .int .i64 pa, .int .i64 pn, .string pkey, .int .i64 ec, .int .i64 eb, .int .i64 ef, .int .u32 (es : Int)], .int .i64 (q : Int), .int .i64 0]) := rfl
        rw [HDV.out] at HC
        clear hY hxx HDV hJn hI
        have HIN : Hid (∀ wq, KeepS S W wq → IsB wq (.slice (some ⟨b, off, none⟩) zs.length cap) zs) := fun wq hq => ⟨hz, by omega, .inr ⟨b, off, cap, rfl, hlc, hcm, Nat.lt_of_lt_of_le hbW hq.size, fun k hk => (hq.cell (p := ⟨b, off + k, none⟩) hb).trans (hc k hk)⟩⟩
        gi_wp2
        refine ⟨trivial, CallsIn.mono HC.out ?_⟩
        rintro e w1 ⟨rfl, hb1⟩
        have HB1 := hd hb1
        have hs1 := hb1.size
        clear HC hb1
        have HB2 : Hid (Below wr.heap.size wr (w1.alloc (.cells #[.int .i64 k, .int .u64 (rl : Int), .int .i64 rk, .string rkey, .string rval, .int .u64 (pl : Int), .int .i64 pk, .int .i64 pa, .int .i64 pn, .string pkey, .int .i64 ec, .int .i64 eb, .int .i64 ef, .int .u32 (es : Int)] 40))) := HB1.out.alloc hs1 _
        obtain ⟨fn, tmps, assign, body, hy, hR⟩ := HY.out _ HB2.out
        have HR := hd hR
        clear HY hR
        have hSl2 : ∀ k, S k → k < wr.heap.size := fun k hk => Nat.lt_of_lt_of_le (hSl k hk) HNX.out.size
        have HK2 : Hid (KeepS S W (w1.alloc (.cells #[.int .i64 k, .int .u64 (rl : Int), .int .i64 rk, .string rkey, .string rval, .int .u64 (pl : Int), .int .i64 pk, .int .i64 pa, .int .i64 pn, .string pkey, .int .i64 ec, .int .i64 eb, .int .i64 ef, .int .u32 (es : Int)] 40))) := HNX.out.trans (KeepS.of_below HB2.out hSl2)
        clear hSl2
        gi_wp2
        refine HR.out.mono ?_
        rintro e W3 (⟨rfl, hJ3, hk3⟩ | ⟨rfl, hJx3⟩)
        · have HK3 := hd (HK2.out.trans hk3)
          have hcb3 : W3.cell? ⟨Bs, 0, none⟩ = some (.slice (some ⟨b, off, none⟩) zs.length cap) := (HK3.out.cell (p := ⟨Bs, 0, none⟩) hBn).trans hBs
          have HN3 := hd ((callsIn_wide (n := n - 1)).2 (next_is _ zs ((at_ + q : Nat) : Int) W3 (HIN.out W3 HK3.out)))
          rw [hnt] at HN3
          have HQ := hd hnq
          generalize hgx : nx (zs.drop (at_ + q)) = nn at *
          have hcast : ((at_ + q : Nat) : Int) = (at_ : Int) + (q : Int) := by omega
          rw [hcast] at HN3
          clear hcast hnt hgx hcb hnx
          gi_wp2
          refine ⟨trivial, CallsIn.mono HN3.out ?_⟩
          rintro e w' ⟨rfl, hw'⟩
          subst hw'
          clear HN3
          gi_wp2
          go_roundw
          case rel => exact ⟨at_ + q + nn, pre ++ [xx], by have := HQ.out; omega, rfl, by rw [HALL.out, HOK.out, List.map_append, List.append_assoc, List.map_singleton, HXX.out]; rfl, hJ3, HK3.out⟩
          case measure => simp [intOf]; omega
        · gi_wp2
          refine bodyPost_ret (results_none rfl _ _ _) rfl ?_
          exact ⟨⟨_, rfl⟩, .inr ⟨pre ++ [xx], ⟨_, by rw [HALL.out, HOK.out, List.map_append, List.append_assoc, List.map_singleton, HXX.out]; rfl⟩, hJx3⟩⟩
      · obtain ⟨k1, k2⟩ := dcd_err he
        have hok := locs_err (at_ := at_) he
        rw [List.drop_drop] at hok
        have hnl := locs_next (byt_drop hz (at_ + 1)) (at_ + 1)
        rw [List.drop_drop] at hnl
        have hnq := nx_le (zs.drop (at_ + 1))
        rw [List.length_drop] at hnq
        have hnt := nxt_at (l := zs) (k := at_ + 1) (by omega)
        rw [hnl] at hok
        have HOK := hd hok
        obtain ⟨f, q, er, hdd⟩ : ∃ f q er, dcd (zs.drop at_) = (f, q, er) := ⟨_, _, _, rfl⟩
        rw [hdd] at he k1 k2 HC
        simp only at he k1 k2
        subst k1 k2
        rw [dval_zf] at HC
        have he2 : ((er : Int) != 0) = true := by simp; omega
        have HNX := hd hnx
        have hJn : ∀ wq, Below wr.heap.size wr wq → J pre wq := fun wq hq => hJa pre wr wq none hJs (grown_of_below hq) (by intro r e; cases e)
        have HJn := hd hJn
        have HIN : Hid (∀ wq, KeepS S W wq → IsB wq (.slice (some ⟨b, off, none⟩) zs.length cap) zs) := fun wq hq => ⟨hz, by omega, .inr ⟨b, off, cap, rfl, hlc, hcm, Nat.lt_of_lt_of_le hbW hq.size, fun k hk => (hq.cell (p := ⟨b, off + k, none⟩) hb).trans (hc k hk)⟩⟩
        clear hok hdd hdec hnl hbd hY hI hJn
        gi_wp2
        refine ⟨trivial, CallsIn.mono HC.out ?_⟩
        rintro e w1 ⟨rfl, hb1⟩
        have HB1 := hd hb1
        have hs1 := hb1.size
        clear HC hb1
        have HB2 : Hid (Below wr.heap.size wr (w1.alloc (.cells #[.int .i64 0, .int .u64 0, .int .i64 0, .string ⟨#[]⟩, .string ⟨#[]⟩, .int .u64 0, .int .i64 0, .int .i64 0, .int .i64 0, .string ⟨#[]⟩, .int .i64 0, .int .i64 0, .int .i64 0, .int .u32 0] 40))) := HB1.out.alloc hs1 _
        have HJ2 := hd (HJn.out _ HB2.out)
        have hSl2 : ∀ k, S k → k < wr.heap.size := fun k hk => Nat.lt_of_lt_of_le (hSl k hk) HNX.out.size
        have HK3 := hd (HNX.out.trans (KeepS.of_below HB2.out hSl2))
        obtain ⟨W3, hW3⟩ : ∃ W3, W3 = (w1.alloc (.cells #[.int .i64 0, .int .u64 0, .int .i64 0, .string ⟨#[]⟩, .string ⟨#[]⟩, .int .u64 0, .int .i64 0, .int .i64 0, .int .i64 0, .string ⟨#[]⟩, .int .i64 0, .int .i64 0, .int .i64 0, .int .u32 0] 40)) := ⟨_, rfl⟩
        rw [← hW3] at HJ2 HK3
        have hcb3 : W3.cell? ⟨Bs, 0, none⟩ = some (.slice (some ⟨b, off, none⟩) zs.length cap) := (HK3.out.cell (p := ⟨Bs, 0, none⟩) hBn).trans hBs
        have HN3 := hd ((callsIn_wide (n := n - 1)).2 (next_is _ zs ((at_ + 1 : Nat) : Int) W3 (HIN.out W3 HK3.out)))
        rw [hnt] at HN3
        have HQ := hd hnq
        generalize hgx : nx (zs.drop (at_ + 1)) = nn at *
        have hcast : ((at_ + 1 : Nat) : Int) = (at_ : Int) + 1 := by omega
        rw [hcast] at HN3
        clear hcast hnt hgx hcb hnx HB2 HJn hSl2
        rw [hW3] at hcb3 HN3
        gi_wp2
        refine ⟨trivial, CallsIn.mono HN3.out ?_⟩
        rintro e w' ⟨rfl, hw'⟩
        subst hw'
        clear HN3
        rw [← hW3]
        gi_wp2
        go_roundw
        case rel =>
          rw [hW3] at HJ2 HK3
          exact ⟨at_ + 1 + nn, pre, by have := HQ.out; omega, rfl, by rw [HALL.out, HOK.out], HJ2.out, HK3.out⟩
        case measure => simp [intOf]; omega
    · obtain rfl : at_ = zs.length := by omega
      rw [List.drop_length, locs_nil, List.append_nil] at HALL
      gi_wp2
      go_end0
      exact ⟨⟨_, rfl⟩, .inl ⟨_, HALL.out.symm, hJs⟩⟩
set_option maxRecDepth 100000 in
set_option maxHeartbeats 1000000 in
/-- .. at an empty list: no round. -/
theorem located1_nil_in {B : Nat} (n : Nat) (hn : 1 ≤ n) (l Bs Bf : Nat) (a : Option Addr) (c : Nat) (z : Int) (J : List (PL B) → World → Prop) (W : World) (hBs : W.cell? ⟨Bs, 0, none⟩ = some (.slice a 0 c)) (hBf : W.cell? ⟨Bf, 0, none⟩ = some (.int .i64 z)) (h0 : J [] W) :
    CallsIn Fence.wide n Try.prog 47 #[.func (.yield l) #[] #[], .pointer (some ⟨Bs, 0, none⟩), .pointer (some ⟨Bf, 0, none⟩)] W fun e W' => (∃ v, e = .returned v) ∧ J [] W' := by
  have HN0 := hd ((callsIn_wide (n := n - 1)).2 (next_nil a c z W))
  refine callsIn_of_wp Try.func47 rfl trivial ?_ rfl
  simp only [Try.ntmps47, List.size_toArray, List.length_cons, List.length_nil, Nat.reduceAdd, Nat.reduceSub, Array.replicate_succ, Array.replicate_zero, List.push_toArray, List.append_toArray, List.nil_append, List.cons_append]
  gi_wp2
  refine ⟨trivial, CallsIn.mono HN0.out ?_⟩
  rintro e w' ⟨rfl, hw'⟩
  have hw2 := hw'.symm
  subst hw2
  clear HN0 hw'
  gi_wp2
  gi_loopw [4] (fun i wr => i = .int .i64 0 ∧ wr = W) (fun _ _ => 0)
  case atStart => exact ⟨rfl, rfl⟩
  case round =>
    obtain ⟨rfl, rfl⟩ := hrel
    gi_wp2
    go_end0
    exact ⟨⟨_, rfl⟩, h0⟩
/-- scan.located HANDS BACK A VALUE THAT tells all of 'locs' from a place on, in order; or a beginning of it. -/
theorem located_stops (n : Nat) (hn : 1 ≤ n) (B : Nat) (S : Nat → Prop) (Bs Bf : Nat) (sv : Value) (z : Int) (zs : List Nat) (w : World) (hzB : zs.length ≤ B) (hBs : S Bs) (hBl : Bs < w.heap.size) (hBf : Bf < w.heap.size) (hSl : ∀ k, S k → k < w.heap.size)
    (hc : w.cell? ⟨Bs, 0, none⟩ = some sv) (hcf : w.cell? ⟨Bf, 0, none⟩ = some (.int .i64 z)) (hI : IsB w sv zs) (hlow : ∀ b off c, zs ≠ [] → sv = .slice (some ⟨b, off, none⟩) zs.length c → S b) :
    SeqStopsK Fence.wide n Try.prog 47 #[.pointer (some ⟨Bs, 0, none⟩), .pointer (some ⟨Bf, 0, none⟩)] (encl (B := B)) (KeepS S) (fun ys => ys.map Subtype.val = locs (frm zs.length z) (zs.drop (frm zs.length z))) (fun pre => pre.map Subtype.val <+: locs (frm zs.length z) (zs.drop (frm zs.length z))) zs.length w := fun l J Jx W hW hJ _ hY h0 => by
  have hc' := (hW.cell (p := ⟨Bs, 0, none⟩) hBl).trans hc
  have hcf' := (hW.cell (p := ⟨Bf, 0, none⟩) hBf).trans hcf
  have hI' := hI.below hW
  have hSl' : ∀ k, S k → k < W.heap.size := fun k hk => Nat.lt_of_lt_of_le (hSl k hk) hW.size
  obtain ⟨hz, _, ⟨rfl, a, c, rfl⟩ | ⟨b, off, c, rfl, h1, h2, h3, hr⟩⟩ := hI'
  · exact (located1_nil_in n hn l Bs Bf a c z J W hc' hcf' h0).mono fun e W' ⟨he, hj⟩ => ⟨he, .inl ⟨[], by simp [locs], hj⟩⟩
  · by_cases hne : zs = []
    · subst hne
      exact (located1_nil_in n hn l Bs Bf _ c z J W hc' hcf' h0).mono fun e W' ⟨he, hj⟩ => ⟨he, .inl ⟨[], by simp [locs], hj⟩⟩
    · exact located1_in n hn B S l Bs Bf b off c z zs hzB hz h1 h2 (hlow b off c hne rfl) hBs J Jx W hSl' hJ hY hc' hcf' h3 hr h0
end Vt
end Go.Proofs.Ytfnbfgkoicdiaaa
