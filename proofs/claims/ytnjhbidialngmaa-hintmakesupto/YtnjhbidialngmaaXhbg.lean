/-
  THE REFERENCE OF LAYER 4: Decode of any bytes at any place says what the program's says.
  'KeepS S': all blocks of the set S lie as they lay (and the streams, the tape): what a round over an iterator keeps, where boxes that it writes lie among others.
  'append' onto a row of integers of the call's own, for the walk within a fence (functions with ranges over iterators).
  ROWS OF STRUCTS OF THE CALL'S OWN ('JR': elements of sz cells each): 'append' of one more as a law for the walk, within a fence and without; what is read at a place.
-/
import Derived.Test.YtnjhbidialngmaaXhbf
import Derived.Test.YtnjhbidialngmaaXhac
import Derived.RangeFuncNested
import Derived.RangeFuncBound
import Derived.RangeFuncCalls
import Derived.RangeFuncLeaves
import Derived.Shelf.Abstract
import Derived.Shelf.RegionOpen
import Derived.OwnWalkIn
import Derived.TacticsInMore
import Derived.LoopNIn
import Derived.LoopIn
import Derived.Deep.RegionLaw
namespace Go.Proofs.Ytnjhbidialngmaa
open Go.RowKit
namespace Vt
theorem dcd_rl {m : List Nat} {e : Nat} (h : rl m = (0, e)) (he : e ≠ 0) : dcd m = (zf, 0, e) := by
  unfold dcd
  rw [h]
  simp only
  rw [if_pos he]
theorem r4_decode (v : Value) (l : List Nat) (z : Int) (w : World) (hI : IsB w v l) (hm : l.length ≤ 9223372036854775000) :
    Calls Try.prog 67 #[v, .int .i64 z] w fun e w' => e = .returned (dval (decF l z)) ∧ Below w.heap.size w w' := by
  by_cases h : z < 0 ∨ (l.length : Int) ≤ z
  · have e : decF l z = (zf, 0, 40) := by unfold decF; rw [if_pos h]
    rw [e]
    exact r4dec_arg v l z w hI h
  · obtain ⟨a, rfl⟩ : ∃ a : Nat, z = (a : Int) := ⟨z.toNat, by omega⟩
    have ha : a < l.length := by omega
    have e : decF l (a : Int) = dcd (l.drop a) := by unfold decF; rw [if_neg h, Int.toNat_natCast]
    rw [e]
    obtain ⟨b, off, c, rfl⟩ : ∃ b off c, v = .slice (some ⟨b, off, none⟩) l.length c := by
      obtain ⟨_, _, ⟨q, _⟩ | ⟨b, off, c, e, _⟩⟩ := hI
      · rw [q] at ha; simp at ha
      · exact ⟨b, off, c, e⟩
    by_cases h7 : l.getD a 0 = 167
    · have h7' : (l.drop a).getD 0 0 = 167 := by rw [getD_drop0]; exact h7
      by_cases hg : ∀ x ∈ dig (l.drop a), x < 128
      · have hn2 := dig_nm hg
        by_cases h4 : (l.drop a).length < 4
        · rw [dcd_rl (rl_43 h7' hg (.inl h4)) (by decide)]
          exact r4dec_len b off c a l w hI ha hm h7 43 (lnR_43 hg h4) (by decide)
        · by_cases h9 : l.length < a + nm (dig (l.drop a)) + 9
          · rw [dcd_rl (rl_43 h7' hg (.inr (by rw [List.length_drop]; omega))) (by decide)]
            exact r4dec_short b off c a l w hI ha hm h7 _ (lnR_0 hg h4) hn2 h9
          · exact r4dec_main b off c a l w hI ha hm h7 _ (lnR_0 hg h4) hn2 (by omega) (rl_0 h7' hg (by omega) (by rw [List.length_drop]; omega))
      · rw [dcd_rl (rl_42 h7' hg) (by decide)]
        exact r4dec_len b off c a l w hI ha hm h7 42 (lnR_42 hg) (by decide)
    · rw [dcd_rl (rl_41 (by rw [getD_drop0]; exact h7)) (by decide)]
      exact r4dec_lead b off c a l w hI ha h7
end Vt
end Go.Proofs.Ytnjhbidialngmaa
namespace Go.Proofs.Ytnjhbidialngmaa
open Go.RowKit Go.Shelf
namespace Vt
structure KeepS (S : Nat → Prop) (w w' : World) : Prop where
  os : w'.os = w.os
  tape : w'.tape = w.tape
  output : w'.output = w.output
  size : w.heap.size ≤ w'.heap.size
  block : ∀ k, S k → w'.heap[k]? = w.heap[k]?
section
variable {S : Nat → Prop}
theorem KeepS.refl (w : World) : KeepS S w w := ⟨rfl, rfl, rfl, Nat.le_refl _, fun _ _ => rfl⟩
theorem KeepS.trans {a b c : World} (h : KeepS S a b) (k : KeepS S b c) : KeepS S a c :=
  ⟨k.os.trans h.os, k.tape.trans h.tape, k.output.trans h.output, Nat.le_trans h.size k.size, fun i hi => (k.block i hi).trans (h.block i hi)⟩
theorem KeepS.of_below {n : Nat} {a b : World} (h : Below n a b) (hS : ∀ k, S k → k < n) : KeepS S a b := ⟨h.os, h.tape, h.output, h.size, fun i hi => h.block i (hS i hi)⟩
theorem KeepS.below {n : Nat} {a b : World} (h : KeepS S a b) (hS : ∀ k, k < n → S k) : Below n a b := ⟨h.os, h.tape, h.output, h.size, fun i hi => h.block i (hS i hi)⟩
theorem KeepS.cell {a b : World} (h : KeepS S a b) {p : Addr} (hp : S p.block) : b.cell? p = a.cell? p := World.cell?_of_block (w := a) (h.block p.block hp)
theorem KeepS.setCell {a b : World} (h : KeepS S a b) {p : Addr} (hp : ¬ S p.block) (u : Value) : KeepS S a (b.setCell p u) :=
  h.trans ⟨rfl, rfl, rfl, by simp [World.setCell], fun k hk => Below.heap_setCell _ _ _ _ (fun e => hp (by first | rw [← e]; exact hk | rw [e]; exact hk))⟩
theorem KeepS.grown {a b c : World} {row : Option Nat} (h : KeepS S a b) (hg : b.grownBy c row) (hS : ∀ k, S k → k < b.heap.size) (hr : ∀ k, row = some k → ¬ S k) : KeepS S a c :=
  h.trans ⟨hg.os, hg.tape, hg.output, hg.size, fun k hk => hg.block k (hS k hk) (fun e => hr k e.symm hk)⟩
theorem KeepS.alloc {a b : World} (h : KeepS S a b) (hS : ∀ k, S k → k < b.heap.size) (o : Obj) : KeepS S a (b.alloc o) :=
  h.trans ⟨rfl, rfl, rfl, by simp, fun k hk => Below.heap_alloc _ _ _ (hS k hk)⟩
theorem KeepS.drewN {a b : World} (h : KeepS S a b) (n : Nat) : KeepS S a (b.drewN n) := h.trans ⟨rfl, rfl, rfl, Nat.le_refl _, fun _ _ => rfl⟩
theorem KeepS.drew {a b : World} (h : KeepS S a b) : KeepS S a b.drew := h.trans ⟨rfl, rfl, rfl, Nat.le_refl _, fun _ _ => rfl⟩
theorem keepS_t {A B C : World} (h : KeepS S A B) (k : KeepS S B C) : KeepS S A C := h.trans k
theorem keepS_b {w : World} (hS : ∀ k, S k → k < w.heap.size) (W : World) (l : Nat) (o o' : Obj) (hl : w.heap.size ≤ l) (h : W.heap[l]? = some o) (_ : o.isCells = false) (_ : o.isWalk = false) : KeepS S W (W.putObj l o') := by
  have hg := grownBy_putObj' W l o'
  refine ⟨hg.os, hg.tape, hg.output, hg.size, fun k hk => hg.block k ?_ ?_⟩
  · have := (Array.getElem?_eq_some_iff.1 h).1
    have := hS k hk
    omega
  · intro e
    injection e with e
    have := hS k hk
    omega
theorem boxed_keepS {W W' : World} {B : Nat} {t : TypeId} {v : Value} (h : Boxed W B t v) (hB : S B) (hb : KeepS S W W') : Boxed W' B t v := (hb.block B hB).trans h
end
theorem boxed_below {W W' : World} {B n : Nat} {t : TypeId} {v : Value} (h : Boxed W B t v) (hB : B < n) (hb : Below n W W') : Boxed W' B t v := (hb.block B hB).trans h
end Vt
end Go.Proofs.Ytnjhbidialngmaa
namespace Go.Proofs.Ytnjhbidialngmaa
open Go.RowKit Go.Shelf
namespace Vt
/-- a function with ranges over iterators that returns: no other way out -/
def bodyPostF (F : Fence) (n : Nat) (P : Program) (fn : Func) (R : Ending → World → Prop) : Exit → Act → World → Prop
  | .normal, a, w | .ret, a, w => LeavesInM F n P fn a.tmps R a.defers .returning w
  | _, _, _ => False
theorem bodyPostF_M {F : Fence} {n : Nat} {P : Program} {fn : Func} {R : Ending → World → Prop} : ∀ e a w, bodyPostF F n P fn R e a w → bodyPostM F n P fn R e a w := by
  intro e a w h
  cases e with
  | normal => exact h
  | ret => exact h
  | _ => exact h.elim
/-- append, left standing by the walk: its run is handed in as an equation -/
def apH (ats : Array TypeId) (ty : TypeId) (args : Array Value) : Sem Value := Builtin.append_ ats ty args
theorem append_hide (ats : Array TypeId) (ty : TypeId) (args : Array Value) : Builtin.append_ ats ty args = apH ats ty args := rfl
section
variable {k : IntKind} {M : Nat} {E S : TypeId} {by_ : Nat}
theorem JK.drew {w : World} {base : Nat} {v : Value} {l : List Nat} (h : JK k M E w base v l) : JK k M E w.drew base v l := h
theorem JK.drewN {w : World} {base : Nat} {v : Value} {l : List Nat} (h : JK k M E w base v l) (n : Nat) : JK k M E (w.drewN n) base v l := h
/-- a turn of what is no cells leaves the row -/
theorem JK.kept {w w' : World} {base : Nat} {row : Option Nat} {v : Value} {l : List Nat} (h : JK k M E w base v l) (hg : w.grownBy w' row) (hr : ∀ r, row = some r → ∃ o : Obj, w.heap[r]? = some o ∧ o.isCells = false) : JK k M E w' base v l := by
  refine h.grownO hg fun g hgb e => ?_
  obtain ⟨o, ho, hc⟩ := hr g e.symm
  obtain ⟨_, _, ⟨rfl, _⟩ | ⟨g', cap', cur, rfl, hbs, hh, _⟩⟩ := h
  · cases hgb
  · cases hgb
    have : some o = some (.cells cur E (0, 0)) := ho.symm.trans hh
    injection this with this
    rw [this] at hc
    cases hc
theorem Boxed.keptO {W W' : World} {row : Option Nat} {B : Nat} {t : TypeId} {v : Value} (h : Boxed W B t v) (hg : W.grownBy W' row) (hr : ∀ r, row = some r → ∃ o : Obj, W.heap[r]? = some o ∧ o.isCells = false) : Boxed W' B t v := by
  refine h.kept hg fun e => ?_
  obtain ⟨o, ho, hc⟩ := hr B e.symm
  have : some o = some (.cells #[v] t) := ho.symm.trans h
  injection this with this
  rw [this] at hc
  cases hc
/-- a box of another type is no such row -/
theorem JK.not_box {W : World} {B base : Nat} {t : TypeId} {u v : Value} {l : List Nat} (h : Boxed W B t u) (hte : t ≠ E) (hr : JK k M E W base v l) : some B ≠ v.ownBlock := Boxed.not_row h hte hr.2
/-- rows of unlike elements are apart -/
theorem JK.apart {k2 : IntKind} {M2 : Nat} {E2 : TypeId} {W : World} {base base2 : Nat} {v u : Value} {l l2 : List Nat} (h : JK k M E W base v l) (h2 : JK k2 M2 E2 W base2 u l2) (hne : E ≠ E2) : ∀ g, v.ownBlock = some g → some g ≠ u.ownBlock := by
  intro g hg e
  obtain ⟨_, _, ⟨rfl, _⟩ | ⟨g1, cap1, cur1, rfl, _, hh1, _⟩⟩ := h
  · cases hg
  · obtain ⟨_, _, ⟨rfl, _⟩ | ⟨g2, cap2, cur2, rfl, _, hh2, _⟩⟩ := h2
    · cases e
    · cases hg
      injection e with e
      have e' : g1 = g2 := e
      subst e'
      rw [hh1] at hh2
      injection hh2 with hh2
      injection hh2 with _ hh2
      exact hne hh2
end
end Vt
end Go.Proofs.Ytnjhbidialngmaa
namespace Go.Proofs.Ytnjhbidialngmaa
open Go.RowKit Go.Shelf
namespace Vt
/-- a row of the call's own, of elements of sz cells each: nil where there is none -/
def JR (E : TypeId) (sz : Nat) (w : World) (base : Nat) (v : Value) (ls : List (List Value)) : Prop := (∀ r ∈ ls, r.length = sz ∧ ∀ u ∈ r, u.oneCell' = true) ∧ w.ownsRow base E sz v ls.length ls.flatten
section
variable {E : TypeId} {sz : Nat}
theorem jr_nil (w : World) (base : Nat) : JR E sz w base (.slice none 0 0) [] := ⟨by simp, by simp, .inl ⟨rfl, rfl⟩⟩
theorem JR.shape {w : World} {base : Nat} {v : Value} {l : List (List Value)} (h : JR E sz w base v l) : ∃ a c, v = .slice a l.length c ∧ l.length ≤ c := by
  rcases h.2.2 with ⟨rfl, e⟩ | ⟨g, cap, cur, rfl, _, _, hl, _⟩
  · exact ⟨none, 0, by rw [e], by omega⟩
  · exact ⟨_, cap, rfl, hl⟩
theorem JR.blk_lt {w : World} {base : Nat} {v : Value} {l : List (List Value)} (h : JR E sz w base v l) : ∀ g, v.ownBlock = some g → g < w.heap.size := by
  intro g hg
  obtain ⟨_, _, ⟨rfl, e⟩ | ⟨g', cap', cur, rfl, hbs, hh, hr⟩⟩ := h
  · cases hg
  · cases hg
    exact (Array.getElem?_eq_some_iff.1 hh).1
theorem JR.blk_ge {w : World} {base : Nat} {v : Value} {l : List (List Value)} (h : JR E sz w base v l) : ∀ g, v.ownBlock = some g → base ≤ g := by
  intro g hg
  obtain ⟨_, _, ⟨rfl, e⟩ | ⟨g', cap', cur, rfl, hbs, hh, hr⟩⟩ := h
  · cases hg
  · cases hg
    exact hbs
theorem JR.keep {w w' : World} {base n : Nat} {v : Value} {l : List (List Value)} (h : JR E sz w base v l) (hk : ∀ g, v.ownBlock = some g → g < n) (hb : Below n w w') : JR E sz w' base v l := by
  obtain ⟨h1, h0, ⟨rfl, e⟩ | ⟨g', cap', cur, rfl, hbs, hh, hr⟩⟩ := h
  · exact ⟨h1, h0, .inl ⟨rfl, e⟩⟩
  · refine ⟨h1, h0, .inr ⟨g', cap', cur, rfl, hbs, ?_, hr⟩⟩
    rw [hb.block g' (hk g' rfl)]; exact hh
theorem JR.keepAll {w w' : World} {base : Nat} {v : Value} {l : List (List Value)} (h : JR E sz w base v l) (hb : Below w.heap.size w w') : JR E sz w' base v l := h.keep h.blk_lt hb
theorem JR.alloc {w : World} {base : Nat} {v : Value} {l : List (List Value)} (h : JR E sz w base v l) (o : Obj) : JR E sz (w.alloc o) base v l := h.keepAll ((Below.refl _ _).alloc (Nat.le_refl _) _)
theorem JR.rebase {w : World} {base base' : Nat} {v : Value} {l : List (List Value)} (h : JR E sz w base v l) (hb : ∀ g, v.ownBlock = some g → base' ≤ g) : JR E sz w base' v l := by
  obtain ⟨h1, h0, ⟨rfl, e⟩ | ⟨g', cap', cur, rfl, hbs, hh, hr⟩⟩ := h
  · exact ⟨h1, h0, .inl ⟨rfl, e⟩⟩
  · exact ⟨h1, h0, .inr ⟨g', cap', cur, rfl, hb g' rfl, hh, hr⟩⟩
theorem JR.lower {w : World} {base base' : Nat} {v : Value} {l : List (List Value)} (h : JR E sz w base v l) (hb : base' ≤ base) : JR E sz w base' v l := h.rebase fun g hg => Nat.le_trans hb (h.blk_ge g hg)
theorem JR.grownO {w w' : World} {base : Nat} {row : Option Nat} {v : Value} {l : List (List Value)} (h : JR E sz w base v l) (hg : w.grownBy w' row) (hne : ∀ g, v.ownBlock = some g → some g ≠ row) : JR E sz w' base v l := by
  obtain ⟨h1, h0, ⟨rfl, e⟩ | ⟨g', cap', cur, rfl, hbs, hh, hr⟩⟩ := h
  · exact ⟨h1, h0, .inl ⟨rfl, e⟩⟩
  · refine ⟨h1, h0, .inr ⟨g', cap', cur, rfl, hbs, ?_, hr⟩⟩
    rw [hg.block g' (Array.getElem?_eq_some_iff.1 hh).1 (hne g' rfl)]; exact hh
theorem JR.setO {w : World} {base : Nat} {v : Value} {l : List (List Value)} (h : JR E sz w base v l) {p : Addr} (hne : ∀ g, v.ownBlock = some g → g ≠ p.block) (u : Value) : JR E sz (w.setCell p u) base v l := by
  obtain ⟨h1, h0, ⟨rfl, e⟩ | ⟨g', cap', cur, rfl, hbs, hh, hr⟩⟩ := h
  · exact ⟨h1, h0, .inl ⟨rfl, e⟩⟩
  · refine ⟨h1, h0, .inr ⟨g', cap', cur, rfl, hbs, ?_, hr⟩⟩
    have := hne g' rfl
    rw [← hh]
    show (w.heap.modify p.block _)[g']? = _
    rw [Array.getElem?_modify, if_neg (fun e => this e.symm)]
theorem JR.drew {w : World} {base : Nat} {v : Value} {l : List (List Value)} (h : JR E sz w base v l) : JR E sz w.drew base v l := h
theorem JR.drewN {w : World} {base : Nat} {v : Value} {l : List (List Value)} (h : JR E sz w base v l) (n : Nat) : JR E sz (w.drewN n) base v l := h
theorem flat_at {ls : List (List Value)} (h : ∀ r ∈ ls, r.length = sz) : ∀ (k : Nat) (r : List Value) (j : Nat), ls[k]? = some r → j < sz → ls.flatten[k * sz + j]? = r[j]? := by
  induction ls with
  | nil => intro k r j hk; simp at hk
  | cons a q ih =>
    intro k r j hk hj
    have ha := h a List.mem_cons_self
    rw [List.flatten_cons]
    cases k with
    | zero =>
      simp at hk
      subst hk
      rw [Nat.zero_mul, Nat.zero_add, List.getElem?_append_left (by omega)]
    | succ k =>
      rw [List.getElem?_cons_succ] at hk
      rw [List.getElem?_append_right (by rw [ha, Nat.succ_mul]; omega), ha, show (k + 1) * sz + j - sz = k * sz + j by rw [Nat.succ_mul]; omega]
      exact ih (fun r hr => h r (List.mem_cons_of_mem _ hr)) k r j hk hj
theorem flat_len {ls : List (List Value)} (h : ∀ r ∈ ls, r.length = sz) : ls.flatten.length = ls.length * sz := by
  induction ls with
  | nil => simp
  | cons a q ih => rw [List.flatten_cons, List.length_append, ih (fun r hr => h r (List.mem_cons_of_mem _ hr)), h a List.mem_cons_self, List.length_cons, Nat.succ_mul]; omega
/-- what stands at a place -/
theorem JR.at {w : World} {base g : Nat} {n c : Nat} {l : List (List Value)} (h : JR E sz w base (.slice (some ⟨g, 0, none⟩) n c) l) (k : Nat) (r : List Value) (j : Nat) (u : Value) (hk : l[k]? = some r) (hu : r[j]? = some u) : w.cell? ⟨g, k * sz + j, none⟩ = some u := by
  obtain ⟨h1, h0, ⟨e, _⟩ | ⟨g', cap', cur, e, hbs, hh, h3, h4, h5, h6⟩⟩ := h
  · cases e
  · injection e with e1 e2 e3
    injection e1 with e1
    injection e1 with e1
    subst e1
    have hr : r.length = sz := (h1 r (List.mem_of_getElem? hk)).1
    have hj : j < sz := by have := (List.getElem?_eq_some_iff.1 hu).1; omega
    have hf := flat_at (fun r hr => (h1 r hr).1) k r j hk hj
    rw [hu, ← h6] at hf
    simp only [World.cell?, hh]
    rw [List.getElem?_take] at hf
    split at hf
    · simpa using hf
    · cases hf
theorem JR.nn {w : World} {base : Nat} {v : Value} {l : List (List Value)} (h : JR E sz w base v l) (hl : l ≠ []) : ∃ g c, v = .slice (some ⟨g, 0, none⟩) l.length c ∧ l.length ≤ c ∧ c ≤ maxLen := by
  obtain ⟨h1, h0, ⟨e, h⟩ | ⟨g', cap', cur, e, hbs, hh, h3, h4, h5, h6⟩⟩ := h
  · exact absurd (List.length_eq_zero_iff.1 h) hl
  · exact ⟨g', cap', e, h3, h4⟩
/-- a turn of what is no cells leaves the row -/
theorem JR.kept {w w' : World} {base : Nat} {row : Option Nat} {v : Value} {l : List (List Value)} (h : JR E sz w base v l) (hg : w.grownBy w' row) (hr : ∀ r, row = some r → ∃ o : Obj, w.heap[r]? = some o ∧ o.isCells = false) : JR E sz w' base v l := by
  refine h.grownO hg fun g hgb e => ?_
  obtain ⟨o, ho, hc⟩ := hr g e.symm
  obtain ⟨_, _, ⟨rfl, _⟩ | ⟨g', cap', cur, rfl, hbs, hh, _⟩⟩ := h
  · cases hgb
  · cases hgb
    have : some o = some (.cells cur E (0, 0)) := ho.symm.trans hh
    injection this with this
    rw [this] at hc
    cases hc
theorem JR.not_blk {W : World} {O base : Nat} {t : TypeId} {cs : List Value} {v : Value} {l : List (List Value)} (hr : JR E sz W base v l) (h : Blk W O t cs) (hte : t ≠ E) : some O ≠ v.ownBlock := by
  intro e
  obtain ⟨_, _, ⟨rfl, _⟩ | ⟨g', cap', cur, rfl, _, hh, _⟩⟩ := hr
  · cases e
  · injection e with e
    have e' : O = g' := e
    subst e'
    have h' : W.heap[O]? = some (.cells cs.toArray t (0, 0)) := h
    rw [h'] at hh
    injection hh with hh
    injection hh with _ hh
    exact hte hh
theorem JR.not_box {W : World} {B base : Nat} {t : TypeId} {u v : Value} {l : List (List Value)} (hr : JR E sz W base v l) (h : Boxed W B t u) (hte : t ≠ E) : some B ≠ v.ownBlock := JR.not_blk (cs := [u]) hr h hte
/-- what was put behind a row is cells: all else lies as it lay -/
theorem JR.others {W W' : World} {base : Nat} {v : Value} {l : List (List Value)} (h : JR E sz W base v l) (hg : W.grownBy W' v.ownBlock) : KeepsOthers W W' := by
  refine ⟨hg.size, fun i o hi ho => ?_⟩
  rw [hg.block i (Array.getElem?_eq_some_iff.1 hi).1 ?_]
  · exact hi
  · intro e
    obtain ⟨_, _, ⟨rfl, _⟩ | ⟨g', cap', cur, rfl, _, hh, _⟩⟩ := h
    · cases e
    · have e' : i = g' := by injection e
      subst e'
      rw [hi] at hh
      injection hh with hh
      rw [hh] at ho
      cases ho
variable {S : TypeId} {by_ : Nat} {z : Value}
/-- one more is put behind: r its cells, which lie in a block of their own -/
theorem run_append_jr (hS : Try.prog.underlying S = some (.slice E)) (hE : (Try.prog.info? E).map (fun i => (i.zero, i.size, i.bytes)) = some (some z, sz, by_)) (hz : z.cells.size = sz) (hsz : 0 < sz) (ty : TypeId) (w : World) (base : Nat) (v : Value) (l : List (List Value)) (hJ : JR E sz w base v l) (g c : Nat) (r : List Value) (hr : r.length = sz) (h1 : ∀ u ∈ r, u.oneCell' = true) (hc : ∀ j u, r[j]? = some u → w.cell? ⟨g, j, none⟩ = some u) (hb : (l.length + 1) * by_ ≤ 140737488355328) (hb2 : l.length + 1 ≤ maxLen) (hbase : base ≤ w.heap.size) :
    ∃ g' cap w', (Builtin.append_ #[S, S] ty #[v, .slice (some ⟨g, 0, none⟩) 1 c]).run Try.prog w = .ok (.slice (some ⟨g', 0, none⟩) (l.length + 1) cap) w' ∧ JR E sz w' base (.slice (some ⟨g', 0, none⟩) (l.length + 1) cap) (l ++ [r]) ∧ w.grownBy w' v.ownBlock ∧ (v.ownBlock = some g' ∨ g' = w.heap.size) := by
  obtain ⟨i0, hi, hz0, hz1, hz2⟩ := info_parts hE
  obtain ⟨g', cap, w', e1, h2, h3, h4, _⟩ := run_append_lies (P := Try.prog) w S ty base E i0 z sz by_ hS hi hz0 hz1 hz2 hz hsz v l.length l.flatten hJ.2 ⟨g, 0, none⟩ 1 c r (by omega) (fun j u hu => by
    have := hc j u hu
    rw [add_at, Nat.zero_add]; exact this) h1 (by omega) hb2 hb hbase w.heap.size rfl
  refine ⟨g', cap, w', e1, ⟨?_, ?_⟩, h3, h4⟩
  · intro q hq
    rcases List.mem_append.1 hq with hq | hq
    · exact hJ.1 q hq
    · rw [List.mem_singleton] at hq; subst hq; exact ⟨hr, h1⟩
  · rw [List.length_append, List.length_singleton, List.flatten_append, List.flatten_singleton]; exact h2
theorem wpListIn_append_jr {F : Fence} {d : Nat} (hS : Try.prog.underlying S = some (.slice E)) (hE : (Try.prog.info? E).map (fun i => (i.zero, i.size, i.bytes)) = some (some z, sz, by_)) (hz : z.cells.size = sz) (hsz : 0 < sz) (w : World) {ops : Array Oper} {rest : List Oper} {o : Oper} {a : Act} {Q : Exit → Act → World → Prop} (hgd : o.guard = none) (s x : Operand)
    (ho : o.op = .call { callee := .builtin .append, args := #[s, x], argTypes := #[S, S] })
    (base : Nat) (v : Value) (l : List (List Value)) (g c : Nat) (r : List Value) (hs : a.eval s = v) (hx : a.eval x = .slice (some ⟨g, 0, none⟩) 1 c) (hJ : JR E sz w base v l) (hr : r.length = sz) (h1 : ∀ u ∈ r, u.oneCell' = true) (hc : ∀ j u, r[j]? = some u → w.cell? ⟨g, j, none⟩ = some u) (n : Nat) (hn : l.length + 1 = n) (hb : n * by_ ≤ 140737488355328) (hb2 : n ≤ maxLen) (hbase : base ≤ w.heap.size)
    (h : ∀ g' cap w', JR E sz w' base (.slice (some ⟨g', 0, none⟩) n cap) (l ++ [r]) → w.grownBy w' v.ownBlock → (v.ownBlock = some g' ∨ g' = w.heap.size) → wpListIn F d Try.prog ops Q rest (a.put o.dst (.slice (some ⟨g', 0, none⟩) n cap)) w') : wpListIn F d Try.prog ops Q (o :: rest) a w := by
  subst hn
  refine wpListIn_plain hgd fun K hK => ?_
  obtain ⟨a', cap, w', hrr, h2, h3, h4⟩ := run_append_jr hS hE hz hsz o.type w base v l hJ g c r hr h1 hc hb hb2 hbase
  unfold Oper.wpIn
  refine ⟨?_, ?_⟩
  · simp [Oper.about, ho, resolve, Target.leads, Sem.run_pure]
  · rw [Oper.semAt_plain F _ _ (by rw [ho]; intro c hc'; cases hc')]
    simp [execOp, ho, resolve, invoke, builtin, hs, hx, hrr, Result.andThen]
    exact hK _ _ (h a' cap w' h2 h3 h4)
theorem wpList_append_jr (hS : Try.prog.underlying S = some (.slice E)) (hE : (Try.prog.info? E).map (fun i => (i.zero, i.size, i.bytes)) = some (some z, sz, by_)) (hz : z.cells.size = sz) (hsz : 0 < sz) (w : World) {ops : Array Oper} {rest : List Oper} {o : Oper} {a : Act} {Q : Exit → Act → World → Prop} (hgd : o.guard = none) (s x : Operand)
    (ho : o.op = .call { callee := .builtin .append, args := #[s, x], argTypes := #[S, S] })
    (base : Nat) (v : Value) (l : List (List Value)) (g c : Nat) (r : List Value) (hs : a.eval s = v) (hx : a.eval x = .slice (some ⟨g, 0, none⟩) 1 c) (hJ : JR E sz w base v l) (hr : r.length = sz) (h1 : ∀ u ∈ r, u.oneCell' = true) (hc : ∀ j u, r[j]? = some u → w.cell? ⟨g, j, none⟩ = some u) (n : Nat) (hn : l.length + 1 = n) (hb : n * by_ ≤ 140737488355328) (hb2 : n ≤ maxLen) (hbase : base ≤ w.heap.size)
    (h : ∀ g' cap w', JR E sz w' base (.slice (some ⟨g', 0, none⟩) n cap) (l ++ [r]) → w.grownBy w' v.ownBlock → (v.ownBlock = some g' ∨ g' = w.heap.size) → wpList Try.prog ops Q rest (a.put o.dst (.slice (some ⟨g', 0, none⟩) n cap)) w') : wpList Try.prog ops Q (o :: rest) a w := by
  subst hn
  refine wpList_plain hgd fun K hK => ?_
  obtain ⟨a', cap, w', hrr, h2, h3, h4⟩ := run_append_jr hS hE hz hsz o.type w base v l hJ g c r hr h1 hc hb hb2 hbase
  unfold Oper.wp execOp
  simp only [ho, resolve, invoke, builtin, Sem.run_bind, Sem.run_pure, Result.andThen_ok, List.map_toArray, List.map_cons, List.map_nil, hs, hx, hrr]
  exact hK _ _ (h a' cap w' h2 h3 h4)
end
end Vt
end Go.Proofs.Ytnjhbidialngmaa
