/-
  THE REFERENCE OF LAYER 4: Decode of any bytes at any place says what the program's says.
  'KeepS S': all blocks of the set S lie as they lay (and the streams, the tape): what a round over an iterator keeps, where boxes that it writes lie among others.
-/
import Derived.Test.YtcldcompflgbpaaMbi
import Derived.Test.YtcldcompflgbpaaMaf
import Derived.RangeFuncNested
import Derived.RangeFuncBound
import Derived.RangeFuncCalls
import Derived.RangeFuncLeaves
import Derived.Shelf.Abstract
import Derived.Shelf.RegionOpen
import Derived.OwnWalkIn
import Derived.TacticsInMore
import Derived.LoopNIn
import Derived.LoopIn
namespace Go.Proofs.Ytcldcompflgbpaa
open Go.RowKit
namespace Vt
theorem dcd_rl {m : List Nat} {e : Nat} (h : rl m = (0, e)) (he : e ≠ 0) : dcd m = (zf, 0, e) := by
  unfold dcd
  rw [h]
  simp only
  rw [if_pos he]
theorem r4_decode (v : Value) (l : List Nat) (z : Int) (w : World) (hI : IsB w v l) (hm : l.length ≤ 9223372036854775000) :
    Calls Try.prog 42 #[v, .int .i64 z] w fun e w' => e = .returned (dval (decF l z)) ∧ Below w.heap.size w w' := by
  by_cases h : z < 0 ∨ (l.length : Int) ≤ z
  · have e : decF l z = (zf, 0, 40) := by unfold decF; rw [if_pos h]
    rw [e]
    exact r4dec_arg v l z w hI h
  · obtain ⟨a, rfl⟩ : ∃ a : Nat, z = (a : Int) := ⟨z.toNat, by omega⟩
    have ha : a < l.length := by omega
    have e : decF l (a : Int) = dcd (l.drop a) := by unfold decF; rw [if_neg h, Int.toNat_natCast]
    rw [e]
    obtain ⟨b, off, c, rfl⟩ : ∃ b off c, v = .slice (some ⟨b, off, none⟩) l.length c := by
      obtain ⟨_, _, ⟨q, _⟩ | ⟨b, off, c, e, _⟩⟩ := hI
      · rw [q] at ha; simp at ha
      · exact ⟨b, off, c, e⟩
    by_cases h7 : l.getD a 0 = 167
    · have h7' : (l.drop a).getD 0 0 = 167 := by rw [getD_drop0]; exact h7
      by_cases hg : ∀ x ∈ dig (l.drop a), x < 128
      · have hn2 := dig_nm hg
        by_cases h4 : (l.drop a).length < 4
        · rw [dcd_rl (rl_43 h7' hg (.inl h4)) (by decide)]
          exact r4dec_len b off c a l w hI ha hm h7 43 (lnR_43 hg h4) (by decide)
        · by_cases h9 : l.length < a + nm (dig (l.drop a)) + 9
          · rw [dcd_rl (rl_43 h7' hg (.inr (by rw [List.length_drop]; omega))) (by decide)]
            exact r4dec_short b off c a l w hI ha hm h7 _ (lnR_0 hg h4) hn2 h9
          · exact r4dec_main b off c a l w hI ha hm h7 _ (lnR_0 hg h4) hn2 (by omega) (rl_0 h7' hg (by omega) (by rw [List.length_drop]; omega))
      · rw [dcd_rl (rl_42 h7' hg) (by decide)]
        exact r4dec_len b off c a l w hI ha hm h7 42 (lnR_42 hg) (by decide)
    · rw [dcd_rl (rl_41 (by rw [getD_drop0]; exact h7)) (by decide)]
      exact r4dec_lead b off c a l w hI ha h7
end Vt
end Go.Proofs.Ytcldcompflgbpaa
namespace Go.Proofs.Ytcldcompflgbpaa
open Go.RowKit Go.Shelf
namespace Vt
structure KeepS (S : Nat → Prop) (w w' : World) : Prop where
  os : w'.os = w.os
  tape : w'.tape = w.tape
  output : w'.output = w.output
  size : w.heap.size ≤ w'.heap.size
  block : ∀ k, S k → w'.heap[k]? = w.heap[k]?
section
variable {S : Nat → Prop}
theorem KeepS.refl (w : World) : KeepS S w w := ⟨rfl, rfl, rfl, Nat.le_refl _, fun _ _ => rfl⟩
theorem KeepS.trans {a b c : World} (h : KeepS S a b) (k : KeepS S b c) : KeepS S a c :=
  ⟨k.os.trans h.os, k.tape.trans h.tape, k.output.trans h.output, Nat.le_trans h.size k.size, fun i hi => (k.block i hi).trans (h.block i hi)⟩
theorem KeepS.of_below {n : Nat} {a b : World} (h : Below n a b) (hS : ∀ k, S k → k < n) : KeepS S a b := ⟨h.os, h.tape, h.output, h.size, fun i hi => h.block i (hS i hi)⟩
theorem KeepS.below {n : Nat} {a b : World} (h : KeepS S a b) (hS : ∀ k, k < n → S k) : Below n a b := ⟨h.os, h.tape, h.output, h.size, fun i hi => h.block i (hS i hi)⟩
theorem KeepS.cell {a b : World} (h : KeepS S a b) {p : Addr} (hp : S p.block) : b.cell? p = a.cell? p := World.cell?_of_block (w := a) (h.block p.block hp)
theorem KeepS.setCell {a b : World} (h : KeepS S a b) {p : Addr} (hp : ¬ S p.block) (u : Value) : KeepS S a (b.setCell p u) :=
  h.trans ⟨rfl, rfl, rfl, by simp [World.setCell], fun k hk => Below.heap_setCell _ _ _ _ (fun e => hp (by first | rw [← e]; exact hk | rw [e]; exact hk))⟩
theorem KeepS.grown {a b c : World} {row : Option Nat} (h : KeepS S a b) (hg : b.grownBy c row) (hS : ∀ k, S k → k < b.heap.size) (hr : ∀ k, row = some k → ¬ S k) : KeepS S a c :=
  h.trans ⟨hg.os, hg.tape, hg.output, hg.size, fun k hk => hg.block k (hS k hk) (fun e => hr k e.symm hk)⟩
theorem KeepS.alloc {a b : World} (h : KeepS S a b) (hS : ∀ k, S k → k < b.heap.size) (o : Obj) : KeepS S a (b.alloc o) :=
  h.trans ⟨rfl, rfl, rfl, by simp, fun k hk => Below.heap_alloc _ _ _ (hS k hk)⟩
theorem KeepS.drewN {a b : World} (h : KeepS S a b) (n : Nat) : KeepS S a (b.drewN n) := h.trans ⟨rfl, rfl, rfl, Nat.le_refl _, fun _ _ => rfl⟩
theorem KeepS.drew {a b : World} (h : KeepS S a b) : KeepS S a b.drew := h.trans ⟨rfl, rfl, rfl, Nat.le_refl _, fun _ _ => rfl⟩
theorem keepS_t {A B C : World} (h : KeepS S A B) (k : KeepS S B C) : KeepS S A C := h.trans k
theorem keepS_b {w : World} (hS : ∀ k, S k → k < w.heap.size) (W : World) (l : Nat) (o o' : Obj) (hl : w.heap.size ≤ l) (h : W.heap[l]? = some o) (_ : o.isCells = false) (_ : o.isWalk = false) : KeepS S W (W.putObj l o') := by
  have hg := grownBy_putObj' W l o'
  refine ⟨hg.os, hg.tape, hg.output, hg.size, fun k hk => hg.block k ?_ ?_⟩
  · have := (Array.getElem?_eq_some_iff.1 h).1
    have := hS k hk
    omega
  · intro e
    injection e with e
    have := hS k hk
    omega
theorem ownFrom_keepS {β : Type} {B : Nat} {w₀ : World} (hS : ∀ k, S k → k < w₀.heap.size) (hB : ∀ k, S k → k < B) : OwnFrom B (fun (_ : β) W => KeepS S w₀ W) :=
  fun _ _ _ _ hs hg hr => hs.grown hg (fun k hk => Nat.lt_of_lt_of_le (hS k hk) hs.size) (fun k e hk => by have := (hr k e).1; have := hB k hk; omega)
theorem boxed_keepS {W W' : World} {B : Nat} {t : TypeId} {v : Value} (h : Boxed W B t v) (hB : S B) (hb : KeepS S W W') : Boxed W' B t v := (hb.block B hB).trans h
theorem Blk.keepS {W W' : World} {O : Nat} {T : TypeId} {cs : List Value} (h : Blk W O T cs) (hO : S O) (hb : KeepS S W W') : Blk W' O T cs := (hb.block O hO).trans h
theorem IsK.keepS {k : IntKind} {M : Nat} {w w' : World} {v : Value} {l : List Nat} (h : IsK k M w v l) (hS : ∀ b off n c, v = .slice (some ⟨b, off, none⟩) n c → S b) (hb : KeepS S w w') : IsK k M w' v l := by
  obtain ⟨h1, h2, ⟨rfl, a, c, rfl⟩ | ⟨b, off, c, rfl, h3, h4, h5, h6⟩⟩ := h
  · exact ⟨h1, h2, .inl ⟨rfl, a, c, rfl⟩⟩
  · refine ⟨h1, h2, .inr ⟨b, off, c, rfl, h3, h4, Nat.lt_of_lt_of_le h5 hb.size, fun j hj => ?_⟩⟩
    rw [hb.cell (p := ⟨b, off + j, none⟩) (hS _ _ _ _ rfl)]; exact h6 j hj
theorem Buf.keepS {w w' : World} {g cap : Nat} {l : List Nat} (h : Buf w g cap l) (hg : S g) (hb : KeepS S w w') : Buf w' g cap l := by
  obtain ⟨h1, h2, h3, h4, h5, h6⟩ := h
  refine ⟨h1, h2, Nat.lt_of_lt_of_le h3 hb.size, h4, fun k hk => ?_, fun k hk => ?_⟩
  · rw [hb.cell (p := ⟨g, 0 + k, none⟩) hg]; exact h5 k hk
  · rw [World.frozen?_of_block (a := ⟨g, k, none⟩) (hb.block g hg)]; exact h6 k hk
theorem JK.keepS {k : IntKind} {M : Nat} {E : TypeId} {w w' : World} {base : Nat} {v : Value} {l : List Nat} (h : JK k M E w base v l) (hS : ∀ g, v.ownBlock = some g → S g) (hb : KeepS S w w') : JK k M E w' base v l := by
  obtain ⟨h1, h0, ⟨rfl, e⟩ | ⟨g', cap', cur, rfl, hbs, hh, hr⟩⟩ := h
  · exact ⟨h1, h0, .inl ⟨rfl, e⟩⟩
  · refine ⟨h1, h0, .inr ⟨g', cap', cur, rfl, hbs, ?_, hr⟩⟩
    rw [hb.block g' (hS g' rfl)]; exact hh
end
theorem prefix_snoc {α : Type} {pre xs : List α} {x : α} (h : pre <+: xs) : (pre ++ [x] <+: xs ↔ xs[pre.length]? = some x) := by
  obtain ⟨t, rfl⟩ := h
  rw [List.prefix_append_right_inj, List.getElem?_append_right (Nat.le_refl _), Nat.sub_self]
  cases t with
  | nil => simp
  | cons y t => simp [List.cons_prefix_cons, eq_comm]
theorem boxed_below {W W' : World} {B n : Nat} {t : TypeId} {v : Value} (h : Boxed W B t v) (hB : B < n) (hb : Below n W W') : Boxed W' B t v := (hb.block B hB).trans h
end Vt
end Go.Proofs.Ytcldcompflgbpaa
