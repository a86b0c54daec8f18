/-
  A LAW'S LINES PUT ONE BEHIND THE OTHER, PLAINLY: each frame is small; nothing is refused; where the places stand.
  'KeepS S': all blocks of the set S lie as they lay (and the streams, the tape): what a round over an iterator keeps, where boxes that it writes lie among others.
-/
import Derived.Test.YtolddolfpnkndaaGreatXsbj
import Derived.Test.YtolddolfpnkndaaGreatXsac
import Derived.RangeFuncNested
import Derived.RangeFuncBound
import Derived.RangeFuncCalls
import Derived.RangeFuncLeaves
import Derived.Shelf.Abstract
import Derived.Shelf.RegionOpen
import Derived.OwnWalkIn
import Derived.TacticsInMore
import Derived.LoopNIn
import Derived.LoopIn
namespace Go.Proofs.YtolddolfpnkndaaGreat
open Go.RowKit
namespace Sg
open Vt Dk
theorem cutS_le (n : Nat) (s : ByteArray) : (cutS n s).size ≤ n ∧ (cutS n s).size ≤ s.size := by
  unfold cutS
  split
  · rw [ByteArray.size_extract]; omega
  · omega
theorem cutS_pos {n : Nat} {s : ByteArray} (hn : 0 < n) (hs : 0 < s.size) : 0 < (cutS n s).size := by
  unfold cutS
  split
  · rw [ByteArray.size_extract]; omega
  · exact hs
theorem lnR_rf (l : Ln) (i : Nat) : rf (ofR (lnR l i)) = 0 := by
  have hk : mayKey (lnR l i).key := by
    show 1 ≤ (cutS 64 (kS ++ l.key)).size ∧ (cutS 64 (kS ++ l.key)).size ≤ 64
    exact ⟨cutS_pos (by omega) (by rw [kS_size]; omega), (cutS_le 64 _).1⟩
  have hv : (lnR l i).val.size ≤ (if (lnR l i).kind = 2 then 0 else 2048) := by
    unfold lnR
    cases l.gone
    · simp only [Bool.false_eq_true, if_false]
      have := (cutS_le 300 l.val).1
      rw [if_neg (by omega)]; omega
    · simp only [if_true]; exact Nat.le_refl _
  have hkd : (lnR l i).kind = 1 ∨ (lnR l i).kind = 2 := by unfold lnR; cases l.gone <;> simp
  unfold rf
  rw [if_pos (show (ofR (lnR l i)).kind = 1 ∨ (ofR (lnR l i)).kind = 2 from hkd)]
  unfold rfR
  rw [if_neg (fun q => q rfl), if_neg (show ¬ (ofR (lnR l i)).r.lsn = 0 from Nat.succ_ne_zero _), if_neg (fun q => q hk), if_neg (show ¬ ((if (ofR (lnR l i)).r.kind = 2 then 0 else 2048) < (ofR (lnR l i)).r.val.size) from Nat.not_lt.2 hv), if_neg (fun q => q rfl)]
theorem lnR_wf (l : Ln) (i : Nat) (hi : i < 1000000) : (ofR (lnR l i)).Wf := ⟨by show i + 1 < _; omega, by show (0 : Nat) < _; omega, by show (0 : Nat) < _; omega⟩
theorem lnR_len (l : Ln) (i : Nat) (hi : i < 100) : (en (ofR (lnR l i))).length ≤ 1000 := by
  rw [en_len]
  have h1 := (wr_len (bd (ofR (lnR l i)))).2
  have hk := (cutS_le 64 (kS ++ l.key)).1
  have hv := (cutS_le 300 l.val).1
  have hb : (bd (ofR (lnR l i))).length ≤ 400 := by
    have h2 : (vrt (i + 1)).length ≤ 10 := by rw [vrt_small (by omega)]; simp
    have h3 : (vrt (cutS 64 (kS ++ l.key)).size).length ≤ 10 := by rw [vrt_small (by omega)]; simp
    unfold bd bp vs
    cases hg : l.gone
    · rw [if_pos (by show (lnR l i).kind = 1; unfold lnR; rw [hg]; rfl)]
      have e : (lnR l i).val = cutS 300 l.val := by unfold lnR; rw [hg]; rfl
      show (List.flatten [[1], (List.map vrt [i + 1, (cutS 64 (kS ++ l.key)).size]).flatten, bl (cutS 64 (kS ++ l.key)), bl (lnR l i).val]).length ≤ 400
      rw [e]
      simp [bl_len]
      omega
    · rw [if_neg (by show ¬ (lnR l i).kind = 1; unfold lnR; rw [hg]; simp), if_pos (by show (lnR l i).kind = 2; unfold lnR; rw [hg]; rfl)]
      show (List.flatten [[2], (List.map vrt [i + 1]).flatten, bl (cutS 64 (kS ++ l.key))]).length ≤ 400
      simp [bl_len]
      omega
  omega
def zl : Ln := ⟨ByteArray.empty, ByteArray.empty, false, false⟩
/-- the frame of the i-th line -/
noncomputable def fB (l : Ln) (i : Nat) : List Nat := en (ofR (lnR l i))
noncomputable def stp (l : Ln) (i : Nat) (X : Ws × Ds) : Ws × Ds := if l.syn then (syR (pt X.1 X.2 (fB l i)).2.1 (pt X.1 X.2 (fB l i)).2.2).2 else (pt X.1 X.2 (fB l i)).2
noncomputable def sat (ls : List Ln) (X : Ws × Ds) : Nat → Ws × Ds
  | 0 => X
  | k + 1 => stp (ls.getD k zl) k (sat ls X k)
noncomputable def plc (l : Ln) (i : Nat) (X : Ws × Ds) : Nat × Nat × Nat := ((pre X.1 X.2 (fB l i).length).2.1.num, (pre X.1 X.2 (fB l i).length).2.1.laid, (fB l i).length)
noncomputable def pls (ls : List Ln) (X : Ws × Ds) : Nat → List (Nat × Nat × Nat)
  | 0 => []
  | k + 1 => pls ls X k ++ [plc (ls.getD k zl) k (sat ls X k)]
theorem pls_len (ls : List Ln) (X : Ws × Ds) (k : Nat) : (pls ls X k).length = k := by
  induction k with
  | zero => rfl
  | succ k ih => show (pls ls X k ++ [_]).length = _; rw [List.length_append, ih]; rfl
/-- what holds behind k lines, at least one -/
structure Ok (lim evy : Nat) (k : Nat) (X : Ws × Ds) : Prop where
  lim : X.1.lim = lim
  evy : X.1.evy = evy
  cap : X.2.cap = 1000000
  used : X.2.used ≤ 1000 * k
  acts : X.2.acts ≤ 5 * k
  uns : X.1.uns ≤ k
  at_ : (k = 0 ∧ Iv0 X.1 X.2) ∨ (0 < k ∧ ∃ old cur las, Iv X.1 X.2 old cur las ∧ old.length < k ∧ cur.length ≤ 1000 * k ∧ 0 < cur.length)
theorem ok0 (lim evy : Int) : Ok (64 + pk lim 400) (pk evy 6) 0 (w0S lim evy, ds0 1000000) :=
  ⟨rfl, rfl, rfl, Nat.zero_le _, Nat.le_refl _, Nat.le_refl _, .inl ⟨rfl, rfl, rfl, rfl, rfl, rfl, ⟨rfl, rfl, rfl⟩, good0 (by omega)⟩⟩
/-- one line more: what is answered, where it stands, what holds then -/
theorem Ok.step {lim evy k : Nat} {X : Ws × Ds} (h : Ok lim evy k X) (hk : k < 60) (l : Ln) :
    (pt X.1 X.2 (fB l k)).1 = 0 ∧ (syR (pt X.1 X.2 (fB l k)).2.1 (pt X.1 X.2 (fB l k)).2.2).1 = 0 ∧ Ok lim evy (k + 1) (stp l k X) ∧ (pt X.1 X.2 (fB l k)).2.1.op = true ∧ (pt X.1 X.2 (fB l k)).2.2.acts ≤ 5 * k + 4 ∧ Nam.Nu (pt X.1 X.2 (fB l k)).2.1.num ∧
    ∃ old cur0 las, Iv (stp l k X).1 (stp l k X).2 old (cur0 ++ fB l k) las ∧ plc l k X = (old.length + 1, cur0.length, (fB l k).length) ∧ (l.syn = true → las = (cur0 ++ fB l k).length) ∧
      ((k = 0 ∧ old = [] ∧ cur0 = []) ∨ ∃ o c s, Iv X.1 X.2 o c s ∧ ((fit X.1 (fB l k).length = true ∧ old = o ∧ cur0 = c) ∨ (fit X.1 (fB l k).length = false ∧ old = o ++ [c] ∧ cur0 = []))) := by
  have hfl : (fB l k).length ≤ 1000 := lnR_len l k (by omega)
  have hroom : X.2.used + (fB l k).length ≤ X.2.cap := by rw [h.cap]; have := h.used; omega
  have main : ∀ {old cur0 : List _} {las0 uns0 las' : Nat}, (pt X.1 X.2 (fB l k)).1 = 0 → Pu X.1 (pt X.1 X.2 (fB l k)).2.1 X.2 (pt X.1 X.2 (fB l k)).2.2 old cur0 (fB l k) las0 uns0 las' → uns0 ≤ k → old.length ≤ k → cur0.length ≤ 1000 * k →
      (syR (pt X.1 X.2 (fB l k)).2.1 (pt X.1 X.2 (fB l k)).2.2).1 = 0 ∧ Ok lim evy (k + 1) (stp l k X) ∧ (pt X.1 X.2 (fB l k)).2.1.op = true ∧ (pt X.1 X.2 (fB l k)).2.2.acts ≤ 5 * k + 4 ∧ Nam.Nu (pt X.1 X.2 (fB l k)).2.1.num ∧ ∃ las, Iv (stp l k X).1 (stp l k X).2 old (cur0 ++ fB l k) las ∧ (l.syn = true → las = (cur0 ++ fB l k).length) := by
    intro old cur0 las0 uns0 las' h0 hp hu ho hc
    obtain ⟨s1, s2, s3, s4⟩ := sy_iv hp.iv
    have ha := hp.st.acts
    have hus := hp.st.used
    have hcp := hp.st.cap
    have h1 := h.acts
    have h2 := h.used
    have hun : (pt X.1 X.2 (fB l k)).2.1.uns ≤ k + 1 := by rcases hp.las with ⟨_, q, _⟩ | ⟨_, q⟩ <;> omega
    have hcl : (cur0 ++ fB l k).length ≤ 1000 * (k + 1) := by rw [List.length_append]; omega
    have hcp0 : 0 < (cur0 ++ fB l k).length := by rw [List.length_append]; unfold fB; rw [en_len]; omega
    refine ⟨s1, ?_, hp.iv.op, by omega, by rw [hp.iv.num]; exact ⟨by omega, by omega⟩, ?_⟩
    · unfold stp
      by_cases hs : l.syn = true
      · rw [if_pos hs]
        have a4 := s4.acts
        have u4 := s4.used
        refine ⟨?_, ?_, by rw [s4.cap, hcp, h.cap], by omega, by omega, ?_, .inr ⟨by omega, old, cur0 ++ fB l k, (cur0 ++ fB l k).length, ?_, by omega, hcl, hcp0⟩⟩
        · rw [s2]; exact hp.lim.trans h.lim
        · rw [s2]; exact hp.evy.trans h.evy
        · rw [s2]; exact Nat.zero_le _
        · rw [s2]; exact s3
      · rw [if_neg hs]
        exact ⟨hp.lim.trans h.lim, hp.evy.trans h.evy, by rw [hcp, h.cap], by omega, by omega, hun, .inr ⟨by omega, old, _, _, hp.iv, by omega, hcl, hcp0⟩⟩
    · unfold stp
      by_cases hs : l.syn = true
      · rw [if_pos hs, s2]
        exact ⟨_, s3, fun _ => rfl⟩
      · rw [if_neg hs]
        exact ⟨_, hp.iv, fun q => absurd q hs⟩
  rcases h.at_ with ⟨rfl, hi⟩ | ⟨hk0, o, c, s, hi, ho, hc, _⟩
  · obtain ⟨p1, p2, p3, las', p4⟩ := pt_iv0 hi (fB l 0) hroom
    obtain ⟨m1, m2, m3, m4, m5, las, m6, m7⟩ := main p1 p4 (Nat.le_refl _) (Nat.le_refl _) (Nat.le_refl _)
    exact ⟨p1, m1, m2, m3, m4, m5, [], [], las, m6, by unfold plc; rw [p2, p3]; rfl, m7, .inl ⟨rfl, rfl, rfl⟩⟩
  · obtain ⟨p1, las', ⟨f1, p2, p3, p4⟩ | ⟨f1, p2, p3, p4⟩⟩ := pt_iv hi (fB l k) hroom (by omega)
    · obtain ⟨m1, m2, m3, m4, m5, las, m6, m7⟩ := main p1 p4 h.uns (by omega) hc
      exact ⟨p1, m1, m2, m3, m4, m5, o, c, las, m6, by unfold plc; rw [p2, p3], m7, .inr ⟨o, c, s, hi, .inl ⟨f1, rfl, rfl⟩⟩⟩
    · obtain ⟨m1, m2, m3, m4, m5, las, m6, m7⟩ := main p1 p4 (Nat.zero_le _) (by rw [List.length_append]; simp; omega) (Nat.zero_le _)
      exact ⟨p1, m1, m2, m3, m4, m5, o ++ [c], [], las, m6, by unfold plc; rw [p2, p3]; simp, m7, .inr ⟨o, c, s, hi, .inr ⟨f1, rfl, rfl⟩⟩⟩
theorem sat_ok (lim evy : Int) (ls : List Ln) : ∀ k, k ≤ 60 → Ok (64 + pk lim 400) (pk evy 6) k (sat ls (w0S lim evy, ds0 1000000) k)
  | 0, _ => ok0 lim evy
  | k + 1, h => ((sat_ok lim evy ls k (by omega)).step (by omega) (ls.getD k zl)).2.2.1
end Sg
end Go.Proofs.YtolddolfpnkndaaGreat
namespace Go.Proofs.YtolddolfpnkndaaGreat
open Go.RowKit Go.Shelf
namespace Vt
structure KeepS (S : Nat → Prop) (w w' : World) : Prop where
  os : w'.os = w.os
  tape : w'.tape = w.tape
  output : w'.output = w.output
  size : w.heap.size ≤ w'.heap.size
  block : ∀ k, S k → w'.heap[k]? = w.heap[k]?
section
variable {S : Nat → Prop}
theorem KeepS.refl (w : World) : KeepS S w w := ⟨rfl, rfl, rfl, Nat.le_refl _, fun _ _ => rfl⟩
theorem KeepS.trans {a b c : World} (h : KeepS S a b) (k : KeepS S b c) : KeepS S a c :=
  ⟨k.os.trans h.os, k.tape.trans h.tape, k.output.trans h.output, Nat.le_trans h.size k.size, fun i hi => (k.block i hi).trans (h.block i hi)⟩
theorem KeepS.of_below {n : Nat} {a b : World} (h : Below n a b) (hS : ∀ k, S k → k < n) : KeepS S a b := ⟨h.os, h.tape, h.output, h.size, fun i hi => h.block i (hS i hi)⟩
theorem KeepS.below {n : Nat} {a b : World} (h : KeepS S a b) (hS : ∀ k, k < n → S k) : Below n a b := ⟨h.os, h.tape, h.output, h.size, fun i hi => h.block i (hS i hi)⟩
theorem KeepS.cell {a b : World} (h : KeepS S a b) {p : Addr} (hp : S p.block) : b.cell? p = a.cell? p := World.cell?_of_block (w := a) (h.block p.block hp)
theorem KeepS.setCell {a b : World} (h : KeepS S a b) {p : Addr} (hp : ¬ S p.block) (u : Value) : KeepS S a (b.setCell p u) :=
  h.trans ⟨rfl, rfl, rfl, by simp [World.setCell], fun k hk => Below.heap_setCell _ _ _ _ (fun e => hp (by first | rw [← e]; exact hk | rw [e]; exact hk))⟩
theorem KeepS.grown {a b c : World} {row : Option Nat} (h : KeepS S a b) (hg : b.grownBy c row) (hS : ∀ k, S k → k < b.heap.size) (hr : ∀ k, row = some k → ¬ S k) : KeepS S a c :=
  h.trans ⟨hg.os, hg.tape, hg.output, hg.size, fun k hk => hg.block k (hS k hk) (fun e => hr k e.symm hk)⟩
theorem KeepS.alloc {a b : World} (h : KeepS S a b) (hS : ∀ k, S k → k < b.heap.size) (o : Obj) : KeepS S a (b.alloc o) :=
  h.trans ⟨rfl, rfl, rfl, by simp, fun k hk => Below.heap_alloc _ _ _ (hS k hk)⟩
theorem KeepS.drewN {a b : World} (h : KeepS S a b) (n : Nat) : KeepS S a (b.drewN n) := h.trans ⟨rfl, rfl, rfl, Nat.le_refl _, fun _ _ => rfl⟩
theorem KeepS.drew {a b : World} (h : KeepS S a b) : KeepS S a b.drew := h.trans ⟨rfl, rfl, rfl, Nat.le_refl _, fun _ _ => rfl⟩
theorem keepS_t {A B C : World} (h : KeepS S A B) (k : KeepS S B C) : KeepS S A C := h.trans k
theorem keepS_b {w : World} (hS : ∀ k, S k → k < w.heap.size) (W : World) (l : Nat) (o o' : Obj) (hl : w.heap.size ≤ l) (h : W.heap[l]? = some o) (_ : o.isCells = false) (_ : o.isWalk = false) : KeepS S W (W.putObj l o') := by
  have hg := grownBy_putObj' W l o'
  refine ⟨hg.os, hg.tape, hg.output, hg.size, fun k hk => hg.block k ?_ ?_⟩
  · have := (Array.getElem?_eq_some_iff.1 h).1
    have := hS k hk
    omega
  · intro e
    injection e with e
    have := hS k hk
    omega
theorem boxed_keepS {W W' : World} {B : Nat} {t : TypeId} {v : Value} (h : Boxed W B t v) (hB : S B) (hb : KeepS S W W') : Boxed W' B t v := (hb.block B hB).trans h
theorem Blk.keepS {W W' : World} {O : Nat} {T : TypeId} {cs : List Value} (h : Blk W O T cs) (hO : S O) (hb : KeepS S W W') : Blk W' O T cs := (hb.block O hO).trans h
theorem IsK.keepS {k : IntKind} {M : Nat} {w w' : World} {v : Value} {l : List Nat} (h : IsK k M w v l) (hS : ∀ b off n c, v = .slice (some ⟨b, off, none⟩) n c → S b) (hb : KeepS S w w') : IsK k M w' v l := by
  obtain ⟨h1, h2, ⟨rfl, a, c, rfl⟩ | ⟨b, off, c, rfl, h3, h4, h5, h6⟩⟩ := h
  · exact ⟨h1, h2, .inl ⟨rfl, a, c, rfl⟩⟩
  · refine ⟨h1, h2, .inr ⟨b, off, c, rfl, h3, h4, Nat.lt_of_lt_of_le h5 hb.size, fun j hj => ?_⟩⟩
    rw [hb.cell (p := ⟨b, off + j, none⟩) (hS _ _ _ _ rfl)]; exact h6 j hj
theorem Buf.keepS {w w' : World} {g cap : Nat} {l : List Nat} (h : Buf w g cap l) (hg : S g) (hb : KeepS S w w') : Buf w' g cap l := by
  obtain ⟨h1, h2, h3, h4, h5, h6⟩ := h
  refine ⟨h1, h2, Nat.lt_of_lt_of_le h3 hb.size, h4, fun k hk => ?_, fun k hk => ?_⟩
  · rw [hb.cell (p := ⟨g, 0 + k, none⟩) hg]; exact h5 k hk
  · rw [World.frozen?_of_block (a := ⟨g, k, none⟩) (hb.block g hg)]; exact h6 k hk
theorem JK.keepS {k : IntKind} {M : Nat} {E : TypeId} {w w' : World} {base : Nat} {v : Value} {l : List Nat} (h : JK k M E w base v l) (hS : ∀ g, v.ownBlock = some g → S g) (hb : KeepS S w w') : JK k M E w' base v l := by
  obtain ⟨h1, h0, ⟨rfl, e⟩ | ⟨g', cap', cur, rfl, hbs, hh, hr⟩⟩ := h
  · exact ⟨h1, h0, .inl ⟨rfl, e⟩⟩
  · refine ⟨h1, h0, .inr ⟨g', cap', cur, rfl, hbs, ?_, hr⟩⟩
    rw [hb.block g' (hS g' rfl)]; exact hh
end
theorem boxed_below {W W' : World} {B n : Nat} {t : TypeId} {v : Value} (h : Boxed W B t v) (hB : B < n) (hb : Below n W W') : Boxed W' B t v := (hb.block B hB).trans h
end Vt
end Go.Proofs.YtolddolfpnkndaaGreat
