/-
  SCRIPTS IN MEMORY; the walk of acts.
-/
import Derived.Test.YtijdaohddefbmaaDkh
namespace Go.Proofs.Ytijdaohddefbmaa
open Go.RowKit Go.Maps
namespace Dk
open Vt
/-- seven cells that are an operation; its bytes lie below B -/
structure OpAt (B : Nat) (w : World) (sb off : Nat) (o : Op7) (ua : Option Addr) (uc : Nat) : Prop where
  cell : ∀ j v, (opc o ua uc)[j]? = some v → w.cell? ⟨sb, off + j, none⟩ = some v
  row : IsB w (.slice ua o.dat.length uc) o.dat
  low : o.dat ≠ [] → ∀ b of n c, Value.slice ua o.dat.length uc = .slice (some ⟨b, of, none⟩) n c → b < B
/-- a script, all of it below B -/
def Scr (B : Nat) (w : World) (v : Value) (l : List Op7) : Prop :=
  (l = [] ∧ ∃ a c, v = .slice a 0 c) ∨ ∃ sb so c, v = .slice (some ⟨sb, so, none⟩) l.length c ∧ l.length ≤ c ∧ c ≤ maxLen ∧ sb < B ∧ ∀ i, i < l.length → ∃ ua uc, OpAt B w sb (so + i * 7) (l.getD i op0) ua uc
theorem OpAt.keep {B : Nat} {w w' : World} {sb off : Nat} {o : Op7} {ua : Option Addr} {uc : Nat} (h : OpAt B w sb off o ua uc) (hb : Below B w w') (hs : sb < B) : OpAt B w' sb off o ua uc := by
  refine ⟨fun j v hv => (World.cell?_of_block (hb.block sb hs)).trans (h.cell j v hv), ?_, h.low⟩
  by_cases h0 : o.dat = []
  · rw [h0]; exact isK_nil _ _ _ _ _
  obtain ⟨q1, q2, q3 | ⟨b, of, c, q3, q4, q5, q6, q7⟩⟩ := h.row
  · exact ⟨q1, q2, .inl q3⟩
  · exact ⟨q1, q2, .inr ⟨b, of, c, q3, q4, q5, Nat.lt_of_lt_of_le q6 hb.size, fun i hi => (World.cell?_of_block (hb.block b (h.low h0 b of _ _ q3))).trans (q7 i hi)⟩⟩
theorem Scr.keep {B : Nat} {w w' : World} {v : Value} {l : List Op7} (h : Scr B w v l) (hb : Below B w w') : Scr B w' v l := by
  rcases h with h | ⟨sb, so, c, h1, h2, h3, h4, h5⟩
  · exact .inl h
  · exact .inr ⟨sb, so, c, h1, h2, h3, h4, fun i hi => by
      obtain ⟨ua, uc, h6⟩ := h5 i hi
      exact ⟨ua, uc, h6.keep hb h4⟩⟩
theorem Scr.shape {B : Nat} {w : World} {v : Value} {l : List Op7} (h : Scr B w v l) : ∃ a c, v = .slice a l.length c := by
  rcases h with ⟨rfl, a, c, h⟩ | ⟨sb, so, c, h, _⟩
  · exact ⟨a, c, h⟩
  · exact ⟨_, c, h⟩
/-- a disk whose blocks all lie from B on; what lies below is as it was in w -/
structure Up (B : Nat) (w : World) (d : Nat) (S : Ds) (W : World) : Prop where
  dk : ∃ O, DK W d O S ∧ ∀ b, O b → B ≤ b
  below : Below B w W
  size : B ≤ W.heap.size
theorem Up.next {B : Nat} {w : World} {d : Nat} {S S' : Ds} {W W' : World} (h : Up B w d S W) (hx : ∀ O, DK W d O S → (∀ b, O b → B ≤ b) → Nx O W d S' W') : Up B w d S' W' := by
  obtain ⟨O, h1, h2⟩ := h.dk
  obtain ⟨O', k1, k2, k3⟩ := hx O h1 h2
  have hb := k2.below h2 h.size
  have hs := h.size
  have hs' := k2.size
  refine ⟨⟨O', k1, fun b q => (k3 b q).elim (h2 b) (fun z => by omega)⟩, ⟨hb.os.trans h.below.os, hb.tape.trans h.below.tape, hb.output.trans h.below.output, Nat.le_trans h.below.size hb.size, fun k hk => (hb.block k hk).trans (h.below.block k hk)⟩, by omega⟩
theorem Up.d_ge {B : Nat} {w : World} {d : Nat} {S : Ds} {W : World} (h : Up B w d S W) : B ≤ d := by
  obtain ⟨O, ⟨m, es, h1⟩, h2⟩ := h.dk
  exact h2 d h1.own.1
theorem actsS_acts (S : Ds) (l : List Op7) : (actsS S l).acts ≤ S.acts + l.length := by
  induction l generalizing S with
  | nil => exact Nat.le_refl _
  | cons o r ih =>
    have h1 := ih (actS S o).2
    have h2 := actS_acts S o
    show (actsS (actS S o).2 r).acts ≤ S.acts + (r.length + 1)
    omega
theorem actsS_take {S : Ds} {l : List Op7} {k : Nat} (h : k < l.length) : actsS S (l.take (k + 1)) = (actS (actsS S (l.take k)) (l.getD k op0)).2 := by
  unfold actsS
  rw [List.take_succ_eq_append_getElem h, List.foldl_append, List.getD_eq_getElem?_getD, List.getElem?_eq_getElem h]
  rfl
set_option maxRecDepth 100000 in
set_option maxHeartbeats 1000000 in
theorem lacts_is (B : Nat) (w0 w : World) (d : Nat) (S : Ds) (v : Value) (l : List Op7) (h : Up B w0 d S w) (hv : Scr B w v l) (ha : S.acts + l.length < 4611686018427387904) :
    Calls Try.prog 15 #[.pointer (some ⟨d, 0, none⟩), v] w fun e w' => (∃ u, e = .returned u) ∧ Up B w0 d (actsS S l) w' := by
  obtain ⟨av, cv, rfl⟩ := hv.shape
  have HU := hd h
  have HV := hd hv
  clear h hv
  go_enter Try.func15, Try.ntmps15
  go_wp2_with fail
  go_loopw [4] (fun i wr => ∃ k : Nat, k ≤ l.length ∧ i = .int .i64 (k : Int) ∧ Up B w0 d (actsS S (l.take k)) wr ∧ Below B w wr) (fun i _ => l.length - (intOf i).toNat)
  case atStart => exact ⟨0, by omega, rfl, HU.out, Below.refl _ _⟩
  case round =>
    obtain ⟨k, hk, rfl, hU, hB⟩ := hrel
    have HUk := hd hU
    have HBk := hd hB
    clear hU hB
    by_cases hlt : k < l.length
    · rcases HV.out with ⟨rfl, _⟩ | ⟨sb, so, c, he, hlc, hcm, hsb, hop⟩
      · simp at hlt
      injection he with he1 he2 he3
      subst he1 he3
      obtain ⟨ua, uc, hO0⟩ := hop k hlt
      have hO := hO0.keep HBk.out hsb
      have c0 : wr.cell? ⟨sb, so + k * 7, none⟩ = some (.int .i64 (l.getD k op0).kind) := hO.cell 0 _ rfl
      have c1 := hO.cell 1 _ rfl
      have c2 := hO.cell 2 _ rfl
      have c3 := hO.cell 3 _ rfl
      have c4 := hO.cell 4 _ rfl
      have c5 := hO.cell 5 _ rfl
      have c6 := hO.cell 6 _ rfl
      have hab : (actsS S (l.take k)).acts < 4611686018427387904 := by
        have := actsS_acts S (l.take k)
        rw [List.length_take] at this
        omega
      have hge := HUk.out.d_ge
      have HC : Hid (Calls Try.prog 8 #[.pointer (some ⟨d, 0, none⟩), .agg (opc (l.getD k op0) ua uc).toArray] wr fun e w' => (∃ r : Nat, e = .returned (.int .i64 (r : Int))) ∧ Up B w0 d (actsS S (l.take (k + 1))) w' ∧ Below B w w') := by
        obtain ⟨O, k1, k2⟩ := HUk.out.dk
        refine (lact_is wr d O (actsS S (l.take k)) (l.getD k op0) ua uc k1 hab hO.row (fun h0 b of n c q => by have := hO.low h0 b of n c q; omega)).mono ?_
        rintro e w' ⟨rfl, hx⟩
        have hb := (hx.elim fun O' q => q.2.1).below k2 HUk.out.size
        refine ⟨⟨_, rfl⟩, ?_, ⟨hb.os.trans HBk.out.os, hb.tape.trans HBk.out.tape, hb.output.trans HBk.out.output, Nat.le_trans HBk.out.size hb.size, fun j hj => (hb.block j hj).trans (HBk.out.block j hj)⟩⟩
        rw [actsS_take hlt]
        obtain ⟨O', m1, m2, m3⟩ := hx
        have hs' := m2.size
        have hs := HUk.out.size
        exact ⟨⟨O', m1, fun b q => (m3 b q).elim (k2 b) (fun z => by omega)⟩, ⟨hb.os.trans HUk.out.below.os, hb.tape.trans HUk.out.below.tape, hb.output.trans HUk.out.below.output, Nat.le_trans HUk.out.below.size hb.size, fun j hj => (hb.block j hj).trans (HUk.out.below.block j hj)⟩, by omega⟩
      simp only [opc] at HC
      generalize l.getD k op0 = o at *
      obtain ⟨kind, nm, to, dat, n, m, done⟩ := o
      simp only at *
      clear hO hO0 hop
      go_wp2_with fail
      refine Calls.mono HC.out ?_
      rintro e w2 ⟨⟨r2, rfl⟩, hU2, hB2⟩
      have HU2 := hd hU2
      have HB2 := hd hB2
      clear hU2 hB2 HC
      go_wp2_with fail
      go_roundw
      case rel => exact ⟨k + 1, by omega, by go_num, HU2.out, HB2.out⟩
      case measure => simp [intOf]; omega
    · obtain rfl : l.length = k := by omega
      rw [List.take_length] at HUk
      go_wp2_with fail
      go_end0
      exact ⟨⟨_, rfl⟩, HUk.out⟩
end Dk
end Go.Proofs.Ytijdaohddefbmaa
