/-
  TWO DISKS SIDE BY SIDE; acts of one of them; FailAt, BreakAt; an operation that comes in.
-/
import Derived.Test.YtijdaohddefbmaaDkj
import Derived.Test.YtijdaohddefbmaaDop
import Derived.Test.YtijdaohddefbmaaDfm
namespace Go.Proofs.Ytijdaohddefbmaa
open Go.ChangeShapes Go.WideShapes Go.ChangeAt Go.RowKit Go.Deep Go.Maps
namespace Dk
open Vt
theorem Scr.mono {B B' : Nat} {w : World} {v : Value} {l : List Op7} (h : Scr B w v l) (hb : B ≤ B') : Scr B' w v l := by
  rcases h with h | ⟨sb, so, c, h1, h2, h3, h4, h5⟩
  · exact .inl h
  · exact .inr ⟨sb, so, c, h1, h2, h3, by omega, fun i hi => by
      obtain ⟨ua, uc, h6⟩ := h5 i hi
      exact ⟨ua, uc, h6.cell, h6.row, fun q b of n c e => Nat.lt_of_lt_of_le (h6.low q b of n c e) hb⟩⟩
theorem Nx.trans {O : Nat → Prop} {w w1 w2 : World} {d : Nat} {S S' : Ds} (h : Nx O w d S w1) (hx : ∀ O', DK w1 d O' S → (∀ b, O' b → O b ∨ w.heap.size ≤ b) → Nx O' w1 d S' w2) : Nx O w d S' w2 := by
  obtain ⟨O1, k1, t1, c1⟩ := h
  obtain ⟨O2, k2, t2, c2⟩ := hx O1 k1 c1
  refine ⟨O2, k2, t1.trans t2 c1, fun b q => ?_⟩
  rcases c2 b q with q | q
  · exact c1 b q
  · exact .inr (Nat.le_trans t1.size q)
theorem Nx.below {O : Nat → Prop} {w w1 : World} {d B : Nat} {S : Ds} (h : Nx O w d S w1) (hO : ∀ b, O b → B ≤ b) (hB : B ≤ w.heap.size) : Below B w w1 := (h.elim fun _ q => q.2.1).below hO hB
set_option maxRecDepth 100000 in
set_option maxHeartbeats 1000000 in
theorem lactsN_is (B : Nat) (w : World) (d : Nat) (O : Nat → Prop) (S : Ds) (v : Value) (l : List Op7) (h : DK w d O S) (hOB : ∀ b, O b → B ≤ b) (hBs : B ≤ w.heap.size) (hv : Scr B w v l) (ha : S.acts + l.length < 4611686018427387904) :
    Calls Try.prog 15 #[.pointer (some ⟨d, 0, none⟩), v] w fun e w' => (∃ u, e = .returned u) ∧ Nx O w d (actsS S l) w' := by
  obtain ⟨av, cv, rfl⟩ := hv.shape
  have HU := hd (Nx.same h)
  have HV := hd hv
  have HOB := hd hOB
  clear h hv hOB
  go_enter Try.func15, Try.ntmps15
  go_wp2_with fail
  go_loopw [4] (fun i wr => ∃ k : Nat, k ≤ l.length ∧ i = .int .i64 (k : Int) ∧ Nx O w d (actsS S (l.take k)) wr) (fun i _ => l.length - (intOf i).toNat)
  case atStart => exact ⟨0, by omega, rfl, HU.out⟩
  case round =>
    obtain ⟨k, hk, rfl, hU⟩ := hrel
    have HUk := hd hU
    clear hU
    by_cases hlt : k < l.length
    · rcases HV.out with ⟨rfl, _⟩ | ⟨sb, so, c, he, hlc, hcm, hsb, hop⟩
      · simp at hlt
      injection he with he1 he2 he3
      subst he1 he3
      obtain ⟨ua, uc, hO0⟩ := hop k hlt
      have hO := hO0.keep (HUk.out.below HOB.out hBs) hsb
      have c0 : wr.cell? ⟨sb, so + k * 7, none⟩ = some (.int .i64 (l.getD k op0).kind) := hO.cell 0 _ rfl
      have c1 := hO.cell 1 _ rfl
      have c2 := hO.cell 2 _ rfl
      have c3 := hO.cell 3 _ rfl
      have c4 := hO.cell 4 _ rfl
      have c5 := hO.cell 5 _ rfl
      have c6 := hO.cell 6 _ rfl
      have hab : (actsS S (l.take k)).acts < 4611686018427387904 := by
        have := actsS_acts S (l.take k)
        rw [List.length_take] at this
        omega
      have HC : Hid (Calls Try.prog 8 #[.pointer (some ⟨d, 0, none⟩), .agg (opc (l.getD k op0) ua uc).toArray] wr fun e w' => (∃ r : Nat, e = .returned (.int .i64 (r : Int))) ∧ Nx O w d (actsS S (l.take (k + 1))) w') := by
        obtain ⟨O1, k1, k2, k3⟩ := HUk.out
        have hdge : B ≤ d := by
          obtain ⟨m, es, hh⟩ := k1
          rcases k3 d hh.own.1 with q | q
          · exact HOB.out d q
          · omega
        refine (lact_is wr d O1 (actsS S (l.take k)) (l.getD k op0) ua uc k1 hab hO.row (fun h0 b of n c q => by have := hO.low h0 b of n c q; omega)).mono ?_
        rintro e w' ⟨rfl, hx⟩
        refine ⟨⟨_, rfl⟩, ?_⟩
        rw [actsS_take hlt]
        obtain ⟨O2, m1, m2, m3⟩ := hx
        refine ⟨O2, m1, k2.trans m2 k3, fun b q => ?_⟩
        rcases m3 b q with q | q
        · exact k3 b q
        · exact .inr (Nat.le_trans k2.size q)
      simp only [opc] at HC
      generalize l.getD k op0 = o at *
      obtain ⟨kind, nm, to, dat, n, m, done⟩ := o
      simp only at *
      clear hO hO0 hop
      go_wp2_with fail
      refine Calls.mono HC.out ?_
      rintro e w2 ⟨⟨r2, rfl⟩, hU2⟩
      have HU2 := hd hU2
      clear hU2 HC
      go_wp2_with fail
      go_roundw
      case rel => exact ⟨k + 1, by omega, by go_num, HU2.out⟩
      case measure => simp [intOf]; omega
    · obtain rfl : l.length = k := by omega
      rw [List.take_length] at HUk
      go_wp2_with fail
      go_end0
      exact ⟨⟨_, rfl⟩, HUk.out⟩
/-- two disks apart from one another, all of both from B on; what lies below is as it was in w -/
def Two (B : Nat) (w : World) (d e : Nat) (S T : Ds) (W : World) : Prop :=
  ∃ O P, DK W d O S ∧ DK W e P T ∧ (∀ b, O b → B ≤ b) ∧ (∀ b, P b → B ≤ b) ∧ (∀ b, O b → ¬ P b) ∧ Below B w W ∧ B ≤ W.heap.size
theorem two_tr {B : Nat} {a b c : World} (h : Below B a b) (k : Below B b c) : Below B a c := ⟨k.os.trans h.os, k.tape.trans h.tape, k.output.trans h.output, Nat.le_trans h.size k.size, fun j hj => (k.block j hj).trans (h.block j hj)⟩
theorem Two.left {B : Nat} {w : World} {d e : Nat} {S' T : Ds} {W W' : World} {O P : Nat → Prop} (h1 : DK W e P T) (h2 : ∀ b, O b → B ≤ b) (h3 : ∀ b, P b → B ≤ b) (h4 : ∀ b, O b → ¬ P b) (h5 : Below B w W) (h6 : B ≤ W.heap.size) (hx : Nx O W d S' W') : Two B w d e S' T W' := by
  obtain ⟨O', k1, k2, k3⟩ := hx
  refine ⟨O', P, k1, h1.aside k2 (fun b q r => h4 b r q), fun b q => (k3 b q).elim (h2 b) (fun z => by omega), h3, fun b q r => (k3 b q).elim (fun z => h4 b z r) (fun z => by have := h1.olt b r; omega), two_tr h5 (k2.below h2 h6), by have := k2.size; omega⟩
theorem Two.symm {B : Nat} {w : World} {d e : Nat} {S T : Ds} {W : World} (h : Two B w d e S T W) : Two B w e d T S W := by
  obtain ⟨O, P, h1, h2, h3, h4, h5, h6⟩ := h
  exact ⟨P, O, h2, h1, h4, h3, fun b q r => h5 b r q, h6⟩
theorem Two.callL {B : Nat} {w : World} {d e : Nat} {S S' T : Ds} {W : World} {f : FuncId} {args : Array Value} {R : Ending → Prop} (h : Two B w d e S T W) (hx : ∀ O, DK W d O S → (∀ b, O b → B ≤ b) → Calls Try.prog f args W fun x w' => R x ∧ Nx O W d S' w') :
    Calls Try.prog f args W fun x w' => R x ∧ Two B w d e S' T w' := by
  obtain ⟨O, P, h1, h2, h3, h4, h5, h6, h7⟩ := h
  refine (hx O h1 h3).mono ?_
  rintro x w' ⟨r, n⟩
  exact ⟨r, Two.left h2 h3 h4 h5 h6 h7 n⟩
theorem Two.callR {B : Nat} {w : World} {d e : Nat} {S T T' : Ds} {W : World} {f : FuncId} {args : Array Value} {R : Ending → Prop} (h : Two B w d e S T W) (hx : ∀ O, DK W e O T → (∀ b, O b → B ≤ b) → Calls Try.prog f args W fun x w' => R x ∧ Nx O W e T' w') :
    Calls Try.prog f args W fun x w' => R x ∧ Two B w d e S T' w' := by
  refine (Two.callL h.symm hx).mono ?_
  rintro x w' ⟨r, n⟩
  exact ⟨r, n.symm⟩
theorem Two.below {B : Nat} {w : World} {d e : Nat} {S T : Ds} {W W' : World} (h : Two B w d e S T W) (hb : Below W.heap.size W W') : Two B w d e S T W' := by
  obtain ⟨O, P, h1, h2, h3, h4, h5, h6, h7⟩ := h
  exact ⟨O, P, h1.keep (fun b q => hb.block b (h1.olt b q)) hb.size, h2.keep (fun b q => hb.block b (h2.olt b q)) hb.size, h3, h4, h5, two_tr h6 ⟨hb.os, hb.tape, hb.output, hb.size, fun j hj => hb.block j (by omega)⟩, Nat.le_trans h7 hb.size⟩
theorem DK.armed {w w1 : World} {d : Nat} {O : Nat → Prop} {S S' : Ds} (h : DK w d O S) (hf : S'.fs = S.fs) (hg : Good S') (ht : Tr (fun b => b = d) w w1) (hb : ∀ m, Blk w d TD (cells S m) → Blk w1 d TD (cells S' m)) : Nx O w d S' w1 := by
  obtain ⟨m, es, h⟩ := h
  have h1 := h.q.turn ht (hb m h.box)
  exact ⟨O, ⟨m, es, h1.m (hf.trans h.fs) hg⟩, ht.mono (fun x q _ => by rw [q]; exact h.own.1), fun b q => .inl q⟩
theorem good_arm {S : Ds} (h : Good S) (a f b : Nat) (x : Bool) (ha : S.acts ≤ a) (hf : f < 9223372036854775808) (hb : b < 9223372036854775808) : Good (arm S a f b x) := ⟨h.cap, h.used, h.room, h.names, h.isnm, h.las, hf, hb, Nat.le_trans h.cnt (Nat.add_le_add_right ha 200)⟩
set_option maxRecDepth 100000 in
theorem failAt_is (w : World) (d : Nat) (O : Nat → Prop) (S : Ds) (n : Nat) (h : DK w d O S) (hn : n < 9223372036854775808) :
    Calls Try.prog 14 #[.pointer (some ⟨d, 0, none⟩), .int .i64 (n : Int)] w fun e w' => e = .returned (.int .i64 0) ∧ Nx O w d (arm S S.acts n S.brk S.done) w' := by
  have hx : ∀ w1, Tr (fun b => b = d) w w1 → (∀ m, Blk w d TD (cells S m) → Blk w1 d TD (cells (arm S S.acts n S.brk S.done) m)) → Nx O w d (arm S S.acts n S.brk S.done) w1 := fun w1 ht hb => h.armed rfl (good_arm h.good _ _ _ _ (Nat.le_refl _) hn h.good.brk) ht hb
  obtain ⟨m, es, hk⟩ := h
  have c5 := hk.box.cell 5 _ rfl
  have f5 := hk.box.frozen 5
  have HX := hd hx
  clear hk hx
  go_enter Try.func14, Try.ntmps14
  go_wp2_with fail
  go_ret
  refine ⟨rfl, HX.out _ (Tr.set (O := fun b => b = d) (p := ⟨d, 5, none⟩) rfl _) fun m hb => ?_⟩
  exact Blk.set (W := w) hb _
set_option maxRecDepth 100000 in
theorem breakAt_is (w : World) (d : Nat) (O : Nat → Prop) (S : Ds) (n : Nat) (x : Bool) (h : DK w d O S) (hn : n < 9223372036854775808) :
    Calls Try.prog 18 #[.pointer (some ⟨d, 0, none⟩), .int .i64 (n : Int), .bool x] w fun e w' => e = .returned (.int .i64 0) ∧ Nx O w d (arm S S.acts S.fail n x) w' := by
  have hx : ∀ w1, Tr (fun b => b = d) w w1 → (∀ m, Blk w d TD (cells S m) → Blk w1 d TD (cells (arm S S.acts S.fail n x) m)) → Nx O w d (arm S S.acts S.fail n x) w1 := fun w1 ht hb => h.armed rfl (good_arm h.good _ _ _ _ (Nat.le_refl _) h.good.fail hn) ht hb
  obtain ⟨m, es, hk⟩ := h
  have c6 := hk.box.cell 6 _ rfl
  have f6 := hk.box.frozen 6
  have c7 := hk.box.cell 7 _ rfl
  have f7 := hk.box.frozen 7
  have HX := hd hx
  clear hk hx
  go_enter Try.func18, Try.ntmps18
  go_wp2_with fail
  go_ret
  refine ⟨rfl, HX.out _ ((Tr.set (O := fun b => b = d) (p := ⟨d, 6, none⟩) rfl _).trans (Tr.set (O := fun b => b = d) (p := ⟨d, 7, none⟩) rfl _) fun x q => .inl q) fun m hb => ?_⟩
  exact Blk.set (Blk.set (W := w) hb _) _
set_option maxRecDepth 100000 in
/-- an operation that comes in -/
theorem op_arg {H : Type} {enc : TypeId × Value → H} {W : World} {fuel : Nat} {v : Value} {base : Nat} {r : Reach} {y : DataW H × List MemPlace} (hv : Value.okWide Try.prog W r base TO v) (h : DataW.trod enc Try.prog W 0 (fun _ => true) true fuel TO v.cells.toList = some y) : ∃ (o : Op7) (ua : Option Addr) (uc : Nat), v = .agg (opc o ua uc).toArray ∧ IsB W (.slice ua o.dat.length uc) o.dat := by
  obtain ⟨cs, rfl, hsz⟩ := okWide_struct Try.underlying31 hv
  rw [cell_op] at hsz
  obtain ⟨o, ua, uc, hc, hI⟩ := op_open h (by simpa [Value.cells] using hsz)
  refine ⟨o, ua, uc, ?_, hI⟩
  have hc' : cs.toList = opc o ua uc := hc
  rw [← hc']
theorem isB_low {w : World} {ua : Option Addr} {n uc : Nat} {l : List Nat} (h : IsB w (.slice ua n uc) l) (h0 : l ≠ []) : ∀ b of n' c, Value.slice ua n uc = .slice (some ⟨b, of, none⟩) n' c → b < w.heap.size := by
  intro b of n' c q
  obtain ⟨_, _, ⟨q1, _⟩ | ⟨b2, o2, c2, q2, _, _, q3, _⟩⟩ := h
  · exact absurd q1 h0
  · rw [q2] at q
    injection q with q
    injection q with q
    injection q with q
    rw [← q]; exact q3
end Dk
end Go.Proofs.Ytijdaohddefbmaa
