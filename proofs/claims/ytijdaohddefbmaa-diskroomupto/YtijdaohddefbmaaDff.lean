/-
  THE WALK OF DiskFails.
-/
import Derived.Test.YtijdaohddefbmaaDfx
namespace Go.Proofs.Ytijdaohddefbmaa
open Go.RowKit Go.Maps
namespace Dk
open Vt
/-- two disks on which a script was played, one behind the other -/
theorem two_of {B : Nat} {w w1 w2 : World} {d e : Nat} {S T : Ds} (h1 : Up B w d S w1) (h2 : Up w1.heap.size w1 e T w2) : Two B w d e S T w2 := by
  obtain ⟨O, a1, a2⟩ := h1.dk
  obtain ⟨P, b1, b2⟩ := h2.dk
  have hs := h1.size
  have hs2 := h2.size
  refine ⟨O, P, a1.keep (fun b q => h2.below.block b (a1.olt b q)) hs2, b1, a2, fun b q => by have := b2 b q; omega, fun b q r => by have := a1.olt b q; have := b2 b r; omega, two_tr h1.below ⟨h2.below.os, h2.below.tape, h2.below.output, h2.below.size, fun j hj => h2.below.block j (by omega)⟩, by omega⟩
theorem Two.bel {B : Nat} {w : World} {d e : Nat} {S T : Ds} {W : World} (h : Two B w d e S T W) : Below B w W := by obtain ⟨_, _, _, _, _, _, _, h, _⟩ := h; exact h
theorem Two.siz {B : Nat} {w : World} {d e : Nat} {S T : Ds} {W : World} (h : Two B w d e S T W) : B ≤ W.heap.size := by obtain ⟨_, _, _, _, _, _, _, _, h⟩ := h; exact h
theorem Two.goodL {B : Nat} {w : World} {d e : Nat} {S T : Ds} {W : World} (h : Two B w d e S T W) : Good S := by obtain ⟨_, _, h, _⟩ := h; exact h.good
theorem Two.goodR {B : Nat} {w : World} {d e : Nat} {S T : Ds} {W : World} (h : Two B w d e S T W) : Good T := h.symm.goodL
theorem Two.actsL {B : Nat} {w : World} {d e : Nat} {S T : Ds} {W : World} (h : Two B w d e S T W) {n : Nat} (hn : S.acts = n) : Calls Try.prog 13 #[.pointer (some ⟨d, 0, none⟩)] W fun x w' => x = .returned (.int .i64 (n : Int)) ∧ w' = W := by
  obtain ⟨O, P, h1, _⟩ := h
  rw [← hn]
  exact acts_is W d O S h1
theorem Two.actL {B : Nat} {w : World} {d e : Nat} {S T : Ds} {W : World} (h : Two B w d e S T W) {sb off : Nat} {o : Op7} {ua : Option Addr} {uc : Nat} (hO : OpAt B W sb off o ua uc) (ha : S.acts < 4611686018427387904) :
    Calls Try.prog 8 #[.pointer (some ⟨d, 0, none⟩), .agg (opc o ua uc).toArray] W fun x w' => x = .returned (.int .i64 ((actS S o).1 : Int)) ∧ Two B w d e (actS S o).2 T w' := by
  refine h.callL fun O hK hOB => lact_is W d O S o ua uc hK ha hO.row fun h0 b of n c q => ?_
  have h1 := hO.low h0 b of n c q
  have h2 : B ≤ d := by obtain ⟨m, es, hh⟩ := hK; exact hOB d hh.own.1
  omega
theorem Two.actR {B : Nat} {w : World} {d e : Nat} {S T : Ds} {W : World} (h : Two B w d e S T W) {sb off : Nat} {o : Op7} {ua : Option Addr} {uc : Nat} (hO : OpAt B W sb off o ua uc) (ha : T.acts < 4611686018427387904) :
    Calls Try.prog 8 #[.pointer (some ⟨e, 0, none⟩), .agg (opc o ua uc).toArray] W fun x w' => x = .returned (.int .i64 ((actS T o).1 : Int)) ∧ Two B w d e S (actS T o).2 w' :=
  (h.symm.actL hO ha).mono fun _ _ ⟨r, n⟩ => ⟨r, n.symm⟩
theorem below_leX {B B' : Nat} {a b : World} (h : Below B' a b) (hB : B ≤ B') : Below B a b := ⟨h.os, h.tape, h.output, h.size, fun j hj => h.block j (by omega)⟩
/-- the operation in its box; scripts seen from above it -/
theorem op_box {w W0 : World} {o : Op7} {ua : Option Addr} {uc : Nat} (hI : IsB w (.slice ua o.dat.length uc) o.dat) (hW : W0 = w.alloc (.cells (opc o ua uc).toArray TO)) : OpAt W0.heap.size W0 w.heap.size 0 o ua uc := by
  have hb : Below w.heap.size w W0 := by rw [hW]; exact (Below.refl _ w).alloc (Nat.le_refl _) _
  have hs : w.heap.size < W0.heap.size := by rw [hW, alloc_size]; omega
  refine ⟨fun j v hv => ?_, hI.below hb, fun h0 b of n c q => Nat.lt_trans (isB_low hI h0 b of n c q) hs⟩
  have hB : Blk W0 w.heap.size TO (opc o ua uc) := by rw [hW]; exact Blk.new w TO (opc o ua uc)
  rw [Nat.zero_add]
  exact hB.cell j v hv
theorem scr_up {w W0 : World} {v : Value} {l : List Op7} (h : Scr w.heap.size w v l) (hb : Below w.heap.size w W0) : Scr W0.heap.size W0 v l := (h.keep hb).mono hb.size
set_option maxRecDepth 100000 in
set_option maxHeartbeats 2000000 in
theorem failsLaw_is (v1 v2 : Value) (l1 l2 : List Op7) (o : Op7) (ua : Option Addr) (uc : Nat) (w : World) (h1 : Scr w.heap.size w v1 l1) (h2 : Scr w.heap.size w v2 l2) (hI : IsB w (.slice ua o.dat.length uc) o.dat) (hl1 : l1.length ≤ 1600000000000) (hl2 : l2.length ≤ 1600000000000) :
    Calls Try.prog 4 #[v1, .agg (opc o ua uc).toArray, v2] w fun e w' => e = .returned (.bool true) ∧ Below w.heap.size w w' := by
  obtain ⟨W0, hW0⟩ : ∃ W0, W0 = w.alloc (.cells (opc o ua uc).toArray TO) := ⟨_, rfl⟩
  have hb0 : Below w.heap.size w W0 := by rw [hW0]; exact (Below.refl _ w).alloc (Nat.le_refl _) _
  have HOP := hd (op_box hI hW0)
  have HS1 := hd (scr_up h1 hb0)
  have HS2 := hd (scr_up h2 hb0)
  have HW : Hid (W0 = w.alloc (.cells #[.int .i64 o.kind, .string o.nm, .string o.to, .slice ua o.dat.length uc, .int .i64 o.n, .int .i64 o.m, .bool o.done] TO)) := hW0
  have HST := hd (started_is W0.heap.size W0 W0 v1 l1 (Below.refl _ _) (Nat.le_refl _) HS1.out (by omega))
  have HB0 := hd hb0
  obtain ⟨a1, c1, rfl⟩ := h1.shape
  obtain ⟨a2, c2, rfl⟩ := h2.shape
  have hac : (actsS s0 l1).acts ≤ 1 + l1.length := actsS_acts s0 l1
  have hok : Ok (actsS s0 l1) := actsS_ok s0_ok l1
  obtain ⟨S, hS⟩ : ∃ S, S = actsS s0 l1 := ⟨_, rfl⟩
  rw [← hS] at HST hac hok
  have HS := hd hS
  have HOK := hd hok
  clear h1 h2 hI hW0 hb0 hS hok
  simp only [opc]
  go_enter Try.func4, Try.ntmps4
  go_wp2_with fail
  rw [← HW.out]
  refine Calls.mono HST.out ?_
  rintro e w1 ⟨d, rfl, hU1⟩
  have HST2 := hd (started_is w1.heap.size w1 w1 (.slice a1 l1.length c1) l1 (Below.refl _ _) (Nat.le_refl _) ((HS1.out.keep hU1.below).mono hU1.size) (by omega))
  rw [← HS.out] at HST2
  have HU1 := hd hU1
  clear hU1 HST
  go_wp2_with fail
  refine Calls.mono HST2.out ?_
  rintro e w2 ⟨d2, rfl, hU2⟩
  have hT2 := two_of HU1.out hU2
  have HA2 := hd (hT2.actsL rfl)
  have HF2 := hd (hT2.callL fun O hK _ => failAt_is w2 d O S 1 hK (by omega))
  clear hU2 hT2 HST2 HU1
  go_wp2_with fail
  refine Calls.mono HA2.out ?_
  rintro e w3 ⟨rfl, rfl⟩
  go_wp2_with fail
  refine Calls.mono HF2.out ?_
  rintro e w3 ⟨rfl, hT3⟩
  obtain ⟨r, n, f, hact, hf1, hor⟩ := fails_at HOK.out o
  have hO3 := HOP.out.keep hT3.bel (by rw [HW.out, alloc_size]; omega)
  have HC3 := hd (hT3.actL hO3 (by show S.acts < _; omega))
  rw [hact] at HC3
  simp only [opc] at HC3
  have k0 : w3.cell? ⟨w.heap.size, 0, none⟩ = some (.int .i64 o.kind) := hO3.cell 0 _ rfl
  have k1 : w3.cell? ⟨w.heap.size, 1, none⟩ = some (.string o.nm) := hO3.cell 1 _ rfl
  have k2 : w3.cell? ⟨w.heap.size, 2, none⟩ = some (.string o.to) := hO3.cell 2 _ rfl
  have k3 : w3.cell? ⟨w.heap.size, 3, none⟩ = some (.slice ua o.dat.length uc) := hO3.cell 3 _ rfl
  have k4 : w3.cell? ⟨w.heap.size, 4, none⟩ = some (.int .i64 o.n) := hO3.cell 4 _ rfl
  have k5 : w3.cell? ⟨w.heap.size, 5, none⟩ = some (.int .i64 o.m) := hO3.cell 5 _ rfl
  have k6 : w3.cell? ⟨w.heap.size, 6, none⟩ = some (.bool o.done) := hO3.cell 6 _ rfl
  have HOR := hd hor
  clear hT3 hO3 HF2 hact hor HA2
  go_wp2_with fail
  refine Calls.mono HC3.out ?_
  rintro e w4 ⟨rfl, hT4⟩
  have HA4 := hd (hT4.actsL (n := n) rfl)
  have hf0 : S.fail = 0 := HOK.out.2.1
  have HF4 : Hid (Calls Try.prog 14 #[.pointer (some ⟨d, 0, none⟩), .int .i64 0] w4 fun x w' => x = .returned (.int .i64 0) ∧ ∃ N, N ≤ S.acts + 1 ∧ Two W0.heap.size W0 d d2 (arm S N S.fail S.brk S.done) S w') := by
    refine (hT4.callL fun O hK _ => failAt_is w4 d O _ 0 hK (by omega)).mono ?_
    rintro x w' ⟨hx, hT⟩
    refine ⟨hx, n, by rcases HOR.out with ⟨h, _⟩ | ⟨h, _⟩ <;> omega, ?_⟩
    rw [hf0]
    exact hT
  clear k0 k1 k2 k3 k4 k5 k6 HC3 hT4 hf0
  go_wp2_with fail
  refine Calls.mono HA4.out ?_
  rintro e w5 ⟨rfl, hw5⟩
  rw [hw5]
  clear hw5
  have hac2 : S.acts ≤ 1600000000001 := by omega
  clear hac
  rcases HOR.out with ⟨hn, hr⟩ | ⟨hn, hr⟩
  · subst hn hr
    go_wp2_with fail
    refine Calls.mono HF4.out ?_
    rintro e w7 ⟨rfl, N, hN, hT7⟩
    obtain ⟨m, hm⟩ := alike HOK.out N l2
    have hma : m ≤ N + l2.length := by
      have := actsS_acts (arm S N S.fail S.brk S.done) l2
      rw [hm] at this
      exact this
    have HD7 := hd (hT7.callL fun O hK hOB => lactsN_is W0.heap.size w7 d O _ (.slice a2 l2.length c2) l2 hK hOB hT7.siz (HS2.out.keep hT7.bel) (by show N + l2.length < _; omega))
    rw [hm] at HD7
    have hxa : (actsS S l2).acts ≤ S.acts + l2.length := actsS_acts S l2
    clear hT7 HF4 hm HA4
    go_wp2_with fail
    refine Calls.mono HD7.out ?_
    rintro e w8 ⟨⟨u8, rfl⟩, hT8⟩
    have HE8 := hd (hT8.callR fun O hK hOB => lactsN_is W0.heap.size w8 d2 O S (.slice a2 l2.length c2) l2 hK hOB hT8.siz (HS2.out.keep hT8.bel) (by omega))
    obtain ⟨X, hX⟩ : ∃ X, X = actsS S l2 := ⟨_, rfl⟩
    rw [← hX] at HE8 hxa
    clear hT8 HD7 hX
    go_wp2_with fail
    refine Calls.mono HE8.out ?_
    rintro e w9 ⟨⟨u9, rfl⟩, hT9⟩
    have hcn : X.fs.length ≤ 3300000000200 := by have := hT9.goodR.cnt; omega
    have HF9 := hd (hT9.tellL (all := true) fun O hK => files_is w9 d O _ hK (by show m ≤ _; omega))
    clear hT9 HE8
    go_wp2_with fail
    refine Calls.mono HF9.out ?_
    rintro e w10 ⟨va, lo, rfl, hA, hT10⟩
    have HG := hd (hT10.tellR (all := true) hA fun O hK => files_is w10 d2 O X hK (by omega))
    clear hA hT10 HF9
    go_wp2_with fail
    refine Calls.mono HG.out ?_
    rintro e w11 ⟨vb, lo', rfl, hA, hB, hT11⟩
    have HSF := hd (hT11.same hA hB (by rw [told_arm, told_count]; exact hcn) rfl)
    clear hA hB hT11 HG
    go_wp2_with fail
    refine Calls.mono HSF.out ?_
    rintro e w12 ⟨rfl, hT12⟩
    have HF12 := hd (hT12.tellL (all := false) fun O hK => lasting_is w12 d O _ hK (by show m ≤ _; omega))
    clear hT12 HSF
    go_wp2_with fail
    refine Calls.mono HF12.out ?_
    rintro e w13 ⟨vc, lo2, rfl, hA, hT13⟩
    have HG2 := hd (hT13.tellR (all := false) hA fun O hK => lasting_is w13 d2 O X hK (by omega))
    clear hA hT13 HF12
    go_wp2_with fail
    refine Calls.mono HG2.out ?_
    rintro e w14 ⟨vd, lo3, rfl, hA, hB, hT14⟩
    have HSF2 := hd (hT14.same hA hB (by rw [told_arm, told_count]; exact hcn) rfl)
    clear hA hB hT14 HG2
    go_wp2_with fail
    refine Calls.mono HSF2.out ?_
    rintro e w15 ⟨rfl, hT15⟩
    have HB15 := hd (two_tr HB0.out (below_leX hT15.bel HB0.out.size))
    clear hT15 HSF2
    go_wp2_with fail
    go_ret
    exact ⟨rfl, HB15.out⟩
  · subst hn
    have hrb : ((r : Int) == 74) = false := by rw [beq_eq_false_iff_ne]; omega
    go_wp2_with fail
    refine Calls.mono HA4.out ?_
    rintro e w6 ⟨rfl, hw6⟩
    rw [hw6]
    clear hw6
    go_wp2_with fail
    refine Calls.mono HF4.out ?_
    rintro e w7 ⟨rfl, N, hN, hT7⟩
    obtain ⟨m, hm⟩ := alike HOK.out N l2
    have hma : m ≤ N + l2.length := by
      have := actsS_acts (arm S N S.fail S.brk S.done) l2
      rw [hm] at this
      exact this
    have HD7 := hd (hT7.callL fun O hK hOB => lactsN_is W0.heap.size w7 d O _ (.slice a2 l2.length c2) l2 hK hOB hT7.siz (HS2.out.keep hT7.bel) (by show N + l2.length < _; omega))
    rw [hm] at HD7
    have hxa : (actsS S l2).acts ≤ S.acts + l2.length := actsS_acts S l2
    clear hT7 HF4 hm HA4
    go_wp2_with fail
    refine Calls.mono HD7.out ?_
    rintro e w8 ⟨⟨u8, rfl⟩, hT8⟩
    have HE8 := hd (hT8.callR fun O hK hOB => lactsN_is W0.heap.size w8 d2 O S (.slice a2 l2.length c2) l2 hK hOB hT8.siz (HS2.out.keep hT8.bel) (by omega))
    obtain ⟨X, hX⟩ : ∃ X, X = actsS S l2 := ⟨_, rfl⟩
    rw [← hX] at HE8 hxa
    clear hT8 HD7 hX
    go_wp2_with fail
    refine Calls.mono HE8.out ?_
    rintro e w9 ⟨⟨u9, rfl⟩, hT9⟩
    have hcn : X.fs.length ≤ 3300000000200 := by have := hT9.goodR.cnt; omega
    have HF9 := hd (hT9.tellL (all := true) fun O hK => files_is w9 d O _ hK (by show m ≤ _; omega))
    clear hT9 HE8
    go_wp2_with fail
    refine Calls.mono HF9.out ?_
    rintro e w10 ⟨va, lo, rfl, hA, hT10⟩
    have HG := hd (hT10.tellR (all := true) hA fun O hK => files_is w10 d2 O X hK (by omega))
    clear hA hT10 HF9
    go_wp2_with fail
    refine Calls.mono HG.out ?_
    rintro e w11 ⟨vb, lo', rfl, hA, hB, hT11⟩
    have HSF := hd (hT11.same hA hB (by rw [told_arm, told_count]; exact hcn) rfl)
    clear hA hB hT11 HG
    go_wp2_with fail
    refine Calls.mono HSF.out ?_
    rintro e w12 ⟨rfl, hT12⟩
    have HF12 := hd (hT12.tellL (all := false) fun O hK => lasting_is w12 d O _ hK (by show m ≤ _; omega))
    clear hT12 HSF
    go_wp2_with fail
    refine Calls.mono HF12.out ?_
    rintro e w13 ⟨vc, lo2, rfl, hA, hT13⟩
    have HG2 := hd (hT13.tellR (all := false) hA fun O hK => lasting_is w13 d2 O X hK (by omega))
    clear hA hT13 HF12
    go_wp2_with fail
    refine Calls.mono HG2.out ?_
    rintro e w14 ⟨vd, lo3, rfl, hA, hB, hT14⟩
    have HSF2 := hd (hT14.same hA hB (by rw [told_arm, told_count]; exact hcn) rfl)
    clear hA hB hT14 HG2
    go_wp2_with fail
    refine Calls.mono HSF2.out ?_
    rintro e w15 ⟨rfl, hT15⟩
    have HB15 := hd (two_tr HB0.out (below_leX hT15.bel HB0.out.size))
    clear hT15 HSF2
    go_wp2_with fail
    go_ret
    exact ⟨rfl, HB15.out⟩
end Dk
end Go.Proofs.Ytijdaohddefbmaa
