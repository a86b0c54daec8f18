/-
  THE WALK OF DiskEnds.
-/
import Derived.Test.YtijdaohddefbmaaDff
import Derived.Test.YtijdaohddefbmaaDkb
namespace Go.Proofs.Ytijdaohddefbmaa
open Go.RowKit Go.Maps
namespace Dk
open Vt
theorem Two.downL {B : Nat} {w : World} {d e : Nat} {S T : Ds} {W : World} (h : Two B w d e S T W) {x : Bool} (hn : S.down = x) : Calls Try.prog 19 #[.pointer (some ⟨d, 0, none⟩)] W fun r w' => r = .returned (.bool x) ∧ w' = W := by
  obtain ⟨O, P, h1, _⟩ := h
  rw [← hn]
  exact down_is W d O S h1
/-- an act of a disk that is down, its operation in a box of its own -/
theorem Two.actDown {B : Nat} {w : World} {d e : Nat} {S T : Ds} {wr wx : World} (h : Two B w d e S T wr) {sb off : Nat} {o : Op7} {ua : Option Addr} {uc : Nat} (hO : OpAt B wr sb off o ua uc) (ha : S.acts < 4611686018427387904) (hd : S.down = true) (hwx : wx = wr.alloc (.cells (opc o ua uc).toArray TO)) :
    Calls Try.prog 8 #[.pointer (some ⟨d, 0, none⟩), .agg (opc o ua uc).toArray] wx fun x wy => ∃ r : Nat, x = .returned (.int .i64 (r : Int)) ∧ (1 ≤ o.kind → o.kind ≤ 7 → r = 75) ∧ Two B w d e S T wy ∧ wy.cell? ⟨wr.heap.size, 0, none⟩ = some (.int .i64 o.kind) := by
  obtain ⟨O, P, h1, h2, h3, h4, h5, h6, h7⟩ := h
  have hb : Below wr.heap.size wr wx := by rw [hwx]; exact (Below.refl _ wr).alloc (Nat.le_refl _) _
  have hs : wr.heap.size < wx.heap.size := by rw [hwx, alloc_size]; omega
  have k1 : DK wx d O S := h1.keep (fun b q => hb.block b (h1.olt b q)) hb.size
  have k2 : DK wx e P T := h2.keep (fun b q => hb.block b (h2.olt b q)) hb.size
  have hdB : B ≤ d := by obtain ⟨m, es, hh⟩ := h1; exact h3 d hh.own.1
  refine (lact_is wx d O S o ua uc k1 ha (hO.row.below hb) fun h0 b of n c q => ?_).mono ?_
  · have := hO.low h0 b of n c q
    omega
  rintro x wy ⟨rfl, hx⟩
  obtain ⟨q1, q2⟩ := down_stays hd o
  refine ⟨_, rfl, fun a b => q2 ⟨a, b⟩, ?_, ?_⟩
  · have := Two.left k2 h3 h4 h5 (two_tr h6 (below_leX hb h7)) (by omega) hx
    rw [q1] at this
    exact this
  · obtain ⟨O', _, ht, _⟩ := hx
    have e1 : wy.heap[wr.heap.size]? = wx.heap[wr.heap.size]? := ht.block _ hs fun q => Nat.lt_irrefl _ (h1.olt _ q)
    have hB : Blk wx wr.heap.size TO (opc o ua uc) := by rw [hwx]; exact Blk.new wr TO (opc o ua uc)
    exact (World.cell?_of_block e1).trans (hB.cell 0 _ rfl)
set_option maxRecDepth 100000 in
set_option maxHeartbeats 2000000 in
theorem endsLaw_is (done : Bool) (keep : Int) (v1 v2 : Value) (l1 l2 : List Op7) (o : Op7) (ua : Option Addr) (uc : Nat) (w : World) (h1 : Scr w.heap.size w v1 l1) (h2 : Scr w.heap.size w v2 l2) (hI : IsB w (.slice ua o.dat.length uc) o.dat) (hl1 : l1.length ≤ 1600000000000) (hl2 : l2.length ≤ 1600000000000) :
    Calls Try.prog 5 #[v1, .agg (opc o ua uc).toArray, .bool done, v2, .int .i64 keep] w fun e w' => e = .returned (.bool true) ∧ Below w.heap.size w w' := by
  obtain ⟨W0, hW0⟩ : ∃ W0, W0 = w.alloc (.cells (opc o ua uc).toArray TO) := ⟨_, rfl⟩
  have hb0 : Below w.heap.size w W0 := by rw [hW0]; exact (Below.refl _ w).alloc (Nat.le_refl _) _
  have HOP := hd (op_box hI hW0)
  have HS1 := hd (scr_up h1 hb0)
  have HS2 := hd (scr_up h2 hb0)
  have HW : Hid (W0 = w.alloc (.cells #[.int .i64 o.kind, .string o.nm, .string o.to, .slice ua o.dat.length uc, .int .i64 o.n, .int .i64 o.m, .bool o.done] TO)) := hW0
  have HST := hd (started_is W0.heap.size W0 W0 v1 l1 (Below.refl _ _) (Nat.le_refl _) HS1.out (by omega))
  have HB0 := hd hb0
  obtain ⟨a1, c1, rfl⟩ := h1.shape
  obtain ⟨a2, c2, rfl⟩ := h2.shape
  have hac : (actsS s0 l1).acts ≤ 1 + l1.length := actsS_acts s0 l1
  have hok : Ok (actsS s0 l1) := actsS_ok s0_ok l1
  obtain ⟨S, hS⟩ : ∃ S, S = actsS s0 l1 := ⟨_, rfl⟩
  rw [← hS] at HST hac hok
  have HS := hd hS
  have HOK := hd hok
  clear h1 h2 hI hW0 hb0 hS hok
  simp only [opc]
  go_enter Try.func5, Try.ntmps5
  go_wp2_with fail
  rw [← HW.out]
  refine Calls.mono HST.out ?_
  rintro e w1 ⟨d, rfl, hU1⟩
  have HST2 := hd (started_is w1.heap.size w1 w1 (.slice a1 l1.length c1) l1 (Below.refl _ _) (Nat.le_refl _) ((HS1.out.keep hU1.below).mono hU1.size) (by omega))
  rw [← HS.out] at HST2
  have HU1 := hd hU1
  clear hU1 HST
  go_wp2_with fail
  refine Calls.mono HST2.out ?_
  rintro e w2 ⟨d2, rfl, hU2⟩
  have hT2 := two_of HU1.out hU2
  have HA2 := hd (hT2.actsL rfl)
  have HF2 := hd (hT2.callL fun O hK _ => breakAt_is w2 d O S 1 done hK (by omega))
  clear hU2 hT2 HST2 HU1
  go_wp2_with fail
  refine Calls.mono HA2.out ?_
  rintro e w3 ⟨rfl, rfl⟩
  go_wp2_with fail
  refine Calls.mono HF2.out ?_
  rintro e w3 ⟨rfl, hT3⟩
  have hO3 := HOP.out.keep hT3.bel (by rw [HW.out, alloc_size]; omega)
  have HC3 := hd (hT3.actL hO3 (by show S.acts < _; omega))
  have hends := ends_at HOK.out done o
  simp only [opc] at HC3
  have k0 : w3.cell? ⟨w.heap.size, 0, none⟩ = some (.int .i64 o.kind) := hO3.cell 0 _ rfl
  have k1 : w3.cell? ⟨w.heap.size, 1, none⟩ = some (.string o.nm) := hO3.cell 1 _ rfl
  have k2 : w3.cell? ⟨w.heap.size, 2, none⟩ = some (.string o.to) := hO3.cell 2 _ rfl
  have k3 : w3.cell? ⟨w.heap.size, 3, none⟩ = some (.slice ua o.dat.length uc) := hO3.cell 3 _ rfl
  have k4 : w3.cell? ⟨w.heap.size, 4, none⟩ = some (.int .i64 o.n) := hO3.cell 4 _ rfl
  have k5 : w3.cell? ⟨w.heap.size, 5, none⟩ = some (.int .i64 o.m) := hO3.cell 5 _ rfl
  have k6 : w3.cell? ⟨w.heap.size, 6, none⟩ = some (.bool o.done) := hO3.cell 6 _ rfl
  obtain ⟨r, hr⟩ : ∃ r, r = (actS (arm S S.acts S.fail 1 done) o).1 := ⟨_, rfl⟩
  obtain ⟨S2, hS2⟩ : ∃ S2, S2 = (actS (arm S S.acts S.fail 1 done) o).2 := ⟨_, rfl⟩
  rw [← hr, ← hS2] at HC3
  have hends : (S2 = arm S S.acts S.fail 1 done ∧ r ≠ 75) ∨ (r = 75 ∧ S2.acts = S.acts + 1 ∧ S2.down = true ∧ S2.fs = (if done then (actS S o).2 else S).fs ∧ (actS S o).2.acts = S.acts + 1) := by
    rcases hends with ⟨x, h1, h2⟩ | ⟨h1, h2, h3, h4, _, h5⟩
    · refine .inl ⟨by rw [hS2, h1], ?_⟩
      rw [hr, h1]; exact h2
    · exact .inr ⟨hr.trans h1, by rw [hS2]; exact h2, by rw [hS2]; exact h3, by rw [hS2]; exact h4, h5⟩
  have HEN := hd hends
  clear hT3 hO3 HF2 hends HA2 hr hS2
  have hac2 : S.acts ≤ 1600000000001 := by omega
  clear hac
  go_wp2_with fail
  refine Calls.mono HC3.out ?_
  rintro e w4 ⟨rfl, hT4⟩
  have HT4 := hd hT4
  clear k0 k1 k2 k3 k4 k5 k6 HC3 hT4
  rcases HEN.out with ⟨hS2, hr⟩ | ⟨hr, hA, hD, hF, hA2⟩
  · have HA4 := hd (HT4.out.actsL (n := S.acts) (by rw [hS2]; rfl))
    have HD4 := hd (HT4.out.downL (x := false) (by rw [hS2]; exact HOK.out.1))
    have HB4 := hd (two_tr HB0.out (below_leX HT4.out.bel HB0.out.size))
    have hrb : ((r : Int) != 75) = true := by rw [bne_iff_ne]; omega
    clear HT4 hS2 HEN
    go_wp2_with fail
    refine Calls.mono HA4.out ?_
    rintro e w5 ⟨rfl, hw5⟩
    rw [hw5]
    clear hw5
    go_wp2_with fail
    refine Calls.mono HD4.out ?_
    rintro e w6 ⟨rfl, hw6⟩
    rw [hw6]
    clear hw6
    go_wp2_with fail
    go_ret
    exact ⟨rfl, HB4.out⟩
  · subst hr
    have HA4 := hd (HT4.out.actsL (n := S.acts + 1) hA)
    have HD4 := hd (HT4.out.downL (x := true) hD)
    have HF := hd hF
    have HDN := hd hD
    have HSA : Hid (S2.acts < 4611686018427387904) := by show _ < _; omega
    have HSA2 : Hid (S2.acts ≤ 3300000000000) := by show _ ≤ _; omega
    clear hF hA hD HEN
    go_wp2_with fail
    refine Calls.mono HA4.out ?_
    rintro e w5 ⟨rfl, hw5⟩
    rw [hw5]
    clear hw5
    go_wp2_with fail
    refine Calls.mono HD4.out ?_
    rintro e w6 ⟨rfl, hw6⟩
    rw [hw6]
    clear hw6 HA4 HD4
    rcases Bool.eq_false_or_eq_true done with hdn | hdn
    · subst hdn
      have hO4 := HOP.out.keep HT4.out.bel (by rw [HW.out, alloc_size]; omega)
      have HC4 := hd (HT4.out.actR hO4 (by omega))
      obtain ⟨T, hT⟩ : ∃ T, T = (actS S o).2 := ⟨_, rfl⟩
      rw [← hT] at HC4 hA2
      have HFS : Hid (S2.fs = T.fs) := by rw [hT]; exact HF.out
      have hTa : T.acts ≤ S.acts + 1 := by omega
      have k0 : w4.cell? ⟨w.heap.size, 0, none⟩ = some (.int .i64 o.kind) := hO4.cell 0 _ rfl
      have k1 : w4.cell? ⟨w.heap.size, 1, none⟩ = some (.string o.nm) := hO4.cell 1 _ rfl
      have k2 : w4.cell? ⟨w.heap.size, 2, none⟩ = some (.string o.to) := hO4.cell 2 _ rfl
      have k3 : w4.cell? ⟨w.heap.size, 3, none⟩ = some (.slice ua o.dat.length uc) := hO4.cell 3 _ rfl
      have k4 : w4.cell? ⟨w.heap.size, 4, none⟩ = some (.int .i64 o.n) := hO4.cell 4 _ rfl
      have k5 : w4.cell? ⟨w.heap.size, 5, none⟩ = some (.int .i64 o.m) := hO4.cell 5 _ rfl
      have k6 : w4.cell? ⟨w.heap.size, 6, none⟩ = some (.bool o.done) := hO4.cell 6 _ rfl
      simp only [opc] at HC4
      clear hO4 HT4 HF hT hA2
      go_wp2_with fail
      refine Calls.mono HC4.out ?_
      rintro e w7 ⟨rfl, hT7⟩
      have HT7 := hd hT7
      clear hT7 k0 k1 k2 k3 k4 k5 k6 HC4
      go_wp2_with fail
      go_loopw [16] (fun i wr => ∃ k : Nat, k ≤ l2.length ∧ i = .int .i64 (k : Int) ∧ Two W0.heap.size W0 d d2 S2 T wr) (fun i _ => l2.length - (intOf i).toNat)
      case atStart => exact ⟨0, by omega, rfl, HT7.out⟩
      case round =>
        obtain ⟨k, hk, rfl, hTk⟩ := hrel
        have HTk := hd hTk
        clear hTk HT7
        by_cases hlt : k < l2.length
        · rcases HS2.out with ⟨rfl, _⟩ | ⟨sb, so, c, he, hlc, hcm, hsb, hop⟩
          · simp at hlt
          injection he with he1 he2 he3
          subst he1 he3
          obtain ⟨ub, ucb, hO0⟩ := hop k hlt
          have hOk := hO0.keep HTk.out.bel hsb
          clear hO0 hop
          have c0 : wr.cell? ⟨sb, so + k * 7, none⟩ = some (.int .i64 (l2.getD k op0).kind) := hOk.cell 0 _ rfl
          have g1 := hOk.cell 1 _ rfl
          have g2 := hOk.cell 2 _ rfl
          have g3 := hOk.cell 3 _ rfl
          have g4 := hOk.cell 4 _ rfl
          have g5 := hOk.cell 5 _ rfl
          have g6 := hOk.cell 6 _ rfl
          obtain ⟨wx, hwx⟩ : ∃ wx, wx = wr.alloc (.cells (opc (l2.getD k op0) ub ucb).toArray TO) := ⟨_, rfl⟩
          have HC := hd (HTk.out.actDown hOk HSA.out HDN.out hwx)
          have HX := hd hwx
          clear hOk hwx HTk
          generalize l2.getD k op0 = p at *
          obtain ⟨kind, nm, to, dat, on, om, dn⟩ := p
          simp only [opc] at c0 g1 g2 g3 g4 g5 g6 HC HX
          go_wp2_with fail
          rw [← HX.out]
          refine Calls.mono HC.out ?_
          rintro e wy ⟨r, rfl, hr, hTy, cy⟩
          have HTy := hd hTy
          have HR := hd hr
          clear hTy hr HC c0 g1 g2 g3 g4 g5 g6
          by_cases q1 : 1 ≤ kind
          · by_cases q2 : kind ≤ 7
            · obtain rfl := HR.out q1 q2
              clear HR
              go_wp2_with fail
              go_roundw
              case rel => exact ⟨k + 1, by omega, by go_num, HTy.out⟩
              case measure => simp [intOf]; omega
            · clear HR
              go_wp2_with fail
              go_roundw
              case rel => exact ⟨k + 1, by omega, by go_num, HTy.out⟩
              case measure => simp [intOf]; omega
          · clear HR
            go_wp2_with fail
            go_roundw
            case rel => exact ⟨k + 1, by omega, by go_num, HTy.out⟩
            case measure => simp [intOf]; omega
        · obtain rfl : l2.length = k := by omega
          have hcn : T.fs.length ≤ 3300000000200 := by have := HTk.out.goodR.cnt; omega
          have HF9 := hd (HTk.out.tellL (all := true) fun O hK => files_is wr d O _ hK HSA2.out)
          clear HTk
          go_wp2_with fail
          refine Calls.mono HF9.out ?_
          rintro e w10 ⟨va, lo, rfl, hA, hT10⟩
          have HG := hd (hT10.tellR (all := true) hA fun O hK => files_is w10 d2 O T hK (by omega))
          clear hA hT10 HF9
          go_wp2_with fail
          refine Calls.mono HG.out ?_
          rintro e w11 ⟨vb, lo', rfl, hA, hB, hT11⟩
          have HSF := hd (hT11.same hA hB (by rw [told_count, HFS.out]; exact hcn) (told_fs HFS.out true))
          clear hA hB hT11 HG
          go_wp2_with fail
          refine Calls.mono HSF.out ?_
          rintro e w12 ⟨rfl, hT12⟩
          have HF12 := hd (hT12.tellL (all := false) fun O hK => lasting_is w12 d O _ hK HSA2.out)
          clear hT12 HSF
          go_wp2_with fail
          refine Calls.mono HF12.out ?_
          rintro e w13 ⟨vc, lo2, rfl, hA, hT13⟩
          have HG2 := hd (hT13.tellR (all := false) hA fun O hK => lasting_is w13 d2 O T hK (by omega))
          clear hA hT13 HF12
          go_wp2_with fail
          refine Calls.mono HG2.out ?_
          rintro e w14 ⟨vd, lo3, rfl, hA, hB, hT14⟩
          have HSF2 := hd (hT14.same hA hB (by rw [told_count, HFS.out]; exact hcn) (told_fs HFS.out false))
          clear hA hB hT14 HG2
          go_wp2_with fail
          refine Calls.mono HSF2.out ?_
          rintro e w15 ⟨rfl, hT15⟩
          have HC15 := hd (hT15.callL fun O hK _ => crash_is w15 d O S2 keep hK)
          clear hT15 HSF2
          go_wp2_with fail
          refine Calls.mono HC15.out ?_
          rintro e w16 ⟨rfl, hT16⟩
          have HC16 := hd (hT16.callR fun O hK _ => crash_is w16 d2 O T keep hK)
          clear hT16 HC15
          go_wp2_with fail
          refine Calls.mono HC16.out ?_
          rintro e w17 ⟨rfl, hT17⟩
          have HF17 := hd (hT17.tellL (all := true) fun O hK => files_is w17 d O _ hK HSA2.out)
          clear hT17 HC16
          go_wp2_with fail
          refine Calls.mono HF17.out ?_
          rintro e w18 ⟨ve, lo4, rfl, hA, hT18⟩
          have HG18 := hd (hT18.tellR (all := true) hA fun O hK => files_is w18 d2 O _ hK (by show T.acts ≤ _; omega))
          clear hA hT18 HF17
          go_wp2_with fail
          refine Calls.mono HG18.out ?_
          rintro e w19 ⟨vf, lo5, rfl, hA, hB, hT19⟩
          have HSF3 := hd (hT19.same hA hB (by rw [told_count]; show (S2.fs.map _).length ≤ _; rw [List.length_map, HFS.out]; exact hcn) (told_fs (show S2.fs.map _ = T.fs.map _ by rw [HFS.out]) true))
          clear hA hB hT19 HG18
          go_wp2_with fail
          refine Calls.mono HSF3.out ?_
          rintro e w20 ⟨rfl, hT20⟩
          have HD20 := hd (hT20.downL (x := false) rfl)
          have HB20 := hd (two_tr HB0.out (below_leX hT20.bel HB0.out.size))
          clear hT20 HSF3
          go_wp2_with fail
          refine Calls.mono HD20.out ?_
          rintro e w21 ⟨rfl, hw21⟩
          rw [hw21]
          clear hw21
          go_wp2_with fail
          go_ret
          exact ⟨rfl, HB20.out⟩
    · subst hdn
      obtain ⟨T, hT⟩ : ∃ T, T = S := ⟨_, rfl⟩
      have HFS : Hid (S2.fs = T.fs) := by rw [hT]; exact HF.out
      have hTa : T.acts ≤ S.acts + 1 := by rw [hT]; omega
      have HT7 : Hid (Two W0.heap.size W0 d d2 S2 T w4) := by rw [hT]; exact HT4.out
      clear HF HT4 hT
      go_wp2_with fail
      go_loopw [16] (fun i wr => ∃ k : Nat, k ≤ l2.length ∧ i = .int .i64 (k : Int) ∧ Two W0.heap.size W0 d d2 S2 T wr) (fun i _ => l2.length - (intOf i).toNat)
      case atStart => exact ⟨0, by omega, rfl, HT7.out⟩
      case round =>
        obtain ⟨k, hk, rfl, hTk⟩ := hrel
        have HTk := hd hTk
        clear hTk HT7
        by_cases hlt : k < l2.length
        · rcases HS2.out with ⟨rfl, _⟩ | ⟨sb, so, c, he, hlc, hcm, hsb, hop⟩
          · simp at hlt
          injection he with he1 he2 he3
          subst he1 he3
          obtain ⟨ub, ucb, hO0⟩ := hop k hlt
          have hOk := hO0.keep HTk.out.bel hsb
          clear hO0 hop
          have c0 : wr.cell? ⟨sb, so + k * 7, none⟩ = some (.int .i64 (l2.getD k op0).kind) := hOk.cell 0 _ rfl
          have g1 := hOk.cell 1 _ rfl
          have g2 := hOk.cell 2 _ rfl
          have g3 := hOk.cell 3 _ rfl
          have g4 := hOk.cell 4 _ rfl
          have g5 := hOk.cell 5 _ rfl
          have g6 := hOk.cell 6 _ rfl
          obtain ⟨wx, hwx⟩ : ∃ wx, wx = wr.alloc (.cells (opc (l2.getD k op0) ub ucb).toArray TO) := ⟨_, rfl⟩
          have HC := hd (HTk.out.actDown hOk HSA.out HDN.out hwx)
          have HX := hd hwx
          clear hOk hwx HTk
          generalize l2.getD k op0 = p at *
          obtain ⟨kind, nm, to, dat, on, om, dn⟩ := p
          simp only [opc] at c0 g1 g2 g3 g4 g5 g6 HC HX
          go_wp2_with fail
          rw [← HX.out]
          refine Calls.mono HC.out ?_
          rintro e wy ⟨r, rfl, hr, hTy, cy⟩
          have HTy := hd hTy
          have HR := hd hr
          clear hTy hr HC c0 g1 g2 g3 g4 g5 g6
          by_cases q1 : 1 ≤ kind
          · by_cases q2 : kind ≤ 7
            · obtain rfl := HR.out q1 q2
              clear HR
              go_wp2_with fail
              go_roundw
              case rel => exact ⟨k + 1, by omega, by go_num, HTy.out⟩
              case measure => simp [intOf]; omega
            · clear HR
              go_wp2_with fail
              go_roundw
              case rel => exact ⟨k + 1, by omega, by go_num, HTy.out⟩
              case measure => simp [intOf]; omega
          · clear HR
            go_wp2_with fail
            go_roundw
            case rel => exact ⟨k + 1, by omega, by go_num, HTy.out⟩
            case measure => simp [intOf]; omega
        · obtain rfl : l2.length = k := by omega
          have hcn : T.fs.length ≤ 3300000000200 := by have := HTk.out.goodR.cnt; omega
          have HF9 := hd (HTk.out.tellL (all := true) fun O hK => files_is wr d O _ hK HSA2.out)
          clear HTk
          go_wp2_with fail
          refine Calls.mono HF9.out ?_
          rintro e w10 ⟨va, lo, rfl, hA, hT10⟩
          have HG := hd (hT10.tellR (all := true) hA fun O hK => files_is w10 d2 O T hK (by omega))
          clear hA hT10 HF9
          go_wp2_with fail
          refine Calls.mono HG.out ?_
          rintro e w11 ⟨vb, lo', rfl, hA, hB, hT11⟩
          have HSF := hd (hT11.same hA hB (by rw [told_count, HFS.out]; exact hcn) (told_fs HFS.out true))
          clear hA hB hT11 HG
          go_wp2_with fail
          refine Calls.mono HSF.out ?_
          rintro e w12 ⟨rfl, hT12⟩
          have HF12 := hd (hT12.tellL (all := false) fun O hK => lasting_is w12 d O _ hK HSA2.out)
          clear hT12 HSF
          go_wp2_with fail
          refine Calls.mono HF12.out ?_
          rintro e w13 ⟨vc, lo2, rfl, hA, hT13⟩
          have HG2 := hd (hT13.tellR (all := false) hA fun O hK => lasting_is w13 d2 O T hK (by omega))
          clear hA hT13 HF12
          go_wp2_with fail
          refine Calls.mono HG2.out ?_
          rintro e w14 ⟨vd, lo3, rfl, hA, hB, hT14⟩
          have HSF2 := hd (hT14.same hA hB (by rw [told_count, HFS.out]; exact hcn) (told_fs HFS.out false))
          clear hA hB hT14 HG2
          go_wp2_with fail
          refine Calls.mono HSF2.out ?_
          rintro e w15 ⟨rfl, hT15⟩
          have HC15 := hd (hT15.callL fun O hK _ => crash_is w15 d O S2 keep hK)
          clear hT15 HSF2
          go_wp2_with fail
          refine Calls.mono HC15.out ?_
          rintro e w16 ⟨rfl, hT16⟩
          have HC16 := hd (hT16.callR fun O hK _ => crash_is w16 d2 O T keep hK)
          clear hT16 HC15
          go_wp2_with fail
          refine Calls.mono HC16.out ?_
          rintro e w17 ⟨rfl, hT17⟩
          have HF17 := hd (hT17.tellL (all := true) fun O hK => files_is w17 d O _ hK HSA2.out)
          clear hT17 HC16
          go_wp2_with fail
          refine Calls.mono HF17.out ?_
          rintro e w18 ⟨ve, lo4, rfl, hA, hT18⟩
          have HG18 := hd (hT18.tellR (all := true) hA fun O hK => files_is w18 d2 O _ hK (by show T.acts ≤ _; omega))
          clear hA hT18 HF17
          go_wp2_with fail
          refine Calls.mono HG18.out ?_
          rintro e w19 ⟨vf, lo5, rfl, hA, hB, hT19⟩
          have HSF3 := hd (hT19.same hA hB (by rw [told_count]; show (S2.fs.map _).length ≤ _; rw [List.length_map, HFS.out]; exact hcn) (told_fs (show S2.fs.map _ = T.fs.map _ by rw [HFS.out]) true))
          clear hA hB hT19 HG18
          go_wp2_with fail
          refine Calls.mono HSF3.out ?_
          rintro e w20 ⟨rfl, hT20⟩
          have HD20 := hd (hT20.downL (x := false) rfl)
          have HB20 := hd (two_tr HB0.out (below_leX hT20.bel HB0.out.size))
          clear hT20 HSF3
          go_wp2_with fail
          refine Calls.mono HD20.out ?_
          rintro e w21 ⟨rfl, hw21⟩
          rw [hw21]
          clear hw21
          go_wp2_with fail
          go_ret
          exact ⟨rfl, HB20.out⟩
end Dk
end Go.Proofs.Ytijdaohddefbmaa
