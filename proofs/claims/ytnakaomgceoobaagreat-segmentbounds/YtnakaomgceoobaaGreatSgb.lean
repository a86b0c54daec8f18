/-
  SegmentBounds: a segment has one frame, or not more bytes than the limit; the next one was begun only where one frame more would have been too much. The walk. Conditions: those of the written theorem.
-/
import Derived.Test.YtnakaomgceoobaaGreatSg7
namespace Go.Proofs.YtnakaomgceoobaaGreat
open Go.RowKit Go.Maps Go.Sort
namespace Sg
open Vt Dk
theorem fB_pos (l : Ln) (k : Nat) : 9 ≤ (fB l k).length := by unfold fB; rw [en_len]; omega
theorem bnd {lim evy k : Nat} {X : Ws × Ds} (h : Ok lim evy k X) (hk : k < 60) (l : Ln) :
    (stp l k X).1.num = (plc l k X).1 ∧ (plc l k X).2.2 = (fB l k).length ∧ (stp l k X).1.laid ≤ 1000 * (k + 1) ∧ (stp l k X).1.num ≤ 61 ∧
    ((k = 0 ∧ (plc l k X).2.1 = 0 ∧ (stp l k X).1.laid = (fB l k).length ∧ X.1.laid = 0) ∨
     (0 < k ∧ (plc l k X).1 = X.1.num ∧ (plc l k X).2.1 = X.1.laid ∧ X.1.laid + (fB l k).length ≤ lim ∧ (stp l k X).1.laid = X.1.laid + (fB l k).length) ∨
     (0 < k ∧ (plc l k X).1 = X.1.num + 1 ∧ (plc l k X).2.1 = 0 ∧ lim < X.1.laid + (fB l k).length ∧ (stp l k X).1.laid = (fB l k).length)) := by
  obtain ⟨_, _, h3, _, _, _, old, cur0, las, h4, h5, _, h6⟩ := h.step hk l
  have hp := fB_pos l k
  have hld : (stp l k X).1.laid = cur0.length + (fB l k).length := by rw [h4.laid, List.length_append]
  have hlb : (stp l k X).1.laid ≤ 1000 * (k + 1) ∧ (stp l k X).1.num ≤ 61 := by
    rcases h3.at_ with ⟨q, _⟩ | ⟨_, o, c, s, q, q2, q3, _⟩
    · omega
    · rw [q.laid, q.num]; exact ⟨q3, by omega⟩
  refine ⟨by rw [h4.num, h5], by rw [h5], hlb.1, hlb.2, ?_⟩
  rw [h5]
  rcases h6 with ⟨rfl, rfl, rfl⟩ | ⟨o, c, s, hi, ⟨f1, rfl, rfl⟩ | ⟨f1, rfl, rfl⟩⟩
  · refine .inl ⟨rfl, rfl, by rw [hld]; simp, ?_⟩
    rcases h.at_ with ⟨_, q⟩ | ⟨q, _⟩
    · exact q.laid
    · omega
  · have hk0 : 0 < k := by
      rcases Nat.eq_zero_or_pos k with rfl | q
      · rcases h.at_ with ⟨_, q⟩ | ⟨q, _⟩
        · have := q.num; rw [hi.num] at this; omega
        · omega
      · exact q
    refine .inr (.inl ⟨hk0, by rw [hi.num], by rw [hi.laid], ?_, by rw [hld, hi.laid]⟩)
    unfold fit at f1
    simp only [Bool.and_eq_true, Bool.or_eq_true, decide_eq_true_eq] at f1
    rcases f1.2 with q | q
    · rcases h.at_ with ⟨e, _⟩ | ⟨_, o2, c2, s2, q2, _, _, q5⟩
      · omega
      · rw [q2.laid] at q; omega
    · rw [← h.lim]; exact q
  · have hk0 : 0 < k := by
      rcases Nat.eq_zero_or_pos k with rfl | q
      · rcases h.at_ with ⟨_, q⟩ | ⟨q, _⟩
        · have := q.num; rw [hi.num] at this; omega
        · omega
      · exact q
    refine .inr (.inr ⟨hk0, by rw [hi.num]; simp, rfl, ?_, by rw [hld]; simp⟩)
    unfold fit at f1
    have hn : X.1.num ≠ 0 := by rw [hi.num]; omega
    simp only [hn, ne_eq, not_false_eq_true, decide_true, Bool.true_and, Bool.or_eq_false_iff, decide_eq_false_iff_not] at f1
    rw [← h.lim]; omega
set_option maxRecDepth 100000 in
set_option maxHeartbeats 6000000 in
theorem bounds_walk (lim evy : Int) (v : Value) (ls : List Ln) (w : World) (h1 : -9223372036854775808 ≤ lim) (h2 : lim ≤ 9223372036854775807) (h3 : -9223372036854775808 ≤ evy) (h4 : evy ≤ 9223372036854775807) (hL : IsL w.heap.size w v ls) :
    Calls Tryz.prog 3 #[.int .i64 lim, .int .i64 evy, v] w fun e w' => e = .returned (.bool true) ∧ Below w.heap.size w w' := by
  obtain ⟨a, c, rfl⟩ := hL.shape
  have HFR := hd (fresh_is lim evy w h1 h2 h3 h4)
  have HL := hd hL
  have HPK := hd (fun w => pick9_is lim 400 w h1 h2 (by omega) (by omega))
  have p1 := pk_lt lim (n := 400) (by omega)
  clear hL
  go_enter Tryz.func3, Tryz.ntmps3
  go_wp2_with fail
  refine Calls.mono HFR.out ?_
  rintro e w1 ⟨d, b, O, rfl, hK, hB, hbb, hO⟩
  have HWR := hd (written_is w.heap.size w1 b d O lim evy (.slice a ls.length c) ls hK hO hbb hB.size (HL.out.below hB))
  have HB1 := hd hB
  clear hK hO hbb hB
  go_wp2_with fail
  refine Calls.mono (HPK.out _) ?_
  rintro e w2 ⟨rfl, rfl⟩
  go_wp2_with fail
  refine Calls.mono HWR.out ?_
  rintro e w3 ⟨u, rfl, hW⟩
  obtain ⟨n, hn⟩ : ∃ n, n = min ls.length 60 := ⟨_, rfl⟩
  obtain ⟨X, hX⟩ : ∃ X, X = (w0S lim evy, ds0 1000000) := ⟨_, rfl⟩
  have hnl : n ≤ ls.length ∧ n ≤ 60 := by omega
  have HOK : Hid (∀ k, k ≤ 60 → Ok (64 + pk lim 400) (pk evy 6) k (sat ls X k)) := by rw [hX]; exact sat_ok lim evy ls
  rw [← hn, ← hX] at hW
  obtain ⟨ua, uc, hu, _⟩ := hW.row.shape
  rw [List.length_map, pls_len] at hu
  subst hu
  have HW := hd hW
  have HLZ : Hid ((sat ls X 0).1.laid = 0) := by rw [hX]; rfl
  obtain ⟨m, hm⟩ : ∃ m, m = 64 + pk lim 400 := ⟨_, rfl⟩
  have hm2 : (64 : Int) + ((pk lim 400 : Nat) : Int) = (m : Int) := by omega
  rw [← hm] at HOK
  have hm3 : m < 464 := by omega
  have hmx : Tryz.prog.follows .mixedOrders = true := by kernel_rfl
  clear hW hX hn
  rw [hm2]
  clear hm hm2 p1
  go_wp2_with fail
  go_loopw [12, 13] (fun s i wq => ∃ k : Nat, k ≤ n ∧ i = .int .i64 (k : Int) ∧ s = .int .i64 (((sat ls X k).1.laid : Nat) : Int) ∧ Below w3.heap.size w3 wq) (fun _ i _ => n - (intOf i).toNat)
  case atStart => exact ⟨0, by omega, rfl, by rw [HLZ.out]; rfl, Below.refl _ _⟩
  case round =>
    obtain ⟨k, hk, rfl, rfl, hB⟩ := hrel
    have HB := hd hB
    clear hB
    by_cases hlt : k < n
    · have hwB : Below w.heap.size w wr := (HB1.out.trans HW.out.bel).trans (HB.out.mono (Nat.le_trans HB1.out.size HW.out.bel.size))
      obtain ⟨lb, off, l, rfl, hlk, hgd, hks, hvs, d0, d1, d2, d3⟩ := (HL.out.below hwB).at (by omega : k < ls.length)
      have hrow := HW.out.row.keepAll HB.out
      obtain ⟨g, c2, he, _, _⟩ := hrow.nn (by intro e; have := congrArg List.length e; rw [List.length_map, pls_len] at this; simp at this; omega)
      injection he with he1 he2 he3
      subst he1
      have HPV : Hid (∀ k, k < n → 0 < k → ∀ w', Below wr.heap.size wr w' → ∀ j, j + 1 = k → w'.cell? ⟨g, j * 3, none⟩ = some (.int .u32 (((sat ls X k).1.num : Nat) : Int))) := by
        intro k hk hk0 w' hb' j hj
        subst hj
        have h1 := pls_at ls X (show j < n by omega)
        have h2 := (bnd (HOK.out j (by omega)) (by omega) (ls.getD j zl)).1
        have h3 := (hrow.keepAll hb').at j _ 0 _ (by rw [List.getElem?_map, h1]; rfl) rfl
        rw [Nat.add_zero] at h3
        rw [h3]
        show some (Value.int IntKind.u32 (((plc (ls.getD j zl) j (sat ls X j)).1 : Nat) : Int)) = some (Value.int IntKind.u32 (((stp (ls.getD j zl) j (sat ls X j)).1.num : Nat) : Int))
        rw [h2]
      have hpk := pls_at ls X hlt
      rw [hgd] at hpk
      obtain ⟨q1, q2, q3, hq⟩ : ∃ q1 q2 q3, plc l k (sat ls X k) = (q1, q2, q3) := ⟨_, _, _, rfl⟩
      have hbd := bnd (HOK.out k (by omega)) (by omega) l
      have hsn : sat ls X (k + 1) = stp l k (sat ls X k) := by rw [← hgd]; rfl
      rw [← hsn, hq] at hbd
      rw [hq] at hpk
      have hcc := fun (w' : World) (hb' : Below wr.heap.size wr w') (j : Nat) (x : Value) (hx : (plC (q1, q2, q3))[j]? = some x) => (hrow.keepAll hb').at k _ j x (by rw [List.getElem?_map, hpk]; rfl) hx
      have HCC := hd hcc
      have HBD := hd hbd
      clear hcc hrow hwB hbd hsn hq hpk hgd hlk he2 he3
      go_wp2_with fail
      refine Calls.mono (record_is l k wr hks hvs (by omega)) ?_
      rintro e w5 ⟨rfl, hB5⟩
      go_wp2_with fail
      refine Calls.mono (of_is (lnR l k) w5) ?_
      rintro e w6 ⟨rfl, hw6⟩
      have hB6 : Below wr.heap.size wr w6 := by rw [hw6]; exact hB5.trans ((below_two w5 _ _).mono hB5.size)
      have HB6 := hd hB6
      clear hw6 hB5 hB6 d0 d1 d2 d3
      go_wp2_with fail
      refine Calls.mono (encF_all (lnR_wf l k (by omega)) (lnR_rf l k) w6) ?_
      rintro e w7 ⟨v7, rfl, hJ7, hB7⟩
      obtain ⟨va, vc, rfl, _⟩ := hJ7.shape
      have hB7' : Below wr.heap.size wr w7 := HB6.out.trans (hB7.mono HB6.out.size)
      have m0 := HCC.out w7 hB7' 0 _ rfl
      have m1 := HCC.out w7 hB7' 1 _ rfl
      have m2 := HCC.out w7 hB7' 2 _ rfl
      have HB7 := hd hB7'
      have hfl : (en (ofR (lnR l k))).length = (fB l k).length := rfl
      rw [hfl]
      obtain ⟨fl, hfl2⟩ : ∃ fl, fl = (fB l k).length := ⟨_, rfl⟩
      rw [← hfl2] at HBD ⊢
      obtain rfl : q3 = fl := HBD.out.2.1
      clear hJ7 hB7 hB7' hfl hfl2
      go_wp2_with fail
      --REGION b1
      obtain ⟨v0, hv0⟩ : ∃ v0, v0 = w7.drew := ⟨_, rfl⟩
      have HV := hd hv0
      have HB8 : Hid (Below wr.heap.size wr v0) := by rw [hv0]; exact ⟨HB7.out.os, HB7.out.tape, HB7.out.output, HB7.out.size, HB7.out.block⟩
      have hm0 : v0.cell? ⟨g, k * 3, none⟩ = some (.int .u32 (q1 : Int)) := by rw [hv0]; exact m0
      have hm1 : v0.cell? ⟨g, k * 3 + 1, none⟩ = some (.int .i64 (q2 : Int)) := by rw [hv0]; exact m1
      clear m0 m1 m2 hv0
      have m0 := hd hm0
      obtain ⟨ld, hld⟩ : ∃ ld, ld = (sat ls X k).1.laid := ⟨_, rfl⟩
      obtain ⟨le, hle⟩ : ∃ le, le = (sat ls X (k + 1)).1.laid := ⟨_, rfl⟩
      rw [← hld, ← hle] at HBD
      rw [← hld]
      have HLD := hd hld
      have HLE := hd hle
      obtain ⟨b1, b2, b3, b4, b5⟩ := HBD.out
      have hldb : ld < 1000000 := by
        rcases b5 with ⟨_, _, _, q⟩ | ⟨_, _, _, q, _⟩ | ⟨_, _, _, _, _⟩
        · omega
        · omega
        · rcases (HOK.out k (by omega)).at_ with ⟨_, q⟩ | ⟨_, _, _, _, q, _, q2, _⟩
          · have := q.laid; omega
          · have := q.laid; omega
      have hq3b : q3 < 1000000 := by
        rcases b5 with ⟨_, _, q, _⟩ | ⟨_, _, _, _, q⟩ | ⟨_, _, _, _, q⟩ <;> omega
      have HNO : Hid (∀ w', Below wr.heap.size wr w' → ∃ N L : Nat, (k + 1 = n → N = q1 ∧ L = le) ∧ Calls Tryz.prog 11 #[.pointer (some ⟨b, 0, none⟩)] w' fun e w'' => e = .returned (.tuple #[.int .u32 (N : Int), .int .i64 (L : Int)]) ∧ Below w'.heap.size w' w'') := by
        intro w' hb'
        obtain ⟨O9, k9, _⟩ := HW.out.ex
        refine ⟨(sat ls X n).1.num, (sat ls X n).1.laid, fun e => ?_, now_is w' b d O9 _ _ ((k9.below HB.out).below hb')⟩
        rw [← e]; exact ⟨b1, hle.symm⟩
      clear hld hle
      rcases b5 with ⟨hk0, b5, b6, b7⟩ | ⟨hk0, b5, b6, b7, b8⟩ | ⟨hk0, b5, b6, b7, b8⟩
      · have m1 : Hid (v0.cell? ⟨g, k * 3 + 1, none⟩ = some (.int .i64 0)) := by rw [b5] at hm1; exact hm1
        have HNEW : Hid (le = q3) := b6
        have hkp : Hid (decide (0 < k) = false) := by show decide (0 < k) = false; rw [decide_eq_false_iff_not]; omega
        have hk1 : ¬ ((0 : Int) < (k : Int)) := by omega
        clear b5 b6 b7 b1 b2 b3 b4 hm0 hm1 hk0
        refine region_skip (fun i9 v9 _ => match i9 with
          | 0 => v9 = Value.int IntKind.i64 (k : Int)
          | 1 => v9 = .bool false
          | 2 => v9 = .bool false
          | 3 => v9 = undef
          | 4 => v9 = undef
          | 5 => v9 = undef
          | 6 => v9 = undef
          | 7 => v9 = undef
          | 8 => v9 = undef
          | 9 => v9 = undef
          | 10 => v9 = undef
          | 11 => v9 = undef
          | 12 => v9 = undef
          | 13 => v9 = undef
          | 14 => v9 = undef
          | _ => v9 = .bool false) (fun w => w = v0) hmx (by kernel_rfl) (by kernel_rfl) HV.out.symm ?_ ?_ ?_
        · intro i9 v9 w8 w9 _ _ hb hG
          match i9, hG with
          | 0, h => exact h
          | 1, h => exact h
          | 2, h => exact h
          | 3, h => exact h
          | 4, h => exact h
          | 5, h => exact h
          | 6, h => exact h
          | 7, h => exact h
          | 8, h => exact h
          | 9, h => exact h
          | 10, h => exact h
          | 11, h => exact h
          | 12, h => exact h
          | 13, h => exact h
          | 14, h => exact h
          | n + 15, h => exact h
        · intro i9 o9 ho a9 w9 hW hdf hsz hout haf
          have ee13 := getq (show a9.tmps.getD 13 undef = Value.int IntKind.i64 (k : Int) from hout 13 (notDst_spec (by kernel_rfl)))
          have hsz2 : a9.tmps.size = 143 := hsz
          clear hout hsz hdf
          match i9, ho, haf with
          | 0, ho, haf =>
            obtain rfl := Option.some.inj ho
            refine skip_good _ (wanted_none rfl) ?_
            clear haf ho hsz2
            intro K hK
            simp only [List.getElem_toArray, List.getElem_cons_zero] at hK ⊢
            subst hW
            go_simp
            exact hK _ _ ⟨Below.refl _ _, rfl, rfl⟩
          | 1, ho, haf =>
            obtain rfl := Option.some.inj ho
            have f0 := getq (show a9.tmps.getD 66 undef = Value.int IntKind.i64 (k : Int) from haf ⟨0, .data⟩ (by simp) rfl)
            refine skip_good _ (wanted_none rfl) ?_
            clear haf ho hsz2
            intro K hK
            simp only [List.getElem_toArray, List.getElem_cons_succ, List.getElem_cons_zero] at hK ⊢
            subst hW
            have hc0 := hkp.out
            go_simp
            exact hK _ _ ⟨Below.refl _ _, rfl, rfl⟩
          | 2, ho, haf =>
            obtain rfl := Option.some.inj ho
            have f1 := getq (show a9.tmps.getD 67 undef = .bool false from haf ⟨1, .data⟩ (by simp) rfl)
            refine skip_good _ (wanted_none rfl) ?_
            clear haf ho hsz2
            intro K hK
            simp only [List.getElem_toArray, List.getElem_cons_succ, List.getElem_cons_zero] at hK ⊢
            subst hW
            go_simp
            exact hK _ _ ⟨Below.refl _ _, rfl, rfl⟩
          | 3, ho, haf =>
            obtain rfl := Option.some.inj ho
            have gg : a9.tmps.getD 68 undef = .bool false := haf ⟨2, .guard⟩ (by simp) rfl
            exact skip_no (b := false) rfl (yielded_of (d := 68) rfl (by omega) gg) rfl
          | 4, ho, haf =>
            obtain rfl := Option.some.inj ho
            have gg : a9.tmps.getD 68 undef = .bool false := haf ⟨2, .guard⟩ (by simp) rfl
            exact skip_no (b := false) rfl (yielded_of (d := 68) rfl (by omega) gg) rfl
          | 5, ho, haf =>
            obtain rfl := Option.some.inj ho
            have gg : a9.tmps.getD 68 undef = .bool false := haf ⟨2, .guard⟩ (by simp) rfl
            exact skip_no (b := false) rfl (yielded_of (d := 68) rfl (by omega) gg) rfl
          | 6, ho, haf =>
            obtain rfl := Option.some.inj ho
            have gg : a9.tmps.getD 68 undef = .bool false := haf ⟨2, .guard⟩ (by simp) rfl
            exact skip_no (b := false) rfl (yielded_of (d := 68) rfl (by omega) gg) rfl
          | 7, ho, haf =>
            obtain rfl := Option.some.inj ho
            have gg : a9.tmps.getD 68 undef = .bool false := haf ⟨2, .guard⟩ (by simp) rfl
            exact skip_no (b := false) rfl (yielded_of (d := 68) rfl (by omega) gg) rfl
          | 8, ho, haf =>
            obtain rfl := Option.some.inj ho
            have gg : a9.tmps.getD 68 undef = .bool false := haf ⟨2, .guard⟩ (by simp) rfl
            exact skip_no (b := false) rfl (yielded_of (d := 68) rfl (by omega) gg) rfl
          | 9, ho, haf =>
            obtain rfl := Option.some.inj ho
            have gg : a9.tmps.getD 68 undef = .bool false := haf ⟨2, .guard⟩ (by simp) rfl
            exact skip_no (b := false) rfl (yielded_of (d := 68) rfl (by omega) gg) rfl
          | 10, ho, haf =>
            obtain rfl := Option.some.inj ho
            have gg : a9.tmps.getD 68 undef = .bool false := haf ⟨2, .guard⟩ (by simp) rfl
            exact skip_no (b := false) rfl (yielded_of (d := 68) rfl (by omega) gg) rfl
          | 11, ho, haf =>
            obtain rfl := Option.some.inj ho
            have gg : a9.tmps.getD 68 undef = .bool false := haf ⟨2, .guard⟩ (by simp) rfl
            exact skip_no (b := false) rfl (yielded_of (d := 68) rfl (by omega) gg) rfl
          | 12, ho, haf =>
            obtain rfl := Option.some.inj ho
            have gg : a9.tmps.getD 68 undef = .bool false := haf ⟨2, .guard⟩ (by simp) rfl
            exact skip_no (b := false) rfl (yielded_of (d := 68) rfl (by omega) gg) rfl
          | 13, ho, haf =>
            obtain rfl := Option.some.inj ho
            have gg : a9.tmps.getD 68 undef = .bool false := haf ⟨2, .guard⟩ (by simp) rfl
            exact skip_no (b := false) rfl (yielded_of (d := 68) rfl (by omega) gg) rfl
          | 14, ho, haf =>
            obtain rfl := Option.some.inj ho
            have gg : a9.tmps.getD 68 undef = .bool false := haf ⟨2, .guard⟩ (by simp) rfl
            exact skip_no (b := false) rfl (yielded_of (d := 68) rfl (by omega) gg) rfl
          | 15, ho, haf =>
            obtain rfl := Option.some.inj ho
            have f2 := getq (show a9.tmps.getD 68 undef = .bool false from haf ⟨2, .data⟩ (by simp) rfl)
            have f14 := getq (show a9.tmps.getD 80 undef = undef from haf ⟨14, .data⟩ (by simp) rfl)
            refine skip_good _ (wanted_none rfl) ?_
            clear haf ho hsz2
            intro K hK
            simp only [List.getElem_toArray, List.getElem_cons_succ, List.getElem_cons_zero] at hK ⊢
            subst hW
            go_simp
            exact hK _ _ ⟨Below.refl _ _, rfl, rfl⟩
          | n + 16, ho, haf => simp at ho
        · intro aa w9 hW hdf hsz hout hall
          have hat : aa.tmps = #[Value.int IntKind.i64 lim, Value.int IntKind.i64 evy, Value.slice (some { block := lb, off := off }) ls.length c, undef, undef, undef, u6, Value.pointer (some { block := d, off := 0 }), Value.pointer (some { block := b, off := 0 }), Value.int IntKind.i64 (m : Int), Value.slice (some { block := g, off := 0 }) n uc, Value.bool true, Value.int IntKind.i64 (ld : Int), Value.int IntKind.i64 (k : Int), Value.slice va q3 vc, Value.int IntKind.i64 0, u16, u17, Value.tuple #[Value.pointer (some { block := d, off := 0 }), Value.pointer (some { block := b, off := 0 })], Value.int IntKind.i64 lim, Value.int IntKind.i64 evy, Value.tuple #[Value.pointer (some { block := d, off := 0 }), Value.pointer (some { block := b, off := 0 })], Value.pointer (some { block := d, off := 0 }), Value.pointer (some { block := b, off := 0 }), Value.pointer (some { block := d, off := 0 }), Value.bool false, Value.int IntKind.i64 lim, Value.int IntKind.i64 ((pk lim 400 : Nat) : Int), Value.int IntKind.i64 (m : Int), Value.tuple #[Value.slice (some { block := g, off := 0 }) n uc, Value.bool true], Value.pointer (some { block := b, off := 0 }), Value.slice (some { block := lb, off := off }) ls.length c, Value.tuple #[Value.slice (some { block := g, off := 0 }) n uc, Value.bool true], Value.slice (some { block := g, off := 0 }) n uc, Value.bool true, Value.bool true, Value.bool false, Value.int IntKind.i64 (k : Int), Value.slice (some { block := g, off := 0 }) n uc, Value.int IntKind.i64 (n : Int), Value.bool true, u41, u42, Value.tuple #[Value.slice va q3 vc, Value.int IntKind.i64 0], Value.slice (some { block := lb, off := off }) ls.length c, Value.int IntKind.i64 (k : Int), Value.pointer (some { block := lb, off := off + k * 4 }), Value.agg #[Value.string l.key, Value.string l.val, Value.bool l.gone, Value.bool l.syn], Value.int IntKind.i64 (k : Int), Value.agg (rv (lnR l k)), Value.agg (fv (ofR (lnR l k))), Value.tuple #[Value.slice va q3 vc, Value.int IntKind.i64 0], Value.slice va q3 vc, Value.int IntKind.i64 0, Value.int IntKind.i64 0, Value.bool false, Value.bool false, Value.slice (some { block := g, off := 0 }) n uc, Value.int IntKind.i64 (k : Int), Value.pointer (some { block := g, off := k * 3 }), Value.pointer (some { block := g, off := k * 3 + 2 }), Value.int IntKind.i64 (q3 : Int), Value.slice va q3 vc, Value.int IntKind.i64 (q3 : Int), Value.bool false, Value.bool false, Value.int IntKind.i64 (k : Int), .bool false, .bool false, undef, undef, undef, undef, undef, undef, undef, undef, undef, undef, undef, undef, .bool false, u82, u83, u84, u85, u86, u87, u88, u89, u90, u91, u92, u93, u94, u95, u96, u97, u98, u99, u100, u101, u102, u103, u104, u105, u106, u107, u108, u109, u110, u111, u112, u113, u114, u115, u116, u117, u118, u119, u120, u121, u122, u123, u124, u125, u126, u127, u128, u129, u130, u131, u132, u133, u134, u135, u136, u137, u138, u139, u140, u141, u142] := by
            refine arr_one (hsz.trans rfl) fun kk hkk => ?_
            match kk, hkk with
            | 0, _ => exact hout 0 (notDst_spec (by kernel_rfl))
            | 1, _ => exact hout 1 (notDst_spec (by kernel_rfl))
            | 2, _ => exact hout 2 (notDst_spec (by kernel_rfl))
            | 3, _ => exact hout 3 (notDst_spec (by kernel_rfl))
            | 4, _ => exact hout 4 (notDst_spec (by kernel_rfl))
            | 5, _ => exact hout 5 (notDst_spec (by kernel_rfl))
            | 6, _ => exact hout 6 (notDst_spec (by kernel_rfl))
            | 7, _ => exact hout 7 (notDst_spec (by kernel_rfl))
            | 8, _ => exact hout 8 (notDst_spec (by kernel_rfl))
            | 9, _ => exact hout 9 (notDst_spec (by kernel_rfl))
            | 10, _ => exact hout 10 (notDst_spec (by kernel_rfl))
            | 11, _ => exact hout 11 (notDst_spec (by kernel_rfl))
            | 12, _ => exact hout 12 (notDst_spec (by kernel_rfl))
            | 13, _ => exact hout 13 (notDst_spec (by kernel_rfl))
            | 14, _ => exact hout 14 (notDst_spec (by kernel_rfl))
            | 15, _ => exact hout 15 (notDst_spec (by kernel_rfl))
            | 16, _ => exact hout 16 (notDst_spec (by kernel_rfl))
            | 17, _ => exact hout 17 (notDst_spec (by kernel_rfl))
            | 18, _ => exact hout 18 (notDst_spec (by kernel_rfl))
            | 19, _ => exact hout 19 (notDst_spec (by kernel_rfl))
            | 20, _ => exact hout 20 (notDst_spec (by kernel_rfl))
            | 21, _ => exact hout 21 (notDst_spec (by kernel_rfl))
            | 22, _ => exact hout 22 (notDst_spec (by kernel_rfl))
            | 23, _ => exact hout 23 (notDst_spec (by kernel_rfl))
            | 24, _ => exact hout 24 (notDst_spec (by kernel_rfl))
            | 25, _ => exact hout 25 (notDst_spec (by kernel_rfl))
            | 26, _ => exact hout 26 (notDst_spec (by kernel_rfl))
            | 27, _ => exact hout 27 (notDst_spec (by kernel_rfl))
            | 28, _ => exact hout 28 (notDst_spec (by kernel_rfl))
            | 29, _ => exact hout 29 (notDst_spec (by kernel_rfl))
            | 30, _ => exact hout 30 (notDst_spec (by kernel_rfl))
            | 31, _ => exact hout 31 (notDst_spec (by kernel_rfl))
            | 32, _ => exact hout 32 (notDst_spec (by kernel_rfl))
            | 33, _ => exact hout 33 (notDst_spec (by kernel_rfl))
            | 34, _ => exact hout 34 (notDst_spec (by kernel_rfl))
            | 35, _ => exact hout 35 (notDst_spec (by kernel_rfl))
            | 36, _ => exact hout 36 (notDst_spec (by kernel_rfl))
            | 37, _ => exact hout 37 (notDst_spec (by kernel_rfl))
            | 38, _ => exact hout 38 (notDst_spec (by kernel_rfl))
            | 39, _ => exact hout 39 (notDst_spec (by kernel_rfl))
            | 40, _ => exact hout 40 (notDst_spec (by kernel_rfl))
            | 41, _ => exact hout 41 (notDst_spec (by kernel_rfl))
            | 42, _ => exact hout 42 (notDst_spec (by kernel_rfl))
            | 43, _ => exact hout 43 (notDst_spec (by kernel_rfl))
            | 44, _ => exact hout 44 (notDst_spec (by kernel_rfl))
            | 45, _ => exact hout 45 (notDst_spec (by kernel_rfl))
            | 46, _ => exact hout 46 (notDst_spec (by kernel_rfl))
            | 47, _ => exact hout 47 (notDst_spec (by kernel_rfl))
            | 48, _ => exact hout 48 (notDst_spec (by kernel_rfl))
            | 49, _ => exact hout 49 (notDst_spec (by kernel_rfl))
            | 50, _ => exact hout 50 (notDst_spec (by kernel_rfl))
            | 51, _ => exact hout 51 (notDst_spec (by kernel_rfl))
            | 52, _ => exact hout 52 (notDst_spec (by kernel_rfl))
            | 53, _ => exact hout 53 (notDst_spec (by kernel_rfl))
            | 54, _ => exact hout 54 (notDst_spec (by kernel_rfl))
            | 55, _ => exact hout 55 (notDst_spec (by kernel_rfl))
            | 56, _ => exact hout 56 (notDst_spec (by kernel_rfl))
            | 57, _ => exact hout 57 (notDst_spec (by kernel_rfl))
            | 58, _ => exact hout 58 (notDst_spec (by kernel_rfl))
            | 59, _ => exact hout 59 (notDst_spec (by kernel_rfl))
            | 60, _ => exact hout 60 (notDst_spec (by kernel_rfl))
            | 61, _ => exact hout 61 (notDst_spec (by kernel_rfl))
            | 62, _ => exact hout 62 (notDst_spec (by kernel_rfl))
            | 63, _ => exact hout 63 (notDst_spec (by kernel_rfl))
            | 64, _ => exact hout 64 (notDst_spec (by kernel_rfl))
            | 65, _ => exact hout 65 (notDst_spec (by kernel_rfl))
            | 66, _ => exact hall 0 (by decide)
            | 67, _ => exact hall 1 (by decide)
            | 68, _ => exact hall 2 (by decide)
            | 69, _ => exact hall 3 (by decide)
            | 70, _ => exact hall 4 (by decide)
            | 71, _ => exact hall 5 (by decide)
            | 72, _ => exact hall 6 (by decide)
            | 73, _ => exact hall 7 (by decide)
            | 74, _ => exact hall 8 (by decide)
            | 75, _ => exact hall 9 (by decide)
            | 76, _ => exact hall 10 (by decide)
            | 77, _ => exact hall 11 (by decide)
            | 78, _ => exact hall 12 (by decide)
            | 79, _ => exact hall 13 (by decide)
            | 80, _ => exact hall 14 (by decide)
            | 81, _ => exact hall 15 (by decide)
            | 82, _ => exact hout 82 (notDst_spec (by kernel_rfl))
            | 83, _ => exact hout 83 (notDst_spec (by kernel_rfl))
            | 84, _ => exact hout 84 (notDst_spec (by kernel_rfl))
            | 85, _ => exact hout 85 (notDst_spec (by kernel_rfl))
            | 86, _ => exact hout 86 (notDst_spec (by kernel_rfl))
            | 87, _ => exact hout 87 (notDst_spec (by kernel_rfl))
            | 88, _ => exact hout 88 (notDst_spec (by kernel_rfl))
            | 89, _ => exact hout 89 (notDst_spec (by kernel_rfl))
            | 90, _ => exact hout 90 (notDst_spec (by kernel_rfl))
            | 91, _ => exact hout 91 (notDst_spec (by kernel_rfl))
            | 92, _ => exact hout 92 (notDst_spec (by kernel_rfl))
            | 93, _ => exact hout 93 (notDst_spec (by kernel_rfl))
            | 94, _ => exact hout 94 (notDst_spec (by kernel_rfl))
            | 95, _ => exact hout 95 (notDst_spec (by kernel_rfl))
            | 96, _ => exact hout 96 (notDst_spec (by kernel_rfl))
            | 97, _ => exact hout 97 (notDst_spec (by kernel_rfl))
            | 98, _ => exact hout 98 (notDst_spec (by kernel_rfl))
            | 99, _ => exact hout 99 (notDst_spec (by kernel_rfl))
            | 100, _ => exact hout 100 (notDst_spec (by kernel_rfl))
            | 101, _ => exact hout 101 (notDst_spec (by kernel_rfl))
            | 102, _ => exact hout 102 (notDst_spec (by kernel_rfl))
            | 103, _ => exact hout 103 (notDst_spec (by kernel_rfl))
            | 104, _ => exact hout 104 (notDst_spec (by kernel_rfl))
            | 105, _ => exact hout 105 (notDst_spec (by kernel_rfl))
            | 106, _ => exact hout 106 (notDst_spec (by kernel_rfl))
            | 107, _ => exact hout 107 (notDst_spec (by kernel_rfl))
            | 108, _ => exact hout 108 (notDst_spec (by kernel_rfl))
            | 109, _ => exact hout 109 (notDst_spec (by kernel_rfl))
            | 110, _ => exact hout 110 (notDst_spec (by kernel_rfl))
            | 111, _ => exact hout 111 (notDst_spec (by kernel_rfl))
            | 112, _ => exact hout 112 (notDst_spec (by kernel_rfl))
            | 113, _ => exact hout 113 (notDst_spec (by kernel_rfl))
            | 114, _ => exact hout 114 (notDst_spec (by kernel_rfl))
            | 115, _ => exact hout 115 (notDst_spec (by kernel_rfl))
            | 116, _ => exact hout 116 (notDst_spec (by kernel_rfl))
            | 117, _ => exact hout 117 (notDst_spec (by kernel_rfl))
            | 118, _ => exact hout 118 (notDst_spec (by kernel_rfl))
            | 119, _ => exact hout 119 (notDst_spec (by kernel_rfl))
            | 120, _ => exact hout 120 (notDst_spec (by kernel_rfl))
            | 121, _ => exact hout 121 (notDst_spec (by kernel_rfl))
            | 122, _ => exact hout 122 (notDst_spec (by kernel_rfl))
            | 123, _ => exact hout 123 (notDst_spec (by kernel_rfl))
            | 124, _ => exact hout 124 (notDst_spec (by kernel_rfl))
            | 125, _ => exact hout 125 (notDst_spec (by kernel_rfl))
            | 126, _ => exact hout 126 (notDst_spec (by kernel_rfl))
            | 127, _ => exact hout 127 (notDst_spec (by kernel_rfl))
            | 128, _ => exact hout 128 (notDst_spec (by kernel_rfl))
            | 129, _ => exact hout 129 (notDst_spec (by kernel_rfl))
            | 130, _ => exact hout 130 (notDst_spec (by kernel_rfl))
            | 131, _ => exact hout 131 (notDst_spec (by kernel_rfl))
            | 132, _ => exact hout 132 (notDst_spec (by kernel_rfl))
            | 133, _ => exact hout 133 (notDst_spec (by kernel_rfl))
            | 134, _ => exact hout 134 (notDst_spec (by kernel_rfl))
            | 135, _ => exact hout 135 (notDst_spec (by kernel_rfl))
            | 136, _ => exact hout 136 (notDst_spec (by kernel_rfl))
            | 137, _ => exact hout 137 (notDst_spec (by kernel_rfl))
            | 138, _ => exact hout 138 (notDst_spec (by kernel_rfl))
            | 139, _ => exact hout 139 (notDst_spec (by kernel_rfl))
            | 140, _ => exact hout 140 (notDst_spec (by kernel_rfl))
            | 141, _ => exact hout 141 (notDst_spec (by kernel_rfl))
            | 142, _ => exact hout 142 (notDst_spec (by kernel_rfl))
            | n + 143, h => exact absurd h (by simp)
          obtain ⟨tt, dd⟩ := aa
          simp only at hat hdf
          subst hat hdf
          clear hsz hout hall
          subst hW
          have c0 := m0.out
          have c1 := m1.out
          obtain ⟨N, L, hNL, hNO⟩ := HNO.out _ HB8.out
          by_cases hlast : k + 1 = n
          · obtain ⟨e1, e2⟩ := hNL hlast
            rw [e1, e2, HNEW.out] at hNO
            have HNOW := hd hNO
            have hil : (((k : Int)) == (n : Int) - 1) = true := by rw [beq_iff_eq]; omega
            clear hNL hNO e1 e2 hlast
            go_simp
            go_wp2_with fail
            refine Calls.mono HNOW.out ?_
            rintro e w10 ⟨rfl, hB10⟩
            have hB11 := HB8.out.trans (hB10.mono HB8.out.size)
            have x0 : w10.cell? ⟨g, k * 3, none⟩ = some (.int .u32 (q1 : Int)) := HCC.out w10 hB11 0 _ rfl
            have HB11 := hd hB11
            clear hB10 hB11 c0 c1
            go_wp2_with fail
            go_roundw
            case rel =>
              exact ⟨k + 1, by omega, by go_num, by rw [← HLE.out, HNEW.out] <;> rfl, HB.out.trans (HB11.out.mono HB.out.size)⟩
            case measure => simp [intOf]; omega
          · have HNOW := hd hNO
            have hil : (((k : Int)) == (n : Int) - 1) = false := by rw [beq_eq_false_iff_ne]; omega
            clear hNL hNO hlast
            go_simp
            go_wp2_with fail
            refine Calls.mono HNOW.out ?_
            rintro e w10 ⟨rfl, hB10⟩
            have hB11 := HB8.out.trans (hB10.mono HB8.out.size)
            have x0 : w10.cell? ⟨g, k * 3, none⟩ = some (.int .u32 (q1 : Int)) := HCC.out w10 hB11 0 _ rfl
            have HB11 := hd hB11
            clear hB10 hB11 c0 c1
            go_wp2_with fail
            go_roundw
            case rel =>
              exact ⟨k + 1, by omega, by go_num, by rw [← HLE.out, HNEW.out] <;> rfl, HB.out.trans (HB11.out.mono HB.out.size)⟩
            case measure => simp [intOf]; omega
      · obtain ⟨j, hj⟩ : ∃ j, j = k - 1 := ⟨_, rfl⟩
        have hkp : Hid (((0 : Int) < (k : Int)) = True) := by show ((0 : Int) < (k : Int)) = True; rw [eq_iff_iff]; simp; omega
        have hk1 : (0 : Int) < (k : Int) := by omega
        have hjw : Hid (IntKind.i64.wrap ((k : Int) - 1) = (j : Int)) := by show IntKind.i64.wrap _ = _; rw [IntKind.wrap_i64]; omega
        have hjn : Hid (j < n) := by show j < n; omega
        obtain ⟨r1, hr1⟩ : ∃ r1, r1 = (sat ls X k).1.num := ⟨_, rfl⟩
        have n0 : Hid (v0.cell? ⟨g, j * 3, none⟩ = some (.int .u32 (r1 : Int))) := by rw [hr1]; exact HPV.out k hlt hk0 v0 HB8.out j (by omega)
        rw [← hr1] at b5
        have m1 : Hid (v0.cell? ⟨g, k * 3 + 1, none⟩ = some (.int .i64 (ld : Int))) := by rw [b6] at hm1; exact hm1
        have hcmp : Hid (((q1 : Int) == (r1 : Int)) = true) := by show ((q1 : Int) == (r1 : Int)) = true; rw [beq_iff_eq]; omega
        have hle : ¬ ((m : Int) < (ld : Int) + (q3 : Int)) := by omega
        have HNEW : Hid (le = ld + q3) := b8
        clear b5 b6 b7 b8 b1 b2 b3 b4 hm0 hm1 hj hr1
        refine region_skip (fun i9 v9 _ => match i9 with
          | 0 => v9 = Value.int IntKind.i64 (k : Int)
          | 1 => v9 = .bool true
          | 2 => v9 = .bool true
          | 3 => v9 = Value.slice (some { block := g, off := 0 }) n uc
          | 4 => v9 = Value.int IntKind.i64 (k : Int)
          | 5 => v9 = .pointer (some ⟨g, k * 3, none⟩)
          | 6 => v9 = .pointer (some ⟨g, k * 3, none⟩)
          | 7 => v9 = .int .u32 (q1 : Int)
          | 8 => v9 = Value.slice (some { block := g, off := 0 }) n uc
          | 9 => v9 = Value.int IntKind.i64 (k : Int)
          | 10 => v9 = .int .i64 (j : Int)
          | 11 => v9 = .pointer (some ⟨g, j * 3, none⟩)
          | 12 => v9 = .pointer (some ⟨g, j * 3, none⟩)
          | 13 => v9 = .int .u32 (r1 : Int)
          | 14 => v9 = .bool true
          | _ => v9 = .bool true) (fun w => w = v0) hmx (by kernel_rfl) (by kernel_rfl) HV.out.symm ?_ ?_ ?_
        · intro i9 v9 w8 w9 _ _ hb hG
          match i9, hG with
          | 0, h => exact h
          | 1, h => exact h
          | 2, h => exact h
          | 3, h => exact h
          | 4, h => exact h
          | 5, h => exact h
          | 6, h => exact h
          | 7, h => exact h
          | 8, h => exact h
          | 9, h => exact h
          | 10, h => exact h
          | 11, h => exact h
          | 12, h => exact h
          | 13, h => exact h
          | 14, h => exact h
          | n + 15, h => exact h
        · intro i9 o9 ho a9 w9 hW hdf hsz hout haf
          have ee10 := getq (show a9.tmps.getD 10 undef = Value.slice (some { block := g, off := 0 }) n uc from hout 10 (notDst_spec (by kernel_rfl)))
          have ee13 := getq (show a9.tmps.getD 13 undef = Value.int IntKind.i64 (k : Int) from hout 13 (notDst_spec (by kernel_rfl)))
          have hsz2 : a9.tmps.size = 143 := hsz
          clear hout hsz hdf
          match i9, ho, haf with
          | 0, ho, haf =>
            obtain rfl := Option.some.inj ho
            refine skip_good _ (wanted_none rfl) ?_
            clear haf ho hsz2
            intro K hK
            simp only [List.getElem_toArray, List.getElem_cons_zero] at hK ⊢
            subst hW
            go_simp
            exact hK _ _ ⟨Below.refl _ _, rfl, rfl⟩
          | 1, ho, haf =>
            obtain rfl := Option.some.inj ho
            have f0 := getq (show a9.tmps.getD 66 undef = Value.int IntKind.i64 (k : Int) from haf ⟨0, .data⟩ (by simp) rfl)
            refine skip_good _ (wanted_none rfl) ?_
            clear haf ho hsz2
            intro K hK
            simp only [List.getElem_toArray, List.getElem_cons_succ, List.getElem_cons_zero] at hK ⊢
            subst hW
            have hc0 := hkp.out
            go_simp
            exact hK _ _ ⟨Below.refl _ _, rfl, rfl⟩
          | 2, ho, haf =>
            obtain rfl := Option.some.inj ho
            have f1 := getq (show a9.tmps.getD 67 undef = .bool true from haf ⟨1, .data⟩ (by simp) rfl)
            refine skip_good _ (wanted_none rfl) ?_
            clear haf ho hsz2
            intro K hK
            simp only [List.getElem_toArray, List.getElem_cons_succ, List.getElem_cons_zero] at hK ⊢
            subst hW
            go_simp
            exact hK _ _ ⟨Below.refl _ _, rfl, rfl⟩
          | 3, ho, haf =>
            obtain rfl := Option.some.inj ho
            have gg : a9.tmps.getD 68 undef = .bool true := haf ⟨2, .guard⟩ (by simp) rfl
            refine skip_good _ (wanted_some rfl (yielded_of (d := 68) rfl (by omega) gg)) ?_
            clear haf ho hsz2 gg
            intro K hK
            simp only [List.getElem_toArray, List.getElem_cons_succ, List.getElem_cons_zero] at hK ⊢
            subst hW
            go_simp
            exact hK _ _ ⟨Below.refl _ _, rfl, rfl⟩
          | 4, ho, haf =>
            obtain rfl := Option.some.inj ho
            have gg : a9.tmps.getD 68 undef = .bool true := haf ⟨2, .guard⟩ (by simp) rfl
            refine skip_good _ (wanted_some rfl (yielded_of (d := 68) rfl (by omega) gg)) ?_
            clear haf ho hsz2 gg
            intro K hK
            simp only [List.getElem_toArray, List.getElem_cons_succ, List.getElem_cons_zero] at hK ⊢
            subst hW
            go_simp
            exact hK _ _ ⟨Below.refl _ _, rfl, rfl⟩
          | 5, ho, haf =>
            obtain rfl := Option.some.inj ho
            have gg : a9.tmps.getD 68 undef = .bool true := haf ⟨2, .guard⟩ (by simp) rfl
            have f3 := getq (show a9.tmps.getD 69 undef = Value.slice (some { block := g, off := 0 }) n uc from haf ⟨3, .data⟩ (by simp) rfl)
            have f4 := getq (show a9.tmps.getD 70 undef = Value.int IntKind.i64 (k : Int) from haf ⟨4, .data⟩ (by simp) rfl)
            refine skip_good _ (wanted_some rfl (yielded_of (d := 68) rfl (by omega) gg)) ?_
            clear haf ho hsz2 gg
            intro K hK
            simp only [List.getElem_toArray, List.getElem_cons_succ, List.getElem_cons_zero] at hK ⊢
            subst hW
            go_simp
            exact hK _ _ ⟨Below.refl _ _, rfl, rfl⟩
          | 6, ho, haf =>
            obtain rfl := Option.some.inj ho
            have gg : a9.tmps.getD 68 undef = .bool true := haf ⟨2, .guard⟩ (by simp) rfl
            have f5 := getq (show a9.tmps.getD 71 undef = .pointer (some ⟨g, k * 3, none⟩) from haf ⟨5, .data⟩ (by simp) rfl)
            refine skip_good _ (wanted_some rfl (yielded_of (d := 68) rfl (by omega) gg)) ?_
            clear haf ho hsz2 gg
            intro K hK
            simp only [List.getElem_toArray, List.getElem_cons_succ, List.getElem_cons_zero] at hK ⊢
            subst hW
            go_simp
            exact hK _ _ ⟨Below.refl _ _, rfl, rfl⟩
          | 7, ho, haf =>
            obtain rfl := Option.some.inj ho
            have gg : a9.tmps.getD 68 undef = .bool true := haf ⟨2, .guard⟩ (by simp) rfl
            have f6 := getq (show a9.tmps.getD 72 undef = .pointer (some ⟨g, k * 3, none⟩) from haf ⟨6, .data⟩ (by simp) rfl)
            refine skip_good _ (wanted_some rfl (yielded_of (d := 68) rfl (by omega) gg)) ?_
            clear haf ho hsz2 gg
            intro K hK
            simp only [List.getElem_toArray, List.getElem_cons_succ, List.getElem_cons_zero] at hK ⊢
            subst hW
            have hc0 := m0.out
            go_simp
            exact hK _ _ ⟨Below.refl _ _, rfl, rfl⟩
          | 8, ho, haf =>
            obtain rfl := Option.some.inj ho
            have gg : a9.tmps.getD 68 undef = .bool true := haf ⟨2, .guard⟩ (by simp) rfl
            refine skip_good _ (wanted_some rfl (yielded_of (d := 68) rfl (by omega) gg)) ?_
            clear haf ho hsz2 gg
            intro K hK
            simp only [List.getElem_toArray, List.getElem_cons_succ, List.getElem_cons_zero] at hK ⊢
            subst hW
            go_simp
            exact hK _ _ ⟨Below.refl _ _, rfl, rfl⟩
          | 9, ho, haf =>
            obtain rfl := Option.some.inj ho
            have gg : a9.tmps.getD 68 undef = .bool true := haf ⟨2, .guard⟩ (by simp) rfl
            refine skip_good _ (wanted_some rfl (yielded_of (d := 68) rfl (by omega) gg)) ?_
            clear haf ho hsz2 gg
            intro K hK
            simp only [List.getElem_toArray, List.getElem_cons_succ, List.getElem_cons_zero] at hK ⊢
            subst hW
            go_simp
            exact hK _ _ ⟨Below.refl _ _, rfl, rfl⟩
          | 10, ho, haf =>
            obtain rfl := Option.some.inj ho
            have gg : a9.tmps.getD 68 undef = .bool true := haf ⟨2, .guard⟩ (by simp) rfl
            have f9 := getq (show a9.tmps.getD 75 undef = Value.int IntKind.i64 (k : Int) from haf ⟨9, .data⟩ (by simp) rfl)
            refine skip_good _ (wanted_some rfl (yielded_of (d := 68) rfl (by omega) gg)) ?_
            clear haf ho hsz2 gg
            intro K hK
            simp only [List.getElem_toArray, List.getElem_cons_succ, List.getElem_cons_zero] at hK ⊢
            subst hW
            have hc0 := hjw.out
            go_simp
            exact hK _ _ ⟨Below.refl _ _, rfl, rfl⟩
          | 11, ho, haf =>
            obtain rfl := Option.some.inj ho
            have gg : a9.tmps.getD 68 undef = .bool true := haf ⟨2, .guard⟩ (by simp) rfl
            have f8 := getq (show a9.tmps.getD 74 undef = Value.slice (some { block := g, off := 0 }) n uc from haf ⟨8, .data⟩ (by simp) rfl)
            have f10 := getq (show a9.tmps.getD 76 undef = .int .i64 (j : Int) from haf ⟨10, .data⟩ (by simp) rfl)
            refine skip_good _ (wanted_some rfl (yielded_of (d := 68) rfl (by omega) gg)) ?_
            clear haf ho hsz2 gg
            intro K hK
            simp only [List.getElem_toArray, List.getElem_cons_succ, List.getElem_cons_zero] at hK ⊢
            subst hW
            have hc0 := hjn.out
            go_simp
            exact hK _ _ ⟨Below.refl _ _, rfl, rfl⟩
          | 12, ho, haf =>
            obtain rfl := Option.some.inj ho
            have gg : a9.tmps.getD 68 undef = .bool true := haf ⟨2, .guard⟩ (by simp) rfl
            have f11 := getq (show a9.tmps.getD 77 undef = .pointer (some ⟨g, j * 3, none⟩) from haf ⟨11, .data⟩ (by simp) rfl)
            refine skip_good _ (wanted_some rfl (yielded_of (d := 68) rfl (by omega) gg)) ?_
            clear haf ho hsz2 gg
            intro K hK
            simp only [List.getElem_toArray, List.getElem_cons_succ, List.getElem_cons_zero] at hK ⊢
            subst hW
            go_simp
            exact hK _ _ ⟨Below.refl _ _, rfl, rfl⟩
          | 13, ho, haf =>
            obtain rfl := Option.some.inj ho
            have gg : a9.tmps.getD 68 undef = .bool true := haf ⟨2, .guard⟩ (by simp) rfl
            have f12 := getq (show a9.tmps.getD 78 undef = .pointer (some ⟨g, j * 3, none⟩) from haf ⟨12, .data⟩ (by simp) rfl)
            refine skip_good _ (wanted_some rfl (yielded_of (d := 68) rfl (by omega) gg)) ?_
            clear haf ho hsz2 gg
            intro K hK
            simp only [List.getElem_toArray, List.getElem_cons_succ, List.getElem_cons_zero] at hK ⊢
            subst hW
            have hc0 := n0.out
            go_simp
            exact hK _ _ ⟨Below.refl _ _, rfl, rfl⟩
          | 14, ho, haf =>
            obtain rfl := Option.some.inj ho
            have gg : a9.tmps.getD 68 undef = .bool true := haf ⟨2, .guard⟩ (by simp) rfl
            have f7 := getq (show a9.tmps.getD 73 undef = .int .u32 (q1 : Int) from haf ⟨7, .data⟩ (by simp) rfl)
            have f13 := getq (show a9.tmps.getD 79 undef = .int .u32 (r1 : Int) from haf ⟨13, .data⟩ (by simp) rfl)
            refine skip_good _ (wanted_some rfl (yielded_of (d := 68) rfl (by omega) gg)) ?_
            clear haf ho hsz2 gg
            intro K hK
            simp only [List.getElem_toArray, List.getElem_cons_succ, List.getElem_cons_zero] at hK ⊢
            subst hW
            have hc0 := hcmp.out
            go_simp
            exact hK _ _ ⟨Below.refl _ _, rfl, rfl⟩
          | 15, ho, haf =>
            obtain rfl := Option.some.inj ho
            have f2 := getq (show a9.tmps.getD 68 undef = .bool true from haf ⟨2, .data⟩ (by simp) rfl)
            have f14 := getq (show a9.tmps.getD 80 undef = .bool true from haf ⟨14, .data⟩ (by simp) rfl)
            refine skip_good _ (wanted_none rfl) ?_
            clear haf ho hsz2
            intro K hK
            simp only [List.getElem_toArray, List.getElem_cons_succ, List.getElem_cons_zero] at hK ⊢
            subst hW
            go_simp
            exact hK _ _ ⟨Below.refl _ _, rfl, rfl⟩
          | n + 16, ho, haf => simp at ho
        · intro aa w9 hW hdf hsz hout hall
          have hat : aa.tmps = #[Value.int IntKind.i64 lim, Value.int IntKind.i64 evy, Value.slice (some { block := lb, off := off }) ls.length c, undef, undef, undef, u6, Value.pointer (some { block := d, off := 0 }), Value.pointer (some { block := b, off := 0 }), Value.int IntKind.i64 (m : Int), Value.slice (some { block := g, off := 0 }) n uc, Value.bool true, Value.int IntKind.i64 (ld : Int), Value.int IntKind.i64 (k : Int), Value.slice va q3 vc, Value.int IntKind.i64 0, u16, u17, Value.tuple #[Value.pointer (some { block := d, off := 0 }), Value.pointer (some { block := b, off := 0 })], Value.int IntKind.i64 lim, Value.int IntKind.i64 evy, Value.tuple #[Value.pointer (some { block := d, off := 0 }), Value.pointer (some { block := b, off := 0 })], Value.pointer (some { block := d, off := 0 }), Value.pointer (some { block := b, off := 0 }), Value.pointer (some { block := d, off := 0 }), Value.bool false, Value.int IntKind.i64 lim, Value.int IntKind.i64 ((pk lim 400 : Nat) : Int), Value.int IntKind.i64 (m : Int), Value.tuple #[Value.slice (some { block := g, off := 0 }) n uc, Value.bool true], Value.pointer (some { block := b, off := 0 }), Value.slice (some { block := lb, off := off }) ls.length c, Value.tuple #[Value.slice (some { block := g, off := 0 }) n uc, Value.bool true], Value.slice (some { block := g, off := 0 }) n uc, Value.bool true, Value.bool true, Value.bool false, Value.int IntKind.i64 (k : Int), Value.slice (some { block := g, off := 0 }) n uc, Value.int IntKind.i64 (n : Int), Value.bool true, u41, u42, Value.tuple #[Value.slice va q3 vc, Value.int IntKind.i64 0], Value.slice (some { block := lb, off := off }) ls.length c, Value.int IntKind.i64 (k : Int), Value.pointer (some { block := lb, off := off + k * 4 }), Value.agg #[Value.string l.key, Value.string l.val, Value.bool l.gone, Value.bool l.syn], Value.int IntKind.i64 (k : Int), Value.agg (rv (lnR l k)), Value.agg (fv (ofR (lnR l k))), Value.tuple #[Value.slice va q3 vc, Value.int IntKind.i64 0], Value.slice va q3 vc, Value.int IntKind.i64 0, Value.int IntKind.i64 0, Value.bool false, Value.bool false, Value.slice (some { block := g, off := 0 }) n uc, Value.int IntKind.i64 (k : Int), Value.pointer (some { block := g, off := k * 3 }), Value.pointer (some { block := g, off := k * 3 + 2 }), Value.int IntKind.i64 (q3 : Int), Value.slice va q3 vc, Value.int IntKind.i64 (q3 : Int), Value.bool false, Value.bool false, Value.int IntKind.i64 (k : Int), .bool true, .bool true, Value.slice (some { block := g, off := 0 }) n uc, Value.int IntKind.i64 (k : Int), .pointer (some ⟨g, k * 3, none⟩), .pointer (some ⟨g, k * 3, none⟩), .int .u32 (q1 : Int), Value.slice (some { block := g, off := 0 }) n uc, Value.int IntKind.i64 (k : Int), .int .i64 (j : Int), .pointer (some ⟨g, j * 3, none⟩), .pointer (some ⟨g, j * 3, none⟩), .int .u32 (r1 : Int), .bool true, .bool true, u82, u83, u84, u85, u86, u87, u88, u89, u90, u91, u92, u93, u94, u95, u96, u97, u98, u99, u100, u101, u102, u103, u104, u105, u106, u107, u108, u109, u110, u111, u112, u113, u114, u115, u116, u117, u118, u119, u120, u121, u122, u123, u124, u125, u126, u127, u128, u129, u130, u131, u132, u133, u134, u135, u136, u137, u138, u139, u140, u141, u142] := by
            refine arr_one (hsz.trans rfl) fun kk hkk => ?_
            match kk, hkk with
            | 0, _ => exact hout 0 (notDst_spec (by kernel_rfl))
            | 1, _ => exact hout 1 (notDst_spec (by kernel_rfl))
            | 2, _ => exact hout 2 (notDst_spec (by kernel_rfl))
            | 3, _ => exact hout 3 (notDst_spec (by kernel_rfl))
            | 4, _ => exact hout 4 (notDst_spec (by kernel_rfl))
            | 5, _ => exact hout 5 (notDst_spec (by kernel_rfl))
            | 6, _ => exact hout 6 (notDst_spec (by kernel_rfl))
            | 7, _ => exact hout 7 (notDst_spec (by kernel_rfl))
            | 8, _ => exact hout 8 (notDst_spec (by kernel_rfl))
            | 9, _ => exact hout 9 (notDst_spec (by kernel_rfl))
            | 10, _ => exact hout 10 (notDst_spec (by kernel_rfl))
            | 11, _ => exact hout 11 (notDst_spec (by kernel_rfl))
            | 12, _ => exact hout 12 (notDst_spec (by kernel_rfl))
            | 13, _ => exact hout 13 (notDst_spec (by kernel_rfl))
            | 14, _ => exact hout 14 (notDst_spec (by kernel_rfl))
            | 15, _ => exact hout 15 (notDst_spec (by kernel_rfl))
            | 16, _ => exact hout 16 (notDst_spec (by kernel_rfl))
            | 17, _ => exact hout 17 (notDst_spec (by kernel_rfl))
            | 18, _ => exact hout 18 (notDst_spec (by kernel_rfl))
            | 19, _ => exact hout 19 (notDst_spec (by kernel_rfl))
            | 20, _ => exact hout 20 (notDst_spec (by kernel_rfl))
            | 21, _ => exact hout 21 (notDst_spec (by kernel_rfl))
            | 22, _ => exact hout 22 (notDst_spec (by kernel_rfl))
            | 23, _ => exact hout 23 (notDst_spec (by kernel_rfl))
            | 24, _ => exact hout 24 (notDst_spec (by kernel_rfl))
            | 25, _ => exact hout 25 (notDst_spec (by kernel_rfl))
            | 26, _ => exact hout 26 (notDst_spec (by kernel_rfl))
            | 27, _ => exact hout 27 (notDst_spec (by kernel_rfl))
            | 28, _ => exact hout 28 (notDst_spec (by kernel_rfl))
            | 29, _ => exact hout 29 (notDst_spec (by kernel_rfl))
            | 30, _ => exact hout 30 (notDst_spec (by kernel_rfl))
            | 31, _ => exact hout 31 (notDst_spec (by kernel_rfl))
            | 32, _ => exact hout 32 (notDst_spec (by kernel_rfl))
            | 33, _ => exact hout 33 (notDst_spec (by kernel_rfl))
            | 34, _ => exact hout 34 (notDst_spec (by kernel_rfl))
            | 35, _ => exact hout 35 (notDst_spec (by kernel_rfl))
            | 36, _ => exact hout 36 (notDst_spec (by kernel_rfl))
            | 37, _ => exact hout 37 (notDst_spec (by kernel_rfl))
            | 38, _ => exact hout 38 (notDst_spec (by kernel_rfl))
            | 39, _ => exact hout 39 (notDst_spec (by kernel_rfl))
            | 40, _ => exact hout 40 (notDst_spec (by kernel_rfl))
            | 41, _ => exact hout 41 (notDst_spec (by kernel_rfl))
            | 42, _ => exact hout 42 (notDst_spec (by kernel_rfl))
            | 43, _ => exact hout 43 (notDst_spec (by kernel_rfl))
            | 44, _ => exact hout 44 (notDst_spec (by kernel_rfl))
            | 45, _ => exact hout 45 (notDst_spec (by kernel_rfl))
            | 46, _ => exact hout 46 (notDst_spec (by kernel_rfl))
            | 47, _ => exact hout 47 (notDst_spec (by kernel_rfl))
            | 48, _ => exact hout 48 (notDst_spec (by kernel_rfl))
            | 49, _ => exact hout 49 (notDst_spec (by kernel_rfl))
            | 50, _ => exact hout 50 (notDst_spec (by kernel_rfl))
            | 51, _ => exact hout 51 (notDst_spec (by kernel_rfl))
            | 52, _ => exact hout 52 (notDst_spec (by kernel_rfl))
            | 53, _ => exact hout 53 (notDst_spec (by kernel_rfl))
            | 54, _ => exact hout 54 (notDst_spec (by kernel_rfl))
            | 55, _ => exact hout 55 (notDst_spec (by kernel_rfl))
            | 56, _ => exact hout 56 (notDst_spec (by kernel_rfl))
            | 57, _ => exact hout 57 (notDst_spec (by kernel_rfl))
            | 58, _ => exact hout 58 (notDst_spec (by kernel_rfl))
            | 59, _ => exact hout 59 (notDst_spec (by kernel_rfl))
            | 60, _ => exact hout 60 (notDst_spec (by kernel_rfl))
            | 61, _ => exact hout 61 (notDst_spec (by kernel_rfl))
            | 62, _ => exact hout 62 (notDst_spec (by kernel_rfl))
            | 63, _ => exact hout 63 (notDst_spec (by kernel_rfl))
            | 64, _ => exact hout 64 (notDst_spec (by kernel_rfl))
            | 65, _ => exact hout 65 (notDst_spec (by kernel_rfl))
            | 66, _ => exact hall 0 (by decide)
            | 67, _ => exact hall 1 (by decide)
            | 68, _ => exact hall 2 (by decide)
            | 69, _ => exact hall 3 (by decide)
            | 70, _ => exact hall 4 (by decide)
            | 71, _ => exact hall 5 (by decide)
            | 72, _ => exact hall 6 (by decide)
            | 73, _ => exact hall 7 (by decide)
            | 74, _ => exact hall 8 (by decide)
            | 75, _ => exact hall 9 (by decide)
            | 76, _ => exact hall 10 (by decide)
            | 77, _ => exact hall 11 (by decide)
            | 78, _ => exact hall 12 (by decide)
            | 79, _ => exact hall 13 (by decide)
            | 80, _ => exact hall 14 (by decide)
            | 81, _ => exact hall 15 (by decide)
            | 82, _ => exact hout 82 (notDst_spec (by kernel_rfl))
            | 83, _ => exact hout 83 (notDst_spec (by kernel_rfl))
            | 84, _ => exact hout 84 (notDst_spec (by kernel_rfl))
            | 85, _ => exact hout 85 (notDst_spec (by kernel_rfl))
            | 86, _ => exact hout 86 (notDst_spec (by kernel_rfl))
            | 87, _ => exact hout 87 (notDst_spec (by kernel_rfl))
            | 88, _ => exact hout 88 (notDst_spec (by kernel_rfl))
            | 89, _ => exact hout 89 (notDst_spec (by kernel_rfl))
            | 90, _ => exact hout 90 (notDst_spec (by kernel_rfl))
            | 91, _ => exact hout 91 (notDst_spec (by kernel_rfl))
            | 92, _ => exact hout 92 (notDst_spec (by kernel_rfl))
            | 93, _ => exact hout 93 (notDst_spec (by kernel_rfl))
            | 94, _ => exact hout 94 (notDst_spec (by kernel_rfl))
            | 95, _ => exact hout 95 (notDst_spec (by kernel_rfl))
            | 96, _ => exact hout 96 (notDst_spec (by kernel_rfl))
            | 97, _ => exact hout 97 (notDst_spec (by kernel_rfl))
            | 98, _ => exact hout 98 (notDst_spec (by kernel_rfl))
            | 99, _ => exact hout 99 (notDst_spec (by kernel_rfl))
            | 100, _ => exact hout 100 (notDst_spec (by kernel_rfl))
            | 101, _ => exact hout 101 (notDst_spec (by kernel_rfl))
            | 102, _ => exact hout 102 (notDst_spec (by kernel_rfl))
            | 103, _ => exact hout 103 (notDst_spec (by kernel_rfl))
            | 104, _ => exact hout 104 (notDst_spec (by kernel_rfl))
            | 105, _ => exact hout 105 (notDst_spec (by kernel_rfl))
            | 106, _ => exact hout 106 (notDst_spec (by kernel_rfl))
            | 107, _ => exact hout 107 (notDst_spec (by kernel_rfl))
            | 108, _ => exact hout 108 (notDst_spec (by kernel_rfl))
            | 109, _ => exact hout 109 (notDst_spec (by kernel_rfl))
            | 110, _ => exact hout 110 (notDst_spec (by kernel_rfl))
            | 111, _ => exact hout 111 (notDst_spec (by kernel_rfl))
            | 112, _ => exact hout 112 (notDst_spec (by kernel_rfl))
            | 113, _ => exact hout 113 (notDst_spec (by kernel_rfl))
            | 114, _ => exact hout 114 (notDst_spec (by kernel_rfl))
            | 115, _ => exact hout 115 (notDst_spec (by kernel_rfl))
            | 116, _ => exact hout 116 (notDst_spec (by kernel_rfl))
            | 117, _ => exact hout 117 (notDst_spec (by kernel_rfl))
            | 118, _ => exact hout 118 (notDst_spec (by kernel_rfl))
            | 119, _ => exact hout 119 (notDst_spec (by kernel_rfl))
            | 120, _ => exact hout 120 (notDst_spec (by kernel_rfl))
            | 121, _ => exact hout 121 (notDst_spec (by kernel_rfl))
            | 122, _ => exact hout 122 (notDst_spec (by kernel_rfl))
            | 123, _ => exact hout 123 (notDst_spec (by kernel_rfl))
            | 124, _ => exact hout 124 (notDst_spec (by kernel_rfl))
            | 125, _ => exact hout 125 (notDst_spec (by kernel_rfl))
            | 126, _ => exact hout 126 (notDst_spec (by kernel_rfl))
            | 127, _ => exact hout 127 (notDst_spec (by kernel_rfl))
            | 128, _ => exact hout 128 (notDst_spec (by kernel_rfl))
            | 129, _ => exact hout 129 (notDst_spec (by kernel_rfl))
            | 130, _ => exact hout 130 (notDst_spec (by kernel_rfl))
            | 131, _ => exact hout 131 (notDst_spec (by kernel_rfl))
            | 132, _ => exact hout 132 (notDst_spec (by kernel_rfl))
            | 133, _ => exact hout 133 (notDst_spec (by kernel_rfl))
            | 134, _ => exact hout 134 (notDst_spec (by kernel_rfl))
            | 135, _ => exact hout 135 (notDst_spec (by kernel_rfl))
            | 136, _ => exact hout 136 (notDst_spec (by kernel_rfl))
            | 137, _ => exact hout 137 (notDst_spec (by kernel_rfl))
            | 138, _ => exact hout 138 (notDst_spec (by kernel_rfl))
            | 139, _ => exact hout 139 (notDst_spec (by kernel_rfl))
            | 140, _ => exact hout 140 (notDst_spec (by kernel_rfl))
            | 141, _ => exact hout 141 (notDst_spec (by kernel_rfl))
            | 142, _ => exact hout 142 (notDst_spec (by kernel_rfl))
            | n + 143, h => exact absurd h (by simp)
          obtain ⟨tt, dd⟩ := aa
          simp only at hat hdf
          subst hat hdf
          clear hsz hout hall
          subst hW
          have c0 := m0.out
          have c1 := m1.out
          obtain ⟨N, L, hNL, hNO⟩ := HNO.out _ HB8.out
          by_cases hlast : k + 1 = n
          · obtain ⟨e1, e2⟩ := hNL hlast
            rw [e1, e2, HNEW.out] at hNO
            have HNOW := hd hNO
            have hil : (((k : Int)) == (n : Int) - 1) = true := by rw [beq_iff_eq]; omega
            clear hNL hNO e1 e2 hlast
            go_simp
            go_wp2_with fail
            refine Calls.mono HNOW.out ?_
            rintro e w10 ⟨rfl, hB10⟩
            have hB11 := HB8.out.trans (hB10.mono HB8.out.size)
            have x0 : w10.cell? ⟨g, k * 3, none⟩ = some (.int .u32 (q1 : Int)) := HCC.out w10 hB11 0 _ rfl
            have HB11 := hd hB11
            clear hB10 hB11 c0 c1
            go_wp2_with fail
            go_roundw
            case rel =>
              exact ⟨k + 1, by omega, by go_num, by rw [← HLE.out, HNEW.out] <;> rfl, HB.out.trans (HB11.out.mono HB.out.size)⟩
            case measure => simp [intOf]; omega
          · have HNOW := hd hNO
            have hil : (((k : Int)) == (n : Int) - 1) = false := by rw [beq_eq_false_iff_ne]; omega
            clear hNL hNO hlast
            go_simp
            go_wp2_with fail
            refine Calls.mono HNOW.out ?_
            rintro e w10 ⟨rfl, hB10⟩
            have hB11 := HB8.out.trans (hB10.mono HB8.out.size)
            have x0 : w10.cell? ⟨g, k * 3, none⟩ = some (.int .u32 (q1 : Int)) := HCC.out w10 hB11 0 _ rfl
            have HB11 := hd hB11
            clear hB10 hB11 c0 c1
            go_wp2_with fail
            go_roundw
            case rel =>
              exact ⟨k + 1, by omega, by go_num, by rw [← HLE.out, HNEW.out] <;> rfl, HB.out.trans (HB11.out.mono HB.out.size)⟩
            case measure => simp [intOf]; omega
      · obtain ⟨j, hj⟩ : ∃ j, j = k - 1 := ⟨_, rfl⟩
        have hkp : Hid (((0 : Int) < (k : Int)) = True) := by show ((0 : Int) < (k : Int)) = True; rw [eq_iff_iff]; simp; omega
        have hk1 : (0 : Int) < (k : Int) := by omega
        have hjw : Hid (IntKind.i64.wrap ((k : Int) - 1) = (j : Int)) := by show IntKind.i64.wrap _ = _; rw [IntKind.wrap_i64]; omega
        have hjn : Hid (j < n) := by show j < n; omega
        obtain ⟨r1, hr1⟩ : ∃ r1, r1 = (sat ls X k).1.num := ⟨_, rfl⟩
        have n0 : Hid (v0.cell? ⟨g, j * 3, none⟩ = some (.int .u32 (r1 : Int))) := by rw [hr1]; exact HPV.out k hlt hk0 v0 HB8.out j (by omega)
        rw [← hr1] at b5
        have m1 : Hid (v0.cell? ⟨g, k * 3 + 1, none⟩ = some (.int .i64 0)) := by rw [b6] at hm1; exact hm1
        have hcmp : Hid (((q1 : Int) == (r1 : Int)) = false) := by show ((q1 : Int) == (r1 : Int)) = false; rw [beq_eq_false_iff_ne]; omega
        have hle : ¬ ((ld : Int) + (q3 : Int) ≤ (m : Int)) := by omega
        have HNEW : Hid (le = q3) := b8
        clear b5 b6 b7 b8 b1 b2 b3 b4 hm0 hm1 hj hr1
        refine region_skip (fun i9 v9 _ => match i9 with
          | 0 => v9 = Value.int IntKind.i64 (k : Int)
          | 1 => v9 = .bool true
          | 2 => v9 = .bool true
          | 3 => v9 = Value.slice (some { block := g, off := 0 }) n uc
          | 4 => v9 = Value.int IntKind.i64 (k : Int)
          | 5 => v9 = .pointer (some ⟨g, k * 3, none⟩)
          | 6 => v9 = .pointer (some ⟨g, k * 3, none⟩)
          | 7 => v9 = .int .u32 (q1 : Int)
          | 8 => v9 = Value.slice (some { block := g, off := 0 }) n uc
          | 9 => v9 = Value.int IntKind.i64 (k : Int)
          | 10 => v9 = .int .i64 (j : Int)
          | 11 => v9 = .pointer (some ⟨g, j * 3, none⟩)
          | 12 => v9 = .pointer (some ⟨g, j * 3, none⟩)
          | 13 => v9 = .int .u32 (r1 : Int)
          | 14 => v9 = .bool false
          | _ => v9 = .bool false) (fun w => w = v0) hmx (by kernel_rfl) (by kernel_rfl) HV.out.symm ?_ ?_ ?_
        · intro i9 v9 w8 w9 _ _ hb hG
          match i9, hG with
          | 0, h => exact h
          | 1, h => exact h
          | 2, h => exact h
          | 3, h => exact h
          | 4, h => exact h
          | 5, h => exact h
          | 6, h => exact h
          | 7, h => exact h
          | 8, h => exact h
          | 9, h => exact h
          | 10, h => exact h
          | 11, h => exact h
          | 12, h => exact h
          | 13, h => exact h
          | 14, h => exact h
          | n + 15, h => exact h
        · intro i9 o9 ho a9 w9 hW hdf hsz hout haf
          have ee10 := getq (show a9.tmps.getD 10 undef = Value.slice (some { block := g, off := 0 }) n uc from hout 10 (notDst_spec (by kernel_rfl)))
          have ee13 := getq (show a9.tmps.getD 13 undef = Value.int IntKind.i64 (k : Int) from hout 13 (notDst_spec (by kernel_rfl)))
          have hsz2 : a9.tmps.size = 143 := hsz
          clear hout hsz hdf
          match i9, ho, haf with
          | 0, ho, haf =>
            obtain rfl := Option.some.inj ho
            refine skip_good _ (wanted_none rfl) ?_
            clear haf ho hsz2
            intro K hK
            simp only [List.getElem_toArray, List.getElem_cons_zero] at hK ⊢
            subst hW
            go_simp
            exact hK _ _ ⟨Below.refl _ _, rfl, rfl⟩
          | 1, ho, haf =>
            obtain rfl := Option.some.inj ho
            have f0 := getq (show a9.tmps.getD 66 undef = Value.int IntKind.i64 (k : Int) from haf ⟨0, .data⟩ (by simp) rfl)
            refine skip_good _ (wanted_none rfl) ?_
            clear haf ho hsz2
            intro K hK
            simp only [List.getElem_toArray, List.getElem_cons_succ, List.getElem_cons_zero] at hK ⊢
            subst hW
            have hc0 := hkp.out
            go_simp
            exact hK _ _ ⟨Below.refl _ _, rfl, rfl⟩
          | 2, ho, haf =>
            obtain rfl := Option.some.inj ho
            have f1 := getq (show a9.tmps.getD 67 undef = .bool true from haf ⟨1, .data⟩ (by simp) rfl)
            refine skip_good _ (wanted_none rfl) ?_
            clear haf ho hsz2
            intro K hK
            simp only [List.getElem_toArray, List.getElem_cons_succ, List.getElem_cons_zero] at hK ⊢
            subst hW
            go_simp
            exact hK _ _ ⟨Below.refl _ _, rfl, rfl⟩
          | 3, ho, haf =>
            obtain rfl := Option.some.inj ho
            have gg : a9.tmps.getD 68 undef = .bool true := haf ⟨2, .guard⟩ (by simp) rfl
            refine skip_good _ (wanted_some rfl (yielded_of (d := 68) rfl (by omega) gg)) ?_
            clear haf ho hsz2 gg
            intro K hK
            simp only [List.getElem_toArray, List.getElem_cons_succ, List.getElem_cons_zero] at hK ⊢
            subst hW
            go_simp
            exact hK _ _ ⟨Below.refl _ _, rfl, rfl⟩
          | 4, ho, haf =>
            obtain rfl := Option.some.inj ho
            have gg : a9.tmps.getD 68 undef = .bool true := haf ⟨2, .guard⟩ (by simp) rfl
            refine skip_good _ (wanted_some rfl (yielded_of (d := 68) rfl (by omega) gg)) ?_
            clear haf ho hsz2 gg
            intro K hK
            simp only [List.getElem_toArray, List.getElem_cons_succ, List.getElem_cons_zero] at hK ⊢
            subst hW
            go_simp
            exact hK _ _ ⟨Below.refl _ _, rfl, rfl⟩
          | 5, ho, haf =>
            obtain rfl := Option.some.inj ho
            have gg : a9.tmps.getD 68 undef = .bool true := haf ⟨2, .guard⟩ (by simp) rfl
            have f3 := getq (show a9.tmps.getD 69 undef = Value.slice (some { block := g, off := 0 }) n uc from haf ⟨3, .data⟩ (by simp) rfl)
            have f4 := getq (show a9.tmps.getD 70 undef = Value.int IntKind.i64 (k : Int) from haf ⟨4, .data⟩ (by simp) rfl)
            refine skip_good _ (wanted_some rfl (yielded_of (d := 68) rfl (by omega) gg)) ?_
            clear haf ho hsz2 gg
            intro K hK
            simp only [List.getElem_toArray, List.getElem_cons_succ, List.getElem_cons_zero] at hK ⊢
            subst hW
            go_simp
            exact hK _ _ ⟨Below.refl _ _, rfl, rfl⟩
          | 6, ho, haf =>
            obtain rfl := Option.some.inj ho
            have gg : a9.tmps.getD 68 undef = .bool true := haf ⟨2, .guard⟩ (by simp) rfl
            have f5 := getq (show a9.tmps.getD 71 undef = .pointer (some ⟨g, k * 3, none⟩) from haf ⟨5, .data⟩ (by simp) rfl)
            refine skip_good _ (wanted_some rfl (yielded_of (d := 68) rfl (by omega) gg)) ?_
            clear haf ho hsz2 gg
            intro K hK
            simp only [List.getElem_toArray, List.getElem_cons_succ, List.getElem_cons_zero] at hK ⊢
            subst hW
            go_simp
            exact hK _ _ ⟨Below.refl _ _, rfl, rfl⟩
          | 7, ho, haf =>
            obtain rfl := Option.some.inj ho
            have gg : a9.tmps.getD 68 undef = .bool true := haf ⟨2, .guard⟩ (by simp) rfl
            have f6 := getq (show a9.tmps.getD 72 undef = .pointer (some ⟨g, k * 3, none⟩) from haf ⟨6, .data⟩ (by simp) rfl)
            refine skip_good _ (wanted_some rfl (yielded_of (d := 68) rfl (by omega) gg)) ?_
            clear haf ho hsz2 gg
            intro K hK
            simp only [List.getElem_toArray, List.getElem_cons_succ, List.getElem_cons_zero] at hK ⊢
            subst hW
            have hc0 := m0.out
            go_simp
            exact hK _ _ ⟨Below.refl _ _, rfl, rfl⟩
          | 8, ho, haf =>
            obtain rfl := Option.some.inj ho
            have gg : a9.tmps.getD 68 undef = .bool true := haf ⟨2, .guard⟩ (by simp) rfl
            refine skip_good _ (wanted_some rfl (yielded_of (d := 68) rfl (by omega) gg)) ?_
            clear haf ho hsz2 gg
            intro K hK
            simp only [List.getElem_toArray, List.getElem_cons_succ, List.getElem_cons_zero] at hK ⊢
            subst hW
            go_simp
            exact hK _ _ ⟨Below.refl _ _, rfl, rfl⟩
          | 9, ho, haf =>
            obtain rfl := Option.some.inj ho
            have gg : a9.tmps.getD 68 undef = .bool true := haf ⟨2, .guard⟩ (by simp) rfl
            refine skip_good _ (wanted_some rfl (yielded_of (d := 68) rfl (by omega) gg)) ?_
            clear haf ho hsz2 gg
            intro K hK
            simp only [List.getElem_toArray, List.getElem_cons_succ, List.getElem_cons_zero] at hK ⊢
            subst hW
            go_simp
            exact hK _ _ ⟨Below.refl _ _, rfl, rfl⟩
          | 10, ho, haf =>
            obtain rfl := Option.some.inj ho
            have gg : a9.tmps.getD 68 undef = .bool true := haf ⟨2, .guard⟩ (by simp) rfl
            have f9 := getq (show a9.tmps.getD 75 undef = Value.int IntKind.i64 (k : Int) from haf ⟨9, .data⟩ (by simp) rfl)
            refine skip_good _ (wanted_some rfl (yielded_of (d := 68) rfl (by omega) gg)) ?_
            clear haf ho hsz2 gg
            intro K hK
            simp only [List.getElem_toArray, List.getElem_cons_succ, List.getElem_cons_zero] at hK ⊢
            subst hW
            have hc0 := hjw.out
            go_simp
            exact hK _ _ ⟨Below.refl _ _, rfl, rfl⟩
          | 11, ho, haf =>
            obtain rfl := Option.some.inj ho
            have gg : a9.tmps.getD 68 undef = .bool true := haf ⟨2, .guard⟩ (by simp) rfl
            have f8 := getq (show a9.tmps.getD 74 undef = Value.slice (some { block := g, off := 0 }) n uc from haf ⟨8, .data⟩ (by simp) rfl)
            have f10 := getq (show a9.tmps.getD 76 undef = .int .i64 (j : Int) from haf ⟨10, .data⟩ (by simp) rfl)
            refine skip_good _ (wanted_some rfl (yielded_of (d := 68) rfl (by omega) gg)) ?_
            clear haf ho hsz2 gg
            intro K hK
            simp only [List.getElem_toArray, List.getElem_cons_succ, List.getElem_cons_zero] at hK ⊢
            subst hW
            have hc0 := hjn.out
            go_simp
            exact hK _ _ ⟨Below.refl _ _, rfl, rfl⟩
          | 12, ho, haf =>
            obtain rfl := Option.some.inj ho
            have gg : a9.tmps.getD 68 undef = .bool true := haf ⟨2, .guard⟩ (by simp) rfl
            have f11 := getq (show a9.tmps.getD 77 undef = .pointer (some ⟨g, j * 3, none⟩) from haf ⟨11, .data⟩ (by simp) rfl)
            refine skip_good _ (wanted_some rfl (yielded_of (d := 68) rfl (by omega) gg)) ?_
            clear haf ho hsz2 gg
            intro K hK
            simp only [List.getElem_toArray, List.getElem_cons_succ, List.getElem_cons_zero] at hK ⊢
            subst hW
            go_simp
            exact hK _ _ ⟨Below.refl _ _, rfl, rfl⟩
          | 13, ho, haf =>
            obtain rfl := Option.some.inj ho
            have gg : a9.tmps.getD 68 undef = .bool true := haf ⟨2, .guard⟩ (by simp) rfl
            have f12 := getq (show a9.tmps.getD 78 undef = .pointer (some ⟨g, j * 3, none⟩) from haf ⟨12, .data⟩ (by simp) rfl)
            refine skip_good _ (wanted_some rfl (yielded_of (d := 68) rfl (by omega) gg)) ?_
            clear haf ho hsz2 gg
            intro K hK
            simp only [List.getElem_toArray, List.getElem_cons_succ, List.getElem_cons_zero] at hK ⊢
            subst hW
            have hc0 := n0.out
            go_simp
            exact hK _ _ ⟨Below.refl _ _, rfl, rfl⟩
          | 14, ho, haf =>
            obtain rfl := Option.some.inj ho
            have gg : a9.tmps.getD 68 undef = .bool true := haf ⟨2, .guard⟩ (by simp) rfl
            have f7 := getq (show a9.tmps.getD 73 undef = .int .u32 (q1 : Int) from haf ⟨7, .data⟩ (by simp) rfl)
            have f13 := getq (show a9.tmps.getD 79 undef = .int .u32 (r1 : Int) from haf ⟨13, .data⟩ (by simp) rfl)
            refine skip_good _ (wanted_some rfl (yielded_of (d := 68) rfl (by omega) gg)) ?_
            clear haf ho hsz2 gg
            intro K hK
            simp only [List.getElem_toArray, List.getElem_cons_succ, List.getElem_cons_zero] at hK ⊢
            subst hW
            have hc0 := hcmp.out
            go_simp
            exact hK _ _ ⟨Below.refl _ _, rfl, rfl⟩
          | 15, ho, haf =>
            obtain rfl := Option.some.inj ho
            have f2 := getq (show a9.tmps.getD 68 undef = .bool true from haf ⟨2, .data⟩ (by simp) rfl)
            have f14 := getq (show a9.tmps.getD 80 undef = .bool false from haf ⟨14, .data⟩ (by simp) rfl)
            refine skip_good _ (wanted_none rfl) ?_
            clear haf ho hsz2
            intro K hK
            simp only [List.getElem_toArray, List.getElem_cons_succ, List.getElem_cons_zero] at hK ⊢
            subst hW
            go_simp
            exact hK _ _ ⟨Below.refl _ _, rfl, rfl⟩
          | n + 16, ho, haf => simp at ho
        · intro aa w9 hW hdf hsz hout hall
          have hat : aa.tmps = #[Value.int IntKind.i64 lim, Value.int IntKind.i64 evy, Value.slice (some { block := lb, off := off }) ls.length c, undef, undef, undef, u6, Value.pointer (some { block := d, off := 0 }), Value.pointer (some { block := b, off := 0 }), Value.int IntKind.i64 (m : Int), Value.slice (some { block := g, off := 0 }) n uc, Value.bool true, Value.int IntKind.i64 (ld : Int), Value.int IntKind.i64 (k : Int), Value.slice va q3 vc, Value.int IntKind.i64 0, u16, u17, Value.tuple #[Value.pointer (some { block := d, off := 0 }), Value.pointer (some { block := b, off := 0 })], Value.int IntKind.i64 lim, Value.int IntKind.i64 evy, Value.tuple #[Value.pointer (some { block := d, off := 0 }), Value.pointer (some { block := b, off := 0 })], Value.pointer (some { block := d, off := 0 }), Value.pointer (some { block := b, off := 0 }), Value.pointer (some { block := d, off := 0 }), Value.bool false, Value.int IntKind.i64 lim, Value.int IntKind.i64 ((pk lim 400 : Nat) : Int), Value.int IntKind.i64 (m : Int), Value.tuple #[Value.slice (some { block := g, off := 0 }) n uc, Value.bool true], Value.pointer (some { block := b, off := 0 }), Value.slice (some { block := lb, off := off }) ls.length c, Value.tuple #[Value.slice (some { block := g, off := 0 }) n uc, Value.bool true], Value.slice (some { block := g, off := 0 }) n uc, Value.bool true, Value.bool true, Value.bool false, Value.int IntKind.i64 (k : Int), Value.slice (some { block := g, off := 0 }) n uc, Value.int IntKind.i64 (n : Int), Value.bool true, u41, u42, Value.tuple #[Value.slice va q3 vc, Value.int IntKind.i64 0], Value.slice (some { block := lb, off := off }) ls.length c, Value.int IntKind.i64 (k : Int), Value.pointer (some { block := lb, off := off + k * 4 }), Value.agg #[Value.string l.key, Value.string l.val, Value.bool l.gone, Value.bool l.syn], Value.int IntKind.i64 (k : Int), Value.agg (rv (lnR l k)), Value.agg (fv (ofR (lnR l k))), Value.tuple #[Value.slice va q3 vc, Value.int IntKind.i64 0], Value.slice va q3 vc, Value.int IntKind.i64 0, Value.int IntKind.i64 0, Value.bool false, Value.bool false, Value.slice (some { block := g, off := 0 }) n uc, Value.int IntKind.i64 (k : Int), Value.pointer (some { block := g, off := k * 3 }), Value.pointer (some { block := g, off := k * 3 + 2 }), Value.int IntKind.i64 (q3 : Int), Value.slice va q3 vc, Value.int IntKind.i64 (q3 : Int), Value.bool false, Value.bool false, Value.int IntKind.i64 (k : Int), .bool true, .bool true, Value.slice (some { block := g, off := 0 }) n uc, Value.int IntKind.i64 (k : Int), .pointer (some ⟨g, k * 3, none⟩), .pointer (some ⟨g, k * 3, none⟩), .int .u32 (q1 : Int), Value.slice (some { block := g, off := 0 }) n uc, Value.int IntKind.i64 (k : Int), .int .i64 (j : Int), .pointer (some ⟨g, j * 3, none⟩), .pointer (some ⟨g, j * 3, none⟩), .int .u32 (r1 : Int), .bool false, .bool false, u82, u83, u84, u85, u86, u87, u88, u89, u90, u91, u92, u93, u94, u95, u96, u97, u98, u99, u100, u101, u102, u103, u104, u105, u106, u107, u108, u109, u110, u111, u112, u113, u114, u115, u116, u117, u118, u119, u120, u121, u122, u123, u124, u125, u126, u127, u128, u129, u130, u131, u132, u133, u134, u135, u136, u137, u138, u139, u140, u141, u142] := by
            refine arr_one (hsz.trans rfl) fun kk hkk => ?_
            match kk, hkk with
            | 0, _ => exact hout 0 (notDst_spec (by kernel_rfl))
            | 1, _ => exact hout 1 (notDst_spec (by kernel_rfl))
            | 2, _ => exact hout 2 (notDst_spec (by kernel_rfl))
            | 3, _ => exact hout 3 (notDst_spec (by kernel_rfl))
            | 4, _ => exact hout 4 (notDst_spec (by kernel_rfl))
            | 5, _ => exact hout 5 (notDst_spec (by kernel_rfl))
            | 6, _ => exact hout 6 (notDst_spec (by kernel_rfl))
            | 7, _ => exact hout 7 (notDst_spec (by kernel_rfl))
            | 8, _ => exact hout 8 (notDst_spec (by kernel_rfl))
            | 9, _ => exact hout 9 (notDst_spec (by kernel_rfl))
            | 10, _ => exact hout 10 (notDst_spec (by kernel_rfl))
            | 11, _ => exact hout 11 (notDst_spec (by kernel_rfl))
            | 12, _ => exact hout 12 (notDst_spec (by kernel_rfl))
            | 13, _ => exact hout 13 (notDst_spec (by kernel_rfl))
            | 14, _ => exact hout 14 (notDst_spec (by kernel_rfl))
            | 15, _ => exact hout 15 (notDst_spec (by kernel_rfl))
            | 16, _ => exact hout 16 (notDst_spec (by kernel_rfl))
            | 17, _ => exact hout 17 (notDst_spec (by kernel_rfl))
            | 18, _ => exact hout 18 (notDst_spec (by kernel_rfl))
            | 19, _ => exact hout 19 (notDst_spec (by kernel_rfl))
            | 20, _ => exact hout 20 (notDst_spec (by kernel_rfl))
            | 21, _ => exact hout 21 (notDst_spec (by kernel_rfl))
            | 22, _ => exact hout 22 (notDst_spec (by kernel_rfl))
            | 23, _ => exact hout 23 (notDst_spec (by kernel_rfl))
            | 24, _ => exact hout 24 (notDst_spec (by kernel_rfl))
            | 25, _ => exact hout 25 (notDst_spec (by kernel_rfl))
            | 26, _ => exact hout 26 (notDst_spec (by kernel_rfl))
            | 27, _ => exact hout 27 (notDst_spec (by kernel_rfl))
            | 28, _ => exact hout 28 (notDst_spec (by kernel_rfl))
            | 29, _ => exact hout 29 (notDst_spec (by kernel_rfl))
            | 30, _ => exact hout 30 (notDst_spec (by kernel_rfl))
            | 31, _ => exact hout 31 (notDst_spec (by kernel_rfl))
            | 32, _ => exact hout 32 (notDst_spec (by kernel_rfl))
            | 33, _ => exact hout 33 (notDst_spec (by kernel_rfl))
            | 34, _ => exact hout 34 (notDst_spec (by kernel_rfl))
            | 35, _ => exact hout 35 (notDst_spec (by kernel_rfl))
            | 36, _ => exact hout 36 (notDst_spec (by kernel_rfl))
            | 37, _ => exact hout 37 (notDst_spec (by kernel_rfl))
            | 38, _ => exact hout 38 (notDst_spec (by kernel_rfl))
            | 39, _ => exact hout 39 (notDst_spec (by kernel_rfl))
            | 40, _ => exact hout 40 (notDst_spec (by kernel_rfl))
            | 41, _ => exact hout 41 (notDst_spec (by kernel_rfl))
            | 42, _ => exact hout 42 (notDst_spec (by kernel_rfl))
            | 43, _ => exact hout 43 (notDst_spec (by kernel_rfl))
            | 44, _ => exact hout 44 (notDst_spec (by kernel_rfl))
            | 45, _ => exact hout 45 (notDst_spec (by kernel_rfl))
            | 46, _ => exact hout 46 (notDst_spec (by kernel_rfl))
            | 47, _ => exact hout 47 (notDst_spec (by kernel_rfl))
            | 48, _ => exact hout 48 (notDst_spec (by kernel_rfl))
            | 49, _ => exact hout 49 (notDst_spec (by kernel_rfl))
            | 50, _ => exact hout 50 (notDst_spec (by kernel_rfl))
            | 51, _ => exact hout 51 (notDst_spec (by kernel_rfl))
            | 52, _ => exact hout 52 (notDst_spec (by kernel_rfl))
            | 53, _ => exact hout 53 (notDst_spec (by kernel_rfl))
            | 54, _ => exact hout 54 (notDst_spec (by kernel_rfl))
            | 55, _ => exact hout 55 (notDst_spec (by kernel_rfl))
            | 56, _ => exact hout 56 (notDst_spec (by kernel_rfl))
            | 57, _ => exact hout 57 (notDst_spec (by kernel_rfl))
            | 58, _ => exact hout 58 (notDst_spec (by kernel_rfl))
            | 59, _ => exact hout 59 (notDst_spec (by kernel_rfl))
            | 60, _ => exact hout 60 (notDst_spec (by kernel_rfl))
            | 61, _ => exact hout 61 (notDst_spec (by kernel_rfl))
            | 62, _ => exact hout 62 (notDst_spec (by kernel_rfl))
            | 63, _ => exact hout 63 (notDst_spec (by kernel_rfl))
            | 64, _ => exact hout 64 (notDst_spec (by kernel_rfl))
            | 65, _ => exact hout 65 (notDst_spec (by kernel_rfl))
            | 66, _ => exact hall 0 (by decide)
            | 67, _ => exact hall 1 (by decide)
            | 68, _ => exact hall 2 (by decide)
            | 69, _ => exact hall 3 (by decide)
            | 70, _ => exact hall 4 (by decide)
            | 71, _ => exact hall 5 (by decide)
            | 72, _ => exact hall 6 (by decide)
            | 73, _ => exact hall 7 (by decide)
            | 74, _ => exact hall 8 (by decide)
            | 75, _ => exact hall 9 (by decide)
            | 76, _ => exact hall 10 (by decide)
            | 77, _ => exact hall 11 (by decide)
            | 78, _ => exact hall 12 (by decide)
            | 79, _ => exact hall 13 (by decide)
            | 80, _ => exact hall 14 (by decide)
            | 81, _ => exact hall 15 (by decide)
            | 82, _ => exact hout 82 (notDst_spec (by kernel_rfl))
            | 83, _ => exact hout 83 (notDst_spec (by kernel_rfl))
            | 84, _ => exact hout 84 (notDst_spec (by kernel_rfl))
            | 85, _ => exact hout 85 (notDst_spec (by kernel_rfl))
            | 86, _ => exact hout 86 (notDst_spec (by kernel_rfl))
            | 87, _ => exact hout 87 (notDst_spec (by kernel_rfl))
            | 88, _ => exact hout 88 (notDst_spec (by kernel_rfl))
            | 89, _ => exact hout 89 (notDst_spec (by kernel_rfl))
            | 90, _ => exact hout 90 (notDst_spec (by kernel_rfl))
            | 91, _ => exact hout 91 (notDst_spec (by kernel_rfl))
            | 92, _ => exact hout 92 (notDst_spec (by kernel_rfl))
            | 93, _ => exact hout 93 (notDst_spec (by kernel_rfl))
            | 94, _ => exact hout 94 (notDst_spec (by kernel_rfl))
            | 95, _ => exact hout 95 (notDst_spec (by kernel_rfl))
            | 96, _ => exact hout 96 (notDst_spec (by kernel_rfl))
            | 97, _ => exact hout 97 (notDst_spec (by kernel_rfl))
            | 98, _ => exact hout 98 (notDst_spec (by kernel_rfl))
            | 99, _ => exact hout 99 (notDst_spec (by kernel_rfl))
            | 100, _ => exact hout 100 (notDst_spec (by kernel_rfl))
            | 101, _ => exact hout 101 (notDst_spec (by kernel_rfl))
            | 102, _ => exact hout 102 (notDst_spec (by kernel_rfl))
            | 103, _ => exact hout 103 (notDst_spec (by kernel_rfl))
            | 104, _ => exact hout 104 (notDst_spec (by kernel_rfl))
            | 105, _ => exact hout 105 (notDst_spec (by kernel_rfl))
            | 106, _ => exact hout 106 (notDst_spec (by kernel_rfl))
            | 107, _ => exact hout 107 (notDst_spec (by kernel_rfl))
            | 108, _ => exact hout 108 (notDst_spec (by kernel_rfl))
            | 109, _ => exact hout 109 (notDst_spec (by kernel_rfl))
            | 110, _ => exact hout 110 (notDst_spec (by kernel_rfl))
            | 111, _ => exact hout 111 (notDst_spec (by kernel_rfl))
            | 112, _ => exact hout 112 (notDst_spec (by kernel_rfl))
            | 113, _ => exact hout 113 (notDst_spec (by kernel_rfl))
            | 114, _ => exact hout 114 (notDst_spec (by kernel_rfl))
            | 115, _ => exact hout 115 (notDst_spec (by kernel_rfl))
            | 116, _ => exact hout 116 (notDst_spec (by kernel_rfl))
            | 117, _ => exact hout 117 (notDst_spec (by kernel_rfl))
            | 118, _ => exact hout 118 (notDst_spec (by kernel_rfl))
            | 119, _ => exact hout 119 (notDst_spec (by kernel_rfl))
            | 120, _ => exact hout 120 (notDst_spec (by kernel_rfl))
            | 121, _ => exact hout 121 (notDst_spec (by kernel_rfl))
            | 122, _ => exact hout 122 (notDst_spec (by kernel_rfl))
            | 123, _ => exact hout 123 (notDst_spec (by kernel_rfl))
            | 124, _ => exact hout 124 (notDst_spec (by kernel_rfl))
            | 125, _ => exact hout 125 (notDst_spec (by kernel_rfl))
            | 126, _ => exact hout 126 (notDst_spec (by kernel_rfl))
            | 127, _ => exact hout 127 (notDst_spec (by kernel_rfl))
            | 128, _ => exact hout 128 (notDst_spec (by kernel_rfl))
            | 129, _ => exact hout 129 (notDst_spec (by kernel_rfl))
            | 130, _ => exact hout 130 (notDst_spec (by kernel_rfl))
            | 131, _ => exact hout 131 (notDst_spec (by kernel_rfl))
            | 132, _ => exact hout 132 (notDst_spec (by kernel_rfl))
            | 133, _ => exact hout 133 (notDst_spec (by kernel_rfl))
            | 134, _ => exact hout 134 (notDst_spec (by kernel_rfl))
            | 135, _ => exact hout 135 (notDst_spec (by kernel_rfl))
            | 136, _ => exact hout 136 (notDst_spec (by kernel_rfl))
            | 137, _ => exact hout 137 (notDst_spec (by kernel_rfl))
            | 138, _ => exact hout 138 (notDst_spec (by kernel_rfl))
            | 139, _ => exact hout 139 (notDst_spec (by kernel_rfl))
            | 140, _ => exact hout 140 (notDst_spec (by kernel_rfl))
            | 141, _ => exact hout 141 (notDst_spec (by kernel_rfl))
            | 142, _ => exact hout 142 (notDst_spec (by kernel_rfl))
            | n + 143, h => exact absurd h (by simp)
          obtain ⟨tt, dd⟩ := aa
          simp only at hat hdf
          subst hat hdf
          clear hsz hout hall
          subst hW
          have c0 := m0.out
          have c1 := m1.out
          obtain ⟨N, L, hNL, hNO⟩ := HNO.out _ HB8.out
          by_cases hlast : k + 1 = n
          · obtain ⟨e1, e2⟩ := hNL hlast
            rw [e1, e2, HNEW.out] at hNO
            have HNOW := hd hNO
            have hil : (((k : Int)) == (n : Int) - 1) = true := by rw [beq_iff_eq]; omega
            clear hNL hNO e1 e2 hlast
            go_simp
            go_wp2_with fail
            refine Calls.mono HNOW.out ?_
            rintro e w10 ⟨rfl, hB10⟩
            have hB11 := HB8.out.trans (hB10.mono HB8.out.size)
            have x0 : w10.cell? ⟨g, k * 3, none⟩ = some (.int .u32 (q1 : Int)) := HCC.out w10 hB11 0 _ rfl
            have HB11 := hd hB11
            clear hB10 hB11 c0 c1
            go_wp2_with fail
            go_roundw
            case rel =>
              exact ⟨k + 1, by omega, by go_num, by rw [← HLE.out, HNEW.out] <;> rfl, HB.out.trans (HB11.out.mono HB.out.size)⟩
            case measure => simp [intOf]; omega
          · have HNOW := hd hNO
            have hil : (((k : Int)) == (n : Int) - 1) = false := by rw [beq_eq_false_iff_ne]; omega
            clear hNL hNO hlast
            go_simp
            go_wp2_with fail
            refine Calls.mono HNOW.out ?_
            rintro e w10 ⟨rfl, hB10⟩
            have hB11 := HB8.out.trans (hB10.mono HB8.out.size)
            have x0 : w10.cell? ⟨g, k * 3, none⟩ = some (.int .u32 (q1 : Int)) := HCC.out w10 hB11 0 _ rfl
            have HB11 := hd hB11
            clear hB10 hB11 c0 c1
            go_wp2_with fail
            go_roundw
            case rel =>
              exact ⟨k + 1, by omega, by go_num, by rw [← HLE.out, HNEW.out] <;> rfl, HB.out.trans (HB11.out.mono HB.out.size)⟩
            case measure => simp [intOf]; omega
      --END b1
    · obtain rfl : k = n := by omega
      go_wp2_with fail
      go_ret
      exact ⟨rfl, (HB1.out.trans HW.out.bel).trans (HB.out.mono (Nat.le_trans HB1.out.size HW.out.bel.size))⟩
end Sg
end Go.Proofs.YtnakaomgceoobaaGreat
