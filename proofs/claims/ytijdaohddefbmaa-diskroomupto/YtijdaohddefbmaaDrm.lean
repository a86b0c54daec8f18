/-
  THE WALK OF DiskRoom.
-/
import Derived.Test.YtijdaohddefbmaaDff
import Derived.Test.YtijdaohddefbmaaDkc
namespace Go.Proofs.Ytijdaohddefbmaa
open Go.RowKit Go.Maps Go.Sort
namespace Dk
open Vt
theorem run_cap (S : Ds) (g : Ds → Ds) (hg : ∀ T, (g T).cap = T.cap) : (run S g).2.cap = S.cap := by
  unfold run
  split
  · split
    · show (g (tick S)).cap = _; rw [hg]; rfl
    · rfl
  · split
    · rfl
    · show (g (tick S)).cap = _; rw [hg]; rfl
theorem actS_cap (S : Ds) (o : Op7) : (actS S o).2.cap = S.cap := by
  by_cases ha : acted o
  · rw [actS_eq ha]
    unfold actOf
    split
    · rfl
    · refine run_cap _ _ fun T => ?_
      unfold gS
      by_cases k4 : o.kind = 4
      · simp only [k4, if_neg (show ¬ (4 : Int) = 1 by decide), if_neg (show ¬ (4 : Int) = 2 by decide), if_neg (show ¬ (4 : Int) = 3 by decide), if_true]
        unfold gRename
        cases get T.fs o.nm <;> rfl
      · repeat' (first | rfl | (split))
        all_goals first | rfl | (exact absurd (by assumption) k4)
  · rw [actS_no ha]
theorem actsS_cap (S : Ds) (l : List Op7) : (actsS S l).cap = S.cap := by
  induction l generalizing S with
  | nil => rfl
  | cons o r ih => exact (ih (actS S o).2).trans (actS_cap S o)
theorem told_all {S : Ds} (hG : Good S) : (told S true).Perm (S.fs.map fun f => (f.nm, f.dat)) := by
  unfold told
  refine ((List.mergeSort_perm _ _).map _).trans ?_
  rw [List.map_map]
  refine List.Perm.of_eq (List.map_congr_left fun f hf => ?_)
  have hnm : (⟨f.nm.data.toList.toArray⟩ : ByteArray) = f.nm := by rcases f with ⟨⟨⟨x⟩⟩, _⟩; rfl
  simp only [Function.comp_apply, hnm, get_of_mem hG.names hf, if_true, Option.map_some, Option.getD_some]
def sumL (l : List (ByteArray × List Nat)) : Nat := (l.map fun p => p.2.length).sum
theorem told_sum {S : Ds} (hG : Good S) : sumL (told S true) = S.used := by
  unfold sumL
  rw [((told_all hG).map _).sum_nat, List.map_map, hG.used]
  rfl
theorem sum_take {l : List (ByteArray × List Nat)} {k : Nat} {p : ByteArray × List Nat} (h : l[k]? = some p) : sumL (l.take (k + 1)) = sumL (l.take k) + p.2.length := by
  obtain ⟨hk, he⟩ := List.getElem?_eq_some_iff.1 h
  unfold sumL
  rw [List.take_succ_eq_append_getElem hk, he, List.map_append, List.sum_append]
  simp
theorem sum_le (l : List (ByteArray × List Nat)) (k : Nat) : sumL (l.take k) ≤ sumL l := by
  unfold sumL
  conv => rhs; rw [← List.take_append_drop k l, List.map_append, List.sum_append]
  omega
theorem told_size {S : Ds} (hG : Good S) (hd : S.down = false) {k : Nat} {p : ByteArray × List Nat} (h : (told S true)[k]? = some p) : sizeOf_ S p.1 = p.2.length ∧ look S p.1 true = 0 := by
  have hm := List.mem_of_getElem? h
  obtain ⟨f, hf, rfl⟩ := List.mem_map.1 ((told_all hG).mem_iff.1 hm)
  have hg := get_of_mem hG.names hf
  have hn := hG.isnm f hf
  have hl : look S f.nm true = 0 := by
    unfold look bar
    rw [hd, hn, hg]
    rfl
  refine ⟨?_, hl⟩
  unfold sizeOf_
  rw [if_neg (by rw [hl]; decide), hg]
  rfl
theorem scr_nil (B : Nat) (w : World) : Scr B w (.slice none 0 0) [] := .inl ⟨rfl, _, _, rfl⟩
theorem Up.act {B : Nat} {w0 : World} {d : Nat} {S : Ds} {W : World} (h : Up B w0 d S W) {sb off : Nat} {o : Op7} {ua : Option Addr} {uc : Nat} (hO : OpAt B W sb off o ua uc) (ha : S.acts < 4611686018427387904) :
    Calls Try.prog 8 #[.pointer (some ⟨d, 0, none⟩), .agg (opc o ua uc).toArray] W fun x w' => (∃ r : Nat, x = .returned (.int .i64 (r : Int))) ∧ Up B w0 d (actS S o).2 w' := by
  obtain ⟨O, k1, k2⟩ := h.dk
  have hge := h.d_ge
  refine (lact_is W d O S o ua uc k1 ha hO.row (fun h0 b of n c q => by have := hO.low h0 b of n c q; omega)).mono ?_
  rintro e w' ⟨rfl, hx⟩
  obtain ⟨O', m1, m2, m3⟩ := hx
  have hb := m2.below k2 h.size
  have hs' := m2.size
  have hs := h.size
  exact ⟨⟨_, rfl⟩, ⟨⟨O', m1, fun b q => (m3 b q).elim (k2 b) (fun z => by omega)⟩, two_tr h.below hb, by omega⟩⟩
theorem Up.bel {B : Nat} {w0 : World} {d : Nat} {S : Ds} {W W' : World} (h : Up B w0 d S W) (hb : Below W.heap.size W W') : Up B w0 d S W' := by
  obtain ⟨O, k1, k2⟩ := h.dk
  exact ⟨⟨O, k1.keep (fun b q => hb.block b (k1.olt b q)) hb.size, k2⟩, two_tr h.below (below_leX hb h.size), Nat.le_trans h.size hb.size⟩
theorem Up.drewN {B : Nat} {w0 : World} {d : Nat} {S : Ds} {W : World} (h : Up B w0 d S W) (n : Nat) : Up B w0 d S (W.drewN n) := h.bel ⟨rfl, rfl, rfl, Nat.le_refl _, fun _ _ => rfl⟩
theorem Up.good {B : Nat} {w0 : World} {d : Nat} {S : Ds} {W : World} (h : Up B w0 d S W) : Good S := by obtain ⟨O, k1, k2⟩ := h.dk; exact k1.good
theorem Up.files {B : Nat} {w0 : World} {d : Nat} {S : Ds} {W : World} (h : Up B w0 d S W) (ha : S.acts ≤ 3300000000000) : Calls Try.prog 9 #[.pointer (some ⟨d, 0, none⟩)] W fun x w2 => ∃ v lo, x = .returned v ∧ FLs w2 lo v (told S true) ∧ Up B w0 d S w2 := by
  obtain ⟨O, k1, k2⟩ := h.dk
  refine (files_is W d O S k1 ha).mono ?_
  rintro x w2 ⟨v, hv, hF, hb⟩
  exact ⟨v, _, hv, hF, h.bel hb⟩
theorem Up.sizes {B : Nat} {w0 : World} {d : Nat} {S : Ds} {W : World} (h : Up B w0 d S W) (hd : S.down = false) {k : Nat} {nm : ByteArray} {dat : List Nat} (hk : (told S true)[k]? = some (nm, dat)) : Calls Try.prog 10 #[.pointer (some ⟨d, 0, none⟩), .string nm] W fun e w' => e = .returned (.tuple #[.int .i64 (dat.length : Int), .int .i64 0]) ∧ w' = W := by
  obtain ⟨O, k1, k2⟩ := h.dk
  obtain ⟨e1, e2⟩ := told_size h.good hd hk
  have := size_is W d O S nm k1
  rw [e1, e2] at this
  exact this
theorem Up.used {B : Nat} {w0 : World} {d : Nat} {S : Ds} {W : World} (h : Up B w0 d S W) : Calls Try.prog 11 #[.pointer (some ⟨d, 0, none⟩)] W fun e w' => e = .returned (.int .i64 ((sumL (told S true) : Nat) : Int)) ∧ w' = W := by
  obtain ⟨O, k1, k2⟩ := h.dk
  rw [told_sum h.good]
  exact used_is W d O S k1
theorem Up.cap {B : Nat} {w0 : World} {d : Nat} {S : Ds} {W : World} (h : Up B w0 d S W) {c : Nat} (hc : S.cap = c) : Calls Try.prog 12 #[.pointer (some ⟨d, 0, none⟩)] W fun e w' => e = .returned (.int .i64 (c : Int)) ∧ w' = W := by
  obtain ⟨O, k1, k2⟩ := h.dk
  rw [← hc]
  exact capacity_is W d O S k1
theorem FLs.drewN {w : World} {lo : Nat} {v : Value} {l : List (ByteArray × List Nat)} (h : FLs w lo v l) (n : Nat) : FLs (w.drewN n) lo v l := h.same fun _ _ _ => rfl
set_option maxRecDepth 100000 in
set_option maxHeartbeats 2000000 in
theorem roomLaw_is (z : Int) (v1 : Value) (l1 : List Op7) (w : World) (hz : (Lit.int .i64 z).wf = true) (h1 : Scr w.heap.size w v1 l1) (hl1 : l1.length ≤ 1600000000000) :
    Calls Try.prog 3 #[.int .i64 z, v1] w fun e w' => e = .returned (.bool true) ∧ Below w.heap.size w w' := by
  have hbz := bounds_i64 hz
  have HST := hd (started_is w.heap.size w w (.slice none 0 0) [] (Below.refl _ _) (Nat.le_refl _) (scr_nil _ _) (by decide))
  have HS1 := hd h1
  obtain ⟨a1, c1, rfl⟩ := h1.shape
  clear h1
  have ht1 := Int.tmod_lt_of_pos z (show (0 : Int) < 60 by decide)
  have ht2 : -60 < z.tmod 60 := by
    by_cases h0 : 0 ≤ z
    · have := Int.tmod_nonneg 60 h0; omega
    · have h1 := Int.tmod_lt_of_pos (-z) (show (0 : Int) < 60 by decide)
      rw [Int.neg_tmod] at h1; omega
  by_cases hneg : z.tmod 60 < 0
  · go_enter Try.func3, Try.ntmps3
    go_wp2_with fail
    obtain ⟨c, hc⟩ : ∃ c : Nat, z.tmod 60 = -(c : Int) := ⟨(-(z.tmod 60)).toNat, by omega⟩
    have hc60 : c ≤ 60 := by omega
    rw [hc, Int.neg_neg]
    clear hc hneg ht1 ht2 hbz hz
    refine Calls.mono HST.out ?_
    rintro e w1 ⟨d0, rfl, hU0⟩
    have HN := hd (new0_is w1 c (by omega))
    have HU0 := hd hU0
    clear hU0 HST
    go_wp2_with fail
    refine Calls.mono HN.out ?_
    rintro e w2 ⟨d, O2, rfl, hK2, ht2, hO2⟩
    have HU2 := hd (up_of HU0.out.below HU0.out.size hK2 ht2 hO2)
    clear hK2 ht2 hO2 HN HU0
    go_wp2_with fail
    go_loopw [9] (fun i wr => ∃ k : Nat, k ≤ l1.length ∧ i = .int .i64 (k : Int) ∧ Up w.heap.size w d (actsS (ds0 c) (l1.take k)) wr) (fun i _ => l1.length - (intOf i).toNat)
    case atStart => exact ⟨0, by omega, rfl, HU2.out⟩
    case round =>
      obtain ⟨k, hk, rfl, hUk⟩ := hrel
      have HUk := hd hUk
      clear hUk HU2
      by_cases hlt : k < l1.length
      · rcases HS1.out with ⟨rfl, _⟩ | ⟨sb, so, cc, he, hlc, hcm, hsb, hop⟩
        · simp at hlt
        injection he with he1 he2 he3
        subst he1 he3
        obtain ⟨ub, ucb, hO0⟩ := hop k hlt
        have hOk := hO0.keep HUk.out.below hsb
        clear hO0 hop
        have c0 : wr.cell? ⟨sb, so + k * 7, none⟩ = some (.int .i64 (l1.getD k op0).kind) := hOk.cell 0 _ rfl
        have g1 := hOk.cell 1 _ rfl
        have g2 := hOk.cell 2 _ rfl
        have g3 := hOk.cell 3 _ rfl
        have g4 := hOk.cell 4 _ rfl
        have g5 := hOk.cell 5 _ rfl
        have g6 := hOk.cell 6 _ rfl
        have hak : (actsS (ds0 c) (l1.take k)).acts ≤ l1.length := by
          have h0 := actsS_acts (ds0 c) (l1.take k)
          rw [List.length_take] at h0
          have : (ds0 c).acts = 0 := rfl
          omega
        have HC := hd (HUk.out.act hOk (by omega))
        rw [← actsS_take hlt] at HC
        have hak2 : (actsS (ds0 c) (l1.take (k + 1))).acts ≤ l1.length := by
          have h0 := actsS_acts (ds0 c) (l1.take (k + 1))
          rw [List.length_take] at h0
          have : (ds0 c).acts = 0 := rfl
          omega
        have hok : Ok (actsS (ds0 c) (l1.take (k + 1))) := actsS_ok ⟨rfl, rfl, rfl⟩ _
        have hcp : (actsS (ds0 c) (l1.take (k + 1))).cap = c := actsS_cap (ds0 c) _
        obtain ⟨S, hS⟩ : ∃ S, S = actsS (ds0 c) (l1.take (k + 1)) := ⟨_, rfl⟩
        rw [← hS] at HC hak2 hok hcp
        have HS := hd hS
        have HDN := hd hok.1
        have HCP := hd hcp
        clear hOk HUk hS hok hcp hak
        generalize l1.getD k op0 = p at *
        obtain ⟨kind, nm, to, dat, on, om, dn⟩ := p
        simp only [opc] at c0 g1 g2 g3 g4 g5 g6 HC
        go_wp2_with fail
        refine Calls.mono HC.out ?_
        rintro e w3 ⟨⟨r3, rfl⟩, hU3⟩
        have HF3 := hd (hU3.files (by omega))
        clear hU3 HC c0 g1 g2 g3 g4 g5 g6
        go_wp2_with fail
        refine Calls.mono HF3.out ?_
        rintro e w4 ⟨v4, lo, rfl, hA4, hU4⟩
        obtain ⟨aa, ca, rfl, hca⟩ := hA4.shape
        have HA4 := hd hA4
        have HU4 := hd hU4
        have hcn : (told S true).length ≤ 3300000000200 := by have := hU4.good.cnt; rw [told_count]; omega
        have hsm : sumL (told S true) ≤ c := by rw [told_sum hU4.good, ← HCP.out]; exact hU4.good.room
        have HUS := hd fun (n : Nat) => (hU4.drewN n).used
        have HCA := hd fun (n : Nat) => (hU4.drewN n).cap HCP.out
        clear hA4 hU4 HF3
        go_wp2_with fail
        go_loopw [11, 12] (fun n i wr => ∃ j : Nat, j ≤ (told S true).length ∧ i = .int .i64 (j : Int) ∧ n = .int .i64 ((sumL ((told S true).take j) : Nat) : Int) ∧ ∃ q, wr = w4.drewN q) (fun _ i _ => (told S true).length - (intOf i).toNat)
        case atStart => exact ⟨0, by omega, rfl, rfl, 0, rfl⟩
        case round =>
          obtain ⟨j, hj, rfl, rfl, q, rfl⟩ := hrel
          by_cases hjl : j < (told S true).length
          · obtain ⟨nm, dat, hp⟩ : ∃ nm dat, (told S true)[j]? = some (nm, dat) := ⟨_, _, List.getElem?_eq_getElem hjl⟩
            have hst := sum_take hp
            have hsl := sum_le (told S true) (j + 1)
            obtain ⟨gA, kA, uA, vA, hvA, hlA, hmA, a1, a2, hJA⟩ := (HA4.out.drewN q).at hp
            injection hvA with e1 z1 e2
            clear z1
            subst e1 e2
            have HSZ := hd fun (n : Nat) => (HU4.out.drewN n).sizes HDN.out hp
            simp only at hst
            obtain ⟨m, hm⟩ : ∃ m, m = sumL ((told S true).take j) := ⟨_, rfl⟩
            rw [← hm] at hst ⊢
            obtain ⟨m', hm'⟩ : ∃ m', m' = sumL ((told S true).take (j + 1)) := ⟨_, rfl⟩
            rw [← hm'] at hst hsl
            have HST := hd hst
            have HM := hd hm'
            have hmc : m + dat.length ≤ c := by omega
            clear hst hm hm' hsl hJA hp
            go_wp2_with fail
            refine Calls.mono (HSZ.out q) ?_
            rintro e w5 ⟨rfl, hw5⟩
            rw [hw5]
            clear hw5 HSZ
            go_wp2_with fail
            go_roundw
            case rel => exact ⟨j + 1, by omega, by go_num, by rw [← HM.out, HST.out]; go_num, _, rfl⟩
            case measure => simp [intOf]; omega
          · obtain rfl : j = (told S true).length := by omega
            rw [List.take_length]
            obtain ⟨m, hm⟩ : ∃ m, m = sumL (told S true) := ⟨_, rfl⟩
            rw [← hm] at HUS hsm ⊢
            have HUq := hd (HU4.out.drewN q)
            have HUS' := HUS.out q
            have HCA' := HCA.out q
            have HUS2 := hd HUS'
            have HCA2 := hd HCA'
            clear hm HUS HCA HUS' HCA'
            rw [HS.out] at HUq
            go_wp2_with fail
            refine Calls.mono HUS2.out ?_
            rintro e w5 ⟨rfl, hw5⟩
            rw [hw5]
            clear hw5 HUS2
            go_wp2_with fail
            refine Calls.mono HCA2.out ?_
            rintro e w5 ⟨rfl, hw5⟩
            rw [hw5]
            clear hw5 HCA2
            go_wp2_with fail
            go_roundw
            case rel => exact ⟨k + 1, by omega, by go_num, HUq.out⟩
            case measure => simp [intOf]; omega
      · obtain rfl : l1.length = k := by omega
        have HB := hd HUk.out.below
        clear HUk
        go_wp2_with fail
        go_ret
        exact ⟨rfl, HB.out⟩
  · go_enter Try.func3, Try.ntmps3
    go_wp2_with fail
    obtain ⟨c, hc⟩ : ∃ c : Nat, z.tmod 60 = (c : Int) := ⟨(z.tmod 60).toNat, by omega⟩
    have hc60 : c ≤ 60 := by omega
    rw [hc]
    clear hc hneg ht1 ht2 hbz hz
    refine Calls.mono HST.out ?_
    rintro e w1 ⟨d0, rfl, hU0⟩
    have HN := hd (new0_is w1 c (by omega))
    have HU0 := hd hU0
    clear hU0 HST
    go_wp2_with fail
    refine Calls.mono HN.out ?_
    rintro e w2 ⟨d, O2, rfl, hK2, ht2, hO2⟩
    have HU2 := hd (up_of HU0.out.below HU0.out.size hK2 ht2 hO2)
    clear hK2 ht2 hO2 HN HU0
    go_wp2_with fail
    go_loopw [9] (fun i wr => ∃ k : Nat, k ≤ l1.length ∧ i = .int .i64 (k : Int) ∧ Up w.heap.size w d (actsS (ds0 c) (l1.take k)) wr) (fun i _ => l1.length - (intOf i).toNat)
    case atStart => exact ⟨0, by omega, rfl, HU2.out⟩
    case round =>
      obtain ⟨k, hk, rfl, hUk⟩ := hrel
      have HUk := hd hUk
      clear hUk HU2
      by_cases hlt : k < l1.length
      · rcases HS1.out with ⟨rfl, _⟩ | ⟨sb, so, cc, he, hlc, hcm, hsb, hop⟩
        · simp at hlt
        injection he with he1 he2 he3
        subst he1 he3
        obtain ⟨ub, ucb, hO0⟩ := hop k hlt
        have hOk := hO0.keep HUk.out.below hsb
        clear hO0 hop
        have c0 : wr.cell? ⟨sb, so + k * 7, none⟩ = some (.int .i64 (l1.getD k op0).kind) := hOk.cell 0 _ rfl
        have g1 := hOk.cell 1 _ rfl
        have g2 := hOk.cell 2 _ rfl
        have g3 := hOk.cell 3 _ rfl
        have g4 := hOk.cell 4 _ rfl
        have g5 := hOk.cell 5 _ rfl
        have g6 := hOk.cell 6 _ rfl
        have hak : (actsS (ds0 c) (l1.take k)).acts ≤ l1.length := by
          have h0 := actsS_acts (ds0 c) (l1.take k)
          rw [List.length_take] at h0
          have : (ds0 c).acts = 0 := rfl
          omega
        have HC := hd (HUk.out.act hOk (by omega))
        rw [← actsS_take hlt] at HC
        have hak2 : (actsS (ds0 c) (l1.take (k + 1))).acts ≤ l1.length := by
          have h0 := actsS_acts (ds0 c) (l1.take (k + 1))
          rw [List.length_take] at h0
          have : (ds0 c).acts = 0 := rfl
          omega
        have hok : Ok (actsS (ds0 c) (l1.take (k + 1))) := actsS_ok ⟨rfl, rfl, rfl⟩ _
        have hcp : (actsS (ds0 c) (l1.take (k + 1))).cap = c := actsS_cap (ds0 c) _
        obtain ⟨S, hS⟩ : ∃ S, S = actsS (ds0 c) (l1.take (k + 1)) := ⟨_, rfl⟩
        rw [← hS] at HC hak2 hok hcp
        have HS := hd hS
        have HDN := hd hok.1
        have HCP := hd hcp
        clear hOk HUk hS hok hcp hak
        generalize l1.getD k op0 = p at *
        obtain ⟨kind, nm, to, dat, on, om, dn⟩ := p
        simp only [opc] at c0 g1 g2 g3 g4 g5 g6 HC
        go_wp2_with fail
        refine Calls.mono HC.out ?_
        rintro e w3 ⟨⟨r3, rfl⟩, hU3⟩
        have HF3 := hd (hU3.files (by omega))
        clear hU3 HC c0 g1 g2 g3 g4 g5 g6
        go_wp2_with fail
        refine Calls.mono HF3.out ?_
        rintro e w4 ⟨v4, lo, rfl, hA4, hU4⟩
        obtain ⟨aa, ca, rfl, hca⟩ := hA4.shape
        have HA4 := hd hA4
        have HU4 := hd hU4
        have hcn : (told S true).length ≤ 3300000000200 := by have := hU4.good.cnt; rw [told_count]; omega
        have hsm : sumL (told S true) ≤ c := by rw [told_sum hU4.good, ← HCP.out]; exact hU4.good.room
        have HUS := hd fun (n : Nat) => (hU4.drewN n).used
        have HCA := hd fun (n : Nat) => (hU4.drewN n).cap HCP.out
        clear hA4 hU4 HF3
        go_wp2_with fail
        go_loopw [11, 12] (fun n i wr => ∃ j : Nat, j ≤ (told S true).length ∧ i = .int .i64 (j : Int) ∧ n = .int .i64 ((sumL ((told S true).take j) : Nat) : Int) ∧ ∃ q, wr = w4.drewN q) (fun _ i _ => (told S true).length - (intOf i).toNat)
        case atStart => exact ⟨0, by omega, rfl, rfl, 0, rfl⟩
        case round =>
          obtain ⟨j, hj, rfl, rfl, q, rfl⟩ := hrel
          by_cases hjl : j < (told S true).length
          · obtain ⟨nm, dat, hp⟩ : ∃ nm dat, (told S true)[j]? = some (nm, dat) := ⟨_, _, List.getElem?_eq_getElem hjl⟩
            have hst := sum_take hp
            have hsl := sum_le (told S true) (j + 1)
            obtain ⟨gA, kA, uA, vA, hvA, hlA, hmA, a1, a2, hJA⟩ := (HA4.out.drewN q).at hp
            injection hvA with e1 z1 e2
            clear z1
            subst e1 e2
            have HSZ := hd fun (n : Nat) => (HU4.out.drewN n).sizes HDN.out hp
            simp only at hst
            obtain ⟨m, hm⟩ : ∃ m, m = sumL ((told S true).take j) := ⟨_, rfl⟩
            rw [← hm] at hst ⊢
            obtain ⟨m', hm'⟩ : ∃ m', m' = sumL ((told S true).take (j + 1)) := ⟨_, rfl⟩
            rw [← hm'] at hst hsl
            have HST := hd hst
            have HM := hd hm'
            have hmc : m + dat.length ≤ c := by omega
            clear hst hm hm' hsl hJA hp
            go_wp2_with fail
            refine Calls.mono (HSZ.out q) ?_
            rintro e w5 ⟨rfl, hw5⟩
            rw [hw5]
            clear hw5 HSZ
            go_wp2_with fail
            go_roundw
            case rel => exact ⟨j + 1, by omega, by go_num, by rw [← HM.out, HST.out]; go_num, _, rfl⟩
            case measure => simp [intOf]; omega
          · obtain rfl : j = (told S true).length := by omega
            rw [List.take_length]
            obtain ⟨m, hm⟩ : ∃ m, m = sumL (told S true) := ⟨_, rfl⟩
            rw [← hm] at HUS hsm ⊢
            have HUq := hd (HU4.out.drewN q)
            have HUS' := HUS.out q
            have HCA' := HCA.out q
            have HUS2 := hd HUS'
            have HCA2 := hd HCA'
            clear hm HUS HCA HUS' HCA'
            rw [HS.out] at HUq
            go_wp2_with fail
            refine Calls.mono HUS2.out ?_
            rintro e w5 ⟨rfl, hw5⟩
            rw [hw5]
            clear hw5 HUS2
            go_wp2_with fail
            refine Calls.mono HCA2.out ?_
            rintro e w5 ⟨rfl, hw5⟩
            rw [hw5]
            clear hw5 HCA2
            go_wp2_with fail
            go_roundw
            case rel => exact ⟨k + 1, by omega, by go_num, HUq.out⟩
            case measure => simp [intOf]; omega
      · obtain rfl : l1.length = k := by omega
        have HB := hd HUk.out.below
        clear HUk
        go_wp2_with fail
        go_ret
        exact ⟨rfl, HB.out⟩
end Dk
end Go.Proofs.Ytijdaohddefbmaa
