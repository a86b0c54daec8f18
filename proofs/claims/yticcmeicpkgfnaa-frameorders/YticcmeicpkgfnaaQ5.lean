/-
  THE REFERENCE OF LAYER 4: salvorref4.Compare: what the plain 'cp' says.
-/
import Derived.Test.YticcmeicpkgfnaaQ4
import Derived.Test.YticcmeicpkgfnaaP3
import Derived.BigQuiet
namespace Go.Proofs.Yticcmeicpkgfnaa
open Go.RowKit
namespace Vt
theorem r4_bodyOf (r : Rec) (hl : r.lsn < 18446744073709551616) (w : World) : Calls Try.prog 24 #[.agg (fv (ofR r))] w fun e w' => ∃ u l, e = .returned (.tuple #[u, .int .i64 (rf (ofR r) : Int)]) ∧ IsB w' u l ∧ (rf (ofR r) = 0 → l = bd (ofR r)) ∧ Below w.heap.size w w' := by
  by_cases h : rf (ofR r) = 0
  · have hk : r.kind = 1 ∨ r.kind = 2 := by
      have h' := h
      unfold rf rfP rfE at h'
      by_cases c : (ofR r).kind = 1 ∨ (ofR r).kind = 2
      · exact c
      · rw [if_neg c] at h'
        by_cases c3 : (ofR r).kind = 3
        · rw [if_pos c3, if_pos (by show (0 : Int) ≠ 1 ∧ (0 : Int) ≠ 2; omega)] at h'; omega
        · rw [if_neg c3] at h'
          by_cases c4 : (ofR r).kind = 4
          · rw [if_pos c4] at h'
            split at h'
            · omega
            · split at h'
              · omega
              · rename_i q
                have := congrArg (fun f : Fr => f.r.kind) (Classical.not_not.1 q)
                have h5 : r.kind = 0 := this
                have h6 : r.kind = 4 := c4
                omega
          · rw [if_neg c4] at h'; omega
    obtain ⟨lsn, k, key, val⟩ := r
    rcases hk with hk | hk
    · obtain rfl : k = 1 := hk
      refine (r4_body_1 lsn key val w hl h).mono ?_
      rintro e w' ⟨u, rfl, hj, hb⟩
      exact ⟨u, _, by rw [h]; rfl, hj.isB, fun _ => rfl, hb⟩
    · obtain rfl : k = 2 := hk
      refine (r4_body_2 lsn key val w hl h).mono ?_
      rintro e w' ⟨u, rfl, hj, hb⟩
      exact ⟨u, _, by rw [h]; rfl, hj.isB, fun _ => rfl, hb⟩
  · refine (r4_body_no r w h).mono ?_
    rintro e w' ⟨rfl, hb⟩
    exact ⟨_, [], rfl, isK_nil _ _ _ _ _, fun q => absurd q h, hb⟩
theorem drop_cons {l : List Nat} {j : Nat} (h : j < l.length) : l.drop j = l.getD j 0 :: l.drop (j + 1) := by
  rw [List.drop_eq_getElem_cons h, List.getD_eq_getElem?_getD, List.getElem?_eq_getElem h]; rfl
set_option maxRecDepth 100000 in
set_option maxHeartbeats 4000000 in
theorem r4_compare (a b : Rec) (ha : a.lsn < 18446744073709551616) (hb : b.lsn < 18446744073709551616) (w : World) :
    Calls Try.prog 22 #[.agg (rv a), .agg (rv b)] w fun e w' => e = .returned (.int .i64 (cp a b)) ∧ Below w.heap.size w w' := by
  have HOA := hd (r4_of a)
  have HOB := hd (r4_of b)
  have HBA := hd (r4_bodyOf a ha)
  have HBB := hd (r4_bodyOf b hb)
  have HCP : Hid (cp a b = if rf (ofR a) ≠ 0 then (if rf (ofR b) ≠ 0 then 0 else -1) else if rf (ofR b) ≠ 0 then 1 else orv (c64 a.lsn b.lsn) (cb (bd (ofR a)) (bd (ofR b)))) := rfl
  have HLA : Hid (rf (ofR a) = 0 → (bd (ofR a)).length ≤ 2200 ∧ 1 ≤ (bd (ofR a)).length) := fun q => bd_len (ofR_wf ha) q
  have HLB : Hid (rf (ofR b) = 0 → (bd (ofR b)).length ≤ 2200 ∧ 1 ≤ (bd (ofR b)).length) := fun q => bd_len (ofR_wf hb) q
  generalize rf (ofR a) = ea at *
  generalize rf (ofR b) = eb at *
  generalize bd (ofR a) = da at *
  generalize bd (ofR b) = db at *
  generalize cp a b = res at *
  obtain ⟨la, ka, keya, vala⟩ := a
  obtain ⟨lb, kb, keyb, valb⟩ := b
  simp only [rv, fv, ofR, zp, ze] at *
  have HXA : Hid (Blk ((w.alloc (.cells #[.int .u64 (la : Int), .int .i64 ka, .string keya, .string vala] 25)).alloc (.cells #[.int .u64 (lb : Int), .int .i64 kb, .string keyb, .string valb] 25)) w.heap.size 25 [.int .u64 (la : Int), .int .i64 ka, .string keya, .string vala]) := (Blk.new w _ _).alloc _
  have HXB : Hid (Blk ((w.alloc (.cells #[.int .u64 (la : Int), .int .i64 ka, .string keya, .string vala] 25)).alloc (.cells #[.int .u64 (lb : Int), .int .i64 kb, .string keyb, .string valb] 25)) (w.heap.size + 1) 25 [.int .u64 (lb : Int), .int .i64 kb, .string keyb, .string valb]) := by
    have := Blk.new (w.alloc (.cells #[.int .u64 (la : Int), .int .i64 ka, .string keya, .string vala] 25)) 25 [.int .u64 (lb : Int), .int .i64 kb, .string keyb, .string valb]
    rw [World.size_alloc] at this
    exact this
  have HBW : Hid (Below w.heap.size w ((w.alloc (.cells #[.int .u64 (la : Int), .int .i64 ka, .string keya, .string vala] 25)).alloc (.cells #[.int .u64 (lb : Int), .int .i64 kb, .string keyb, .string valb] 25))) := below_two _ _ _
  go_enter Try.func22, Try.ntmps22
  go_wp2_with fail
  refine Calls.mono (HOA.out _) ?_
  rintro e w' ⟨rfl, hw'⟩
  have hbl : Below ((w.alloc (.cells #[.int .u64 (la : Int), .int .i64 ka, .string keya, .string vala] 25)).alloc (.cells #[.int .u64 (lb : Int), .int .i64 kb, .string keyb, .string valb] 25)).heap.size ((w.alloc (.cells #[.int .u64 (la : Int), .int .i64 ka, .string keya, .string vala] 25)).alloc (.cells #[.int .u64 (lb : Int), .int .i64 kb, .string keyb, .string valb] 25)) w' := by rw [hw']; exact below_two _ _ _
  have HXA1 := hd (HXA.out.keep hbl)
  have HXB1 := hd (HXB.out.keep hbl)
  have HBW1 : Hid (Below w.heap.size w w') := HBW.out.trans (hbl.mono HBW.out.size)
  clear hw' hbl HXA HXB HBW HOA
  go_wp2_with fail
  refine Calls.mono (HBA.out w') ?_
  rintro e w1 ⟨ua, xa, rfl, hia, hda, hbl⟩
  have HXA2 := hd (HXA1.out.keep hbl)
  have HXB2 := hd (HXB1.out.keep hbl)
  have HBW2 : Hid (Below w.heap.size w w1) := HBW1.out.trans (hbl.mono HBW1.out.size)
  have HIA := hd hia
  have HDA := hd hda
  clear hia hda hbl HXA1 HXB1 HBW1 HBA
  have b0 := HXB2.out.cell 0 _ rfl
  have b1 := HXB2.out.cell 1 _ rfl
  have b2 := HXB2.out.cell 2 _ rfl
  have b3 := HXB2.out.cell 3 _ rfl
  go_wp2_with fail
  refine Calls.mono (HOB.out w1) ?_
  rintro e w2 ⟨rfl, hw'⟩
  have hbl : Below w1.heap.size w1 w2 := by rw [hw']; exact below_two _ _ _
  have HXA3 := hd (HXA2.out.keep hbl)
  have HXB3 := hd (HXB2.out.keep hbl)
  have HBW3 : Hid (Below w.heap.size w w2) := HBW2.out.trans (hbl.mono HBW2.out.size)
  have HIA3 := hd (HIA.out.below hbl)
  clear hw' hbl HXA2 HXB2 HBW2 HOB HIA b0 b1 b2 b3
  go_wp2_with fail
  refine Calls.mono (HBB.out w2) ?_
  rintro e w3 ⟨ub, xb, rfl, hib, hdb, hbl⟩
  have HXA4 := hd (HXA3.out.keep hbl)
  have HXB4 := hd (HXB3.out.keep hbl)
  have HBW4 : Hid (Below w.heap.size w w3) := HBW3.out.trans (hbl.mono HBW3.out.size)
  have HIA4 := hd (HIA3.out.below hbl)
  have HIB4 := hd hib
  have HDB := hd hdb
  clear hib hdb hbl HXA3 HXB3 HBW3 HIA3 HBB
  have a0 := HXA4.out.cell 0 _ rfl
  have b0 := HXB4.out.cell 0 _ rfl
  by_cases h1 : ea = 0
  · subst h1
    by_cases h2 : eb = 0
    · subst h2
      obtain rfl := HDA.out rfl
      obtain rfl := HDB.out rfl
      have HRES : Hid (res = orv (c64 la lb) (cb xa xb)) := by
        show res = _
        rw [HCP.out, if_neg (fun q => q rfl), if_neg (fun q => q rfl)]
      obtain ⟨m1, m2⟩ := HLA.out rfl
      obtain ⟨m3, m4⟩ := HLB.out rfl
      clear HLA HLB HDA HDB HCP
      rcases orv_c la lb (cb xa xb) with ⟨c, hc⟩ | ⟨c, hc⟩ | ⟨c, hc⟩
      · rw [hc] at HRES
        clear hc
        have q1 : decide ((la : Int) < (lb : Int)) = true := decide_eq_true (by omega)
        go_wp2_with fail
        go_ret
        exact ⟨by rw [HRES.out]; rfl, HBW4.out⟩
      · rw [hc] at HRES
        clear hc
        have q1 : decide ((la : Int) < (lb : Int)) = false := decide_eq_false (by omega)
        have q2 : decide ((lb : Int) < (la : Int)) = true := decide_eq_true (by omega)
        go_wp2_with fail
        go_ret
        exact ⟨by rw [HRES.out]; rfl, HBW4.out⟩
      · rw [hc] at HRES
        subst c
        clear hc
        obtain ⟨_, _, ⟨rfl, _⟩ | ⟨ba, oa, ca, rfl, _, hca, _, hra⟩⟩ := HIA4.out
        · simp at m2
        obtain ⟨_, _, ⟨rfl, _⟩ | ⟨bb, ob, cb', rfl, _, hcb, _, hrb⟩⟩ := HIB4.out
        · simp at m4
        have HRA := hd hra
        have HRB := hd hrb
        clear hra hrb HIA4 HIB4
        go_wp2_with fail
        go_loopw [9] (fun i wr => ∃ j n : Nat, j ≤ xa.length ∧ j ≤ xb.length ∧ i = .int .i64 (j : Int) ∧ cb xa xb = cb (xa.drop j) (xb.drop j) ∧ wr = w3.drewN n) (fun i _ => xa.length - (intOf i).toNat)
        case atStart => exact ⟨0, 0, by omega, by omega, rfl, rfl, rfl⟩
        case round =>
          obtain ⟨j, n, hj1, hj2, rfl, hcc, rfl⟩ := hrel
          have HCC := hd hcc
          clear hcc
          by_cases k1 : j < xa.length
          · by_cases k2 : j < xb.length
            · have e1 : w3.cell? ⟨ba, oa + j, none⟩ = some (.int .u8 ((xa.getD j 0 : Nat) : Int)) := HRA.out j k1
              have e2 : w3.cell? ⟨bb, ob + j, none⟩ = some (.int .u8 ((xb.getD j 0 : Nat) : Int)) := HRB.out j k2
              rw [drop_cons k1, drop_cons k2] at HCC
              generalize xa.getD j 0 = x at *
              generalize xb.getD j 0 = y at *
              by_cases l1 : x < y
              · have q : decide ((x : Int) < (y : Int)) = true := decide_eq_true (by omega)
                have HR2 : Hid (res = -1) := by
                  show res = -1
                  rw [HRES.out, HCC.out]; simp [cb, l1]
                go_wp2_with fail
                go_quiet (fail)
                go_wp2_with fail
                go_ret
                exact ⟨by rw [HR2.out]; rfl, by first | exact below_drewN HBW4.out _ | exact below_drewN (below_drewN HBW4.out _) _ | exact below_drewN (below_drewN (below_drewN HBW4.out _) _) _⟩
              · by_cases l2 : y < x
                · have q : decide ((x : Int) < (y : Int)) = false := decide_eq_false (by omega)
                  have q' : decide ((y : Int) < (x : Int)) = true := decide_eq_true (by omega)
                  have HR2 : Hid (res = 1) := by
                    show res = 1
                    rw [HRES.out, HCC.out]; simp [cb, l1, l2]
                  go_wp2_with fail
                  go_quiet (fail)
                  go_wp2_with fail
                  go_quiet (fail)
                  go_wp2_with fail
                  go_ret
                  exact ⟨by rw [HR2.out]; rfl, by first | exact below_drewN HBW4.out _ | exact below_drewN (below_drewN HBW4.out _) _ | exact below_drewN (below_drewN (below_drewN HBW4.out _) _) _⟩
                · have q : decide ((x : Int) < (y : Int)) = false := decide_eq_false (by omega)
                  have q' : decide ((y : Int) < (x : Int)) = false := decide_eq_false (by omega)
                  have HC2 : Hid (cb xa xb = cb (xa.drop (j + 1)) (xb.drop (j + 1))) := by
                    show cb xa xb = _
                    rw [HCC.out]; simp [cb, l1, l2]
                  go_wp2_with fail
                  go_quiet (fail)
                  go_wp2_with fail
                  go_quiet (fail)
                  go_wp2_with fail
                  go_roundw
                  case rel => exact ⟨j + 1, _, by omega, by omega, by go_num, HC2.out, by first | rfl | (simp only [World.drewN_drewN]; rfl)⟩
                  case measure => simp [intOf]; omega
            · obtain rfl : j = xb.length := by omega
              have HR2 : Hid (res = 1) := by
                show res = 1
                rw [HRES.out, HCC.out, List.drop_length, drop_cons k1]; rfl
              go_wp2_with fail
              go_ret
              exact ⟨by rw [HR2.out]; rfl, by first | exact below_drewN HBW4.out _ | exact below_drewN (below_drewN HBW4.out _) _ | exact below_drewN (below_drewN (below_drewN HBW4.out _) _) _⟩
          · obtain rfl : j = xa.length := by omega
            by_cases k2 : xa.length < xb.length
            · have HR2 : Hid (res = -1) := by
                show res = -1
                rw [HRES.out, HCC.out, List.drop_length, drop_cons k2]; rfl
              go_wp2_with fail
              go_ret
              exact ⟨by rw [HR2.out]; rfl, by first | exact below_drewN HBW4.out _ | exact below_drewN (below_drewN HBW4.out _) _ | exact below_drewN (below_drewN (below_drewN HBW4.out _) _) _⟩
            · have k3 : xb.length = xa.length := by omega
              have HR2 : Hid (res = 0) := by
                show res = 0
                rw [HRES.out, HCC.out, List.drop_length, ← k3, List.drop_length]; rfl
              rw [k3]
              clear k3
              go_wp2_with fail
              go_ret
              exact ⟨by rw [HR2.out]; rfl, by first | exact below_drewN HBW4.out _ | exact below_drewN (below_drewN HBW4.out _) _ | exact below_drewN (below_drewN (below_drewN HBW4.out _) _) _⟩
    · have q2 : (((eb : Nat) : Int) != 0) = true := by simp; omega
      have HRES : Hid (res = 1) := by
        show res = _
        rw [HCP.out, if_neg (fun q => q rfl), if_pos h2]
      go_wp2_with fail
      go_ret
      exact ⟨by rw [HRES.out]; rfl, HBW4.out⟩
  · have q1 : (((ea : Nat) : Int) != 0) = true := by simp; omega
    by_cases h2 : eb = 0
    · subst h2
      have HRES : Hid (res = -1) := by
        show res = _
        rw [HCP.out, if_pos h1, if_neg (fun q => q rfl)]
      go_wp2_with fail
      go_ret
      exact ⟨by rw [HRES.out]; rfl, HBW4.out⟩
    · have q2 : (((eb : Nat) : Int) != 0) = true := by simp; omega
      have HRES : Hid (res = 0) := by
        show res = _
        rw [HCP.out, if_pos h1, if_pos h2]
      go_wp2_with fail
      go_ret
      exact ⟨by rw [HRES.out]; rfl, HBW4.out⟩
end Vt
end Go.Proofs.Yticcmeicpkgfnaa
