/-
  THE WALK OF frame.Compare: what 'cp' says.
-/
import Derived.Test.YtfaoemmkcmijfabP1
namespace Go.Proofs.Ytfaoemmkcmijfab
open Go.RowKit
namespace Vt
/-- how two records stand -/
noncomputable def cp (a b : Rec) : Int := if rf (ofR a) ≠ 0 then (if rf (ofR b) ≠ 0 then 0 else -1) else if rf (ofR b) ≠ 0 then 1 else orv (c64 a.lsn b.lsn) (cb (bd (ofR a)) (bd (ofR b)))
theorem ofR_wf {r : Rec} (h : r.lsn < 18446744073709551616) : (ofR r).Wf := ⟨h, by show 0 < 18446744073709551616; omega, by show 0 < 4294967296; omega⟩
/-- Body of what Of gives, one way or the other -/
theorem bodyOf_is (r : Rec) (hl : r.lsn < 18446744073709551616) (w : World) : Calls Try.prog 16 #[.agg (fv (ofR r))] w fun e w' => ∃ u l, e = .returned (.tuple #[u, .int .i64 (rf (ofR r) : Int)]) ∧ IsB w' u l ∧ (rf (ofR r) = 0 → l = bd (ofR r)) ∧ Below w.heap.size w w' := by
  by_cases h : rf (ofR r) = 0
  · refine (bodyOk (ofR_wf hl) h w).mono ?_
    rintro e w' ⟨u, rfl, hj, hb⟩
    exact ⟨u, _, by rw [h]; rfl, hj.isB, fun _ => rfl, hb⟩
  · refine (body_no (ofR r) w h).mono ?_
    rintro e w' ⟨rfl, hb⟩
    exact ⟨_, [], rfl, isK_nil _ _ _ _ _, fun q => absurd q h, hb⟩
set_option maxRecDepth 100000 in
set_option maxHeartbeats 2000000 in
theorem compare_is (a b : Rec) (ha : a.lsn < 18446744073709551616) (hb : b.lsn < 18446744073709551616) (w : World) :
    Calls Try.prog 12 #[.agg (rv a), .agg (rv b)] w fun e w' => e = .returned (.int .i64 (cp a b)) ∧ Below w.heap.size w w' := by
  have HOA := hd (of_is a)
  have HOB := hd (of_is b)
  have HBA := hd (bodyOf_is a ha)
  have HBB := hd (bodyOf_is b hb)
  have HCP : Hid (cp a b = if rf (ofR a) ≠ 0 then (if rf (ofR b) ≠ 0 then 0 else -1) else if rf (ofR b) ≠ 0 then 1 else orv (c64 a.lsn b.lsn) (cb (bd (ofR a)) (bd (ofR b)))) := rfl
  generalize rf (ofR a) = ea at *
  generalize rf (ofR b) = eb at *
  generalize bd (ofR a) = da at *
  generalize bd (ofR b) = db at *
  generalize cp a b = res at *
  obtain ⟨la, ka, keya, vala⟩ := a
  obtain ⟨lb, kb, keyb, valb⟩ := b
  simp only [rv, fv, ofR, zp, ze] at *
  have HC6 := hd (c64_is la lb)
  generalize c64 la lb = cc at *
  have HXA : Hid (Blk ((w.alloc (.cells #[.int .u64 (la : Int), .int .i64 ka, .string keya, .string vala] 28)).alloc (.cells #[.int .u64 (lb : Int), .int .i64 kb, .string keyb, .string valb] 28)) w.heap.size 28 [.int .u64 (la : Int), .int .i64 ka, .string keya, .string vala]) := (Blk.new w _ _).alloc _
  have HXB : Hid (Blk ((w.alloc (.cells #[.int .u64 (la : Int), .int .i64 ka, .string keya, .string vala] 28)).alloc (.cells #[.int .u64 (lb : Int), .int .i64 kb, .string keyb, .string valb] 28)) (w.heap.size + 1) 28 [.int .u64 (lb : Int), .int .i64 kb, .string keyb, .string valb]) := by
    have := Blk.new (w.alloc (.cells #[.int .u64 (la : Int), .int .i64 ka, .string keya, .string vala] 28)) 28 [.int .u64 (lb : Int), .int .i64 kb, .string keyb, .string valb]
    rw [World.size_alloc] at this
    exact this
  have HBW : Hid (Below w.heap.size w ((w.alloc (.cells #[.int .u64 (la : Int), .int .i64 ka, .string keya, .string vala] 28)).alloc (.cells #[.int .u64 (lb : Int), .int .i64 kb, .string keyb, .string valb] 28))) := below_two _ _ _
  go_enter Try.func12, Try.ntmps12
  go_wp2_with fail
  refine Calls.mono (HOA.out _) ?_
  rintro e w' ⟨rfl, hw'⟩
  have hbl : Below ((w.alloc (.cells #[.int .u64 (la : Int), .int .i64 ka, .string keya, .string vala] 28)).alloc (.cells #[.int .u64 (lb : Int), .int .i64 kb, .string keyb, .string valb] 28)).heap.size ((w.alloc (.cells #[.int .u64 (la : Int), .int .i64 ka, .string keya, .string vala] 28)).alloc (.cells #[.int .u64 (lb : Int), .int .i64 kb, .string keyb, .string valb] 28)) w' := by rw [hw']; exact below_two _ _ _
  have HXA1 := hd (HXA.out.keep hbl)
  have HXB1 := hd (HXB.out.keep hbl)
  have HBW1 : Hid (Below w.heap.size w w') := HBW.out.trans (hbl.mono HBW.out.size)
  clear hw' hbl HXA HXB HBW HOA
  go_wp2_with fail
  refine Calls.mono (HBA.out w') ?_
  rintro e w1 ⟨ua, xa, rfl, hia, hda, hbl⟩
  have HXA2 := hd (HXA1.out.keep hbl)
  have HXB2 := hd (HXB1.out.keep hbl)
  have HBW2 : Hid (Below w.heap.size w w1) := HBW1.out.trans (hbl.mono HBW1.out.size)
  have HIA := hd hia
  have HDA := hd hda
  clear hia hda hbl HXA1 HXB1 HBW1 HBA
  have b0 := HXB2.out.cell 0 _ rfl
  have b1 := HXB2.out.cell 1 _ rfl
  have b2 := HXB2.out.cell 2 _ rfl
  have b3 := HXB2.out.cell 3 _ rfl
  go_wp2_with fail
  refine Calls.mono (HOB.out w1) ?_
  rintro e w2 ⟨rfl, hw'⟩
  have hbl : Below w1.heap.size w1 w2 := by rw [hw']; exact below_two _ _ _
  have HXA3 := hd (HXA2.out.keep hbl)
  have HXB3 := hd (HXB2.out.keep hbl)
  have HBW3 : Hid (Below w.heap.size w w2) := HBW2.out.trans (hbl.mono HBW2.out.size)
  have HIA3 := hd (HIA.out.below hbl)
  clear hw' hbl HXA2 HXB2 HBW2 HOB HIA b0 b1 b2 b3
  go_wp2_with fail
  refine Calls.mono (HBB.out w2) ?_
  rintro e w3 ⟨ub, xb, rfl, hib, hdb, hbl⟩
  have HXA4 := hd (HXA3.out.keep hbl)
  have HXB4 := hd (HXB3.out.keep hbl)
  have HBW4 : Hid (Below w.heap.size w w3) := HBW3.out.trans (hbl.mono HBW3.out.size)
  have HIA4 := hd (HIA3.out.below hbl)
  have HIB4 := hd hib
  have HDB := hd hdb
  clear hib hdb hbl HXA3 HXB3 HBW3 HIA3 HBB
  have a0 := HXA4.out.cell 0 _ rfl
  have b0 := HXB4.out.cell 0 _ rfl
  by_cases h1 : ea = 0
  · subst h1
    by_cases h2 : eb = 0
    · subst h2
      obtain rfl := HDA.out rfl
      obtain rfl := HDB.out rfl
      have HRES : Hid (res = orv cc (cb xa xb)) := by
        show res = _
        rw [HCP.out, if_neg (fun q => q rfl), if_neg (fun q => q rfl)]
      have HCB := hd (bcompare_is ua ub xa xb w3 HIA4.out HIB4.out)
      generalize cb xa xb = q at *
      have HOR := hd (or_is cc q w3.heap.size (w3.alloc (.cells #[.int .i64 cc, .int .i64 q] 3)) (by rw [World.cell?_alloc_new]; rfl) (by rw [World.cell?_alloc_new]; rfl))
      go_wp2_with (first | (go_at_call 19; refine Calls.mono (HC6.out _) ?_; rintro e w' ⟨rfl, rfl⟩) | (go_at_call 20; refine Calls.mono HCB.out ?_; rintro e w' ⟨rfl, rfl⟩) | (go_at_call 18; refine Calls.mono HOR.out ?_; rintro e w' ⟨rfl, rfl⟩))
      go_ret
      exact ⟨by rw [HRES.out]; rfl, HBW4.out.alloc HBW4.out.size _⟩
    · have q2 : (((eb : Nat) : Int) != 0) = true := by simp; omega
      have HRES : Hid (res = 1) := by
        show res = _
        rw [HCP.out, if_neg (fun q => q rfl), if_pos h2]
      go_wp2_with fail
      go_ret
      exact ⟨by rw [HRES.out]; rfl, HBW4.out⟩
  · have q1 : (((ea : Nat) : Int) != 0) = true := by simp; omega
    by_cases h2 : eb = 0
    · subst h2
      have HRES : Hid (res = -1) := by
        show res = _
        rw [HCP.out, if_pos h1, if_neg (fun q => q rfl)]
      go_wp2_with fail
      go_ret
      exact ⟨by rw [HRES.out]; rfl, HBW4.out⟩
    · have q2 : (((eb : Nat) : Int) != 0) = true := by simp; omega
      have HRES : Hid (res = 0) := by
        show res = _
        rw [HCP.out, if_pos h1, if_pos h2]
      go_wp2_with fail
      go_ret
      exact ⟨by rw [HRES.out]; rfl, HBW4.out⟩
end Vt
end Go.Proofs.Ytfaoemmkcmijfab
