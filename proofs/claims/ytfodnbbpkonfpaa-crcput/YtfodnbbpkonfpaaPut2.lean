/-
  PROVED (by cases of the texts' lengths): for texts a and b in memory the Go law CrcPut answers true and writes nothing that was there.
-/
import Derived.Test.YtfodnbbpkonfpaaPutG
namespace Go.Proofs.Ytfodnbbpkonfpaa
open Go.ChangeShapes Go.WideShapes Go.ChangeAt Go.RowKit
namespace Put
set_option linter.unusedVariables false
set_option maxRecDepth 100000 in
set_option maxHeartbeats 2000000 in
theorem walk2 (b off c b' off' c' : Nat) (la lb : List Nat) (w : World) (hA : IsB w (.slice (some ⟨b, off, none⟩) la.length c) la) (hB : IsB w (.slice (some ⟨b', off', none⟩) lb.length c') lb) (hca : la.length ≤ c) (hra : c ≤ 140737488351232) (hcb : lb.length ≤ c') (hrb : c' ≤ 140737488351232) (hle : lb.length < la.length) :
    Calls Try.prog 4 #[.slice (some ⟨b, off, none⟩) la.length c, .slice (some ⟨b', off', none⟩) lb.length c'] w fun e w' => e = .returned (.bool true) ∧ Below w.heap.size w w' := by
  have HA := hd hA
  have HB := hd hB
  clear hA hB
  obtain ⟨i0, hi, hz0, hz1, hz2⟩ := info_parts info_u8
  go_enter Try.func4, Try.ntmps4
  go_wp2_with fail
  refine (known_any _).mono ?_
  rintro e w1 ⟨rfl, hb1⟩
  have HB1 := hd hb1
  clear hb1
  go_wp2_with (at_make; refine wpList_make_full _ rfl _ _ 22 rfl w1.heap.size 5 i0 (.int .u8 0) 1 Try.underlying22 hi hz0 hz1 .i64 .i64 _ _ (lb.length) rfl rfl (by first | rfl | omega) (by first | rfl | omega) (by rw [hz2]; omega) (by unfold maxLen; omega) (Nat.le_refl _) ?_; intro w2 hown hgrow)
  have hg2 : w1.heap.size < w2.heap.size := own_lt hown
  rw [made_bs] at hown
  have HBuf := hd (buf_of_own (Crc.byt_zero _) (by simp) hg2 hown)
  have HBL := hd ((Below.refl w1.heap.size w1).grown hgrow (Nat.le_refl _) (fun k hk => by simp at hk))
  have HA1 := hd (HA.out.below HB1.out)
  have HB1' := hd (HB.out.below HB1.out)
  clear hown hgrow hg2
  have hne : (lb.length : Int) = ((lb.length : Nat) : Int) := rfl
  clear hne
  go_loopw [8] (fun s8 wr => ∃ k : Nat, k ≤ lb.length ∧ s8 = .int .i64 (k : Int) ∧ Buf wr w1.heap.size (lb.length) (mix la lb (lb.length) k) ∧ Below w1.heap.size w1 wr) (fun s8 _ => lb.length - (intOf s8).toNat)
  case atStart => exact ⟨0, by omega, rfl, by rw [mix_zero]; exact HBuf.out, HBL.out⟩
  case round =>
    obtain ⟨k, hk, rfl, hBuf, hbl⟩ := hrel
    have HU := hd hBuf
    have HL := hd hbl
    clear hBuf hbl
    by_cases hlt : k < lb.length
    · have hml := mix_length (la := la) (lb := lb) (n := lb.length) (k := k) (by omega) (by omega) (by omega)
      have hcm := HU.out.cell (j := k) (by omega)
      have hfm := HU.out.2.2.2.2.2 k (by omega)
      have hla := HA1.out.row k (by omega)
      have hlb := HB1'.out.row k (by omega)
      have hbA := HA1.out.blk (by omega)
      have hbB := HB1'.out.blk (by omega)
      rw [← HL.out.cell (p := ⟨b, off + k, none⟩) hbA] at hla
      rw [← HL.out.cell (p := ⟨b', off' + k, none⟩) hbB] at hlb
      have lx := getD_lt HA.out.1 k
      have ly := getD_lt HB.out.1 k
      have exy := bx8 lx ly
      have lxy := Crc.xor_lt8 lx ly
      have HM := hd (mix_set (la := la) (lb := lb) (n := lb.length) (k := k) (by omega) (by omega) hlt)
      have HT : Hid (∀ y : Nat, y < 256 → Buf (wr.setCell ⟨w1.heap.size, k, none⟩ (.int .u8 (y : Int))) w1.heap.size (lb.length) ((mix la lb (lb.length) k).set k y)) := fun y hy => HU.out.set (by omega) hy
      generalize la.getD k 0 = x at *
      generalize lb.getD k 0 = y at *
      generalize x ^^^ y = z at *
      generalize (mix la lb (lb.length) k).getD k 0 = old at *
      clear hml
      go_wp2
      go_region
      go_wp2
      go_roundw
      case rel => exact ⟨k + 1, by omega, by go_num, by rw [← HM.out]; exact (HT.out z lxy).drew, (HL.out.setCell (p := ⟨w1.heap.size, _, none⟩) (Nat.le_refl _) _).drew⟩
      case measure => simp [intOf]; omega
    · obtain rfl : k = lb.length := by omega
      rw [mix_end] at HU
      have HM := hd (HU.out.isB (n := lb.length) (by rw [← mix_end, mix_length] <;> omega))
      have HP : Hid (Crc.go 0 (la.take (lb.length)) ^^^ Crc.go 0 (lb.take (lb.length)) ^^^ Crc.go 0 (List.replicate (lb.length) 0) = Crc.go 0 (Crc.zx (la.take (lb.length)) (lb.take (lb.length)))) := by
        have h := Crc.go_put (a := la.take (lb.length)) (b := lb.take (lb.length)) (by rw [List.length_take, List.length_take]; omega) (byt_take HA.out.1 _) (byt_take HB.out.1 _)
        rw [h, List.length_take, show min (lb.length) la.length = lb.length by omega]
        rfl
      have HTA := hd ((HA1.out.below (HL.out)).take (lb.length) (by omega))
      have HTB := hd ((HB1'.out.below (HL.out)).take (lb.length) (by omega))
      obtain ⟨sa, hsa⟩ : ∃ x, Crc.go 0 (la.take (lb.length)) = x := ⟨_, rfl⟩
      obtain ⟨sb, hsb⟩ : ∃ x, Crc.go 0 (lb.take (lb.length)) = x := ⟨_, rfl⟩
      obtain ⟨sz, hsz⟩ : ∃ x, Crc.go 0 (List.replicate (lb.length) 0) = x := ⟨_, rfl⟩
      obtain ⟨sm, hsm⟩ : ∃ x, Crc.go 0 (Crc.zx (la.take (lb.length)) (lb.take (lb.length))) = x := ⟨_, rfl⟩
      have lsa : sa < 4294967296 := by rw [← hsa]; exact Crc.go_lt 0 _
      have lsb : sb < 4294967296 := by rw [← hsb]; exact Crc.go_lt 0 _
      have lsz : sz < 4294967296 := by rw [← hsz]; exact Crc.go_lt 0 _
      rw [hsa, hsb, hsz, hsm] at HP
      have HSA := hd hsa
      have HSB := hd hsb
      have HSZ := hd hsz
      have HSM := hd hsm
      clear hsa hsb hsz hsm
      go_wp2_with fail
      refine region_inv (fun i v w => match i with
        | 0 => v = .bool true
        | 1 => v = .bool true
        | 2 => v = .slice (some ⟨w1.heap.size, 0, none⟩) lb.length lb.length
        | 3 => ∃ N, v = .slice (some ⟨N, 0, none⟩) 1 1 ∧ N < w.heap.size ∧ w.cell? ⟨N, 0, none⟩ = some (.slice (some ⟨w1.heap.size, 0, none⟩) lb.length lb.length)
        | 4 => v = .int .u32 (sm : Int)
        | 5 => v = .slice (some ⟨b, off, none⟩) la.length c
        | 6 => v = .int .i64 ((lb.length : Int))
        | 7 => v = .slice (some ⟨b, off, none⟩) lb.length c
        | 8 => ∃ N, v = .slice (some ⟨N, 0, none⟩) 1 1 ∧ N < w.heap.size ∧ w.cell? ⟨N, 0, none⟩ = some (.slice (some ⟨b, off, none⟩) lb.length c)
        | 9 => v = .int .u32 (sa : Int)
        | 10 => v = .slice (some ⟨b', off', none⟩) lb.length c'
        | 11 => v = .int .i64 ((lb.length : Int))
        | 12 => v = .slice (some ⟨b', off', none⟩) lb.length c'
        | 13 => ∃ N, v = .slice (some ⟨N, 0, none⟩) 1 1 ∧ N < w.heap.size ∧ w.cell? ⟨N, 0, none⟩ = some (.slice (some ⟨b', off', none⟩) lb.length c')
        | 14 => v = .int .u32 (sb : Int)
        | 15 => v = .int .u32 ((sa ^^^ sb : Nat) : Int)
        | 16 => v = .int .i64 ((lb.length : Int))
        | 17 => ∃ g, v = .slice (some ⟨g, 0, none⟩) (lb.length) (lb.length) ∧ IsB w v (List.replicate (lb.length) 0)
        | 18 => ∃ N g, v = .slice (some ⟨N, 0, none⟩) 1 1 ∧ N < w.heap.size ∧ w.cell? ⟨N, 0, none⟩ = some (.slice (some ⟨g, 0, none⟩) (lb.length) (lb.length)) ∧ IsB w (.slice (some ⟨g, 0, none⟩) (lb.length) (lb.length)) (List.replicate (lb.length) 0)
        | 19 => v = .int .u32 (sz : Int)
        | 20 => v = .int .u32 (sm : Int)
        | _ => v = .bool true) (fun w => Below wr.heap.size wr w) (by kernel_rfl) (by kernel_rfl) (by kernel_rfl) (Below.drew (Below.refl _ _)) ?_ ?_ ?_
      · intro i v w w' _ _ hb hG
        match i, hG with
        | 3, ⟨N, h1, h2, h3⟩ => exact ⟨N, h1, Nat.lt_of_lt_of_le h2 hb.size, by rw [hb.cell h2]; exact h3⟩
        | 8, ⟨N, h1, h2, h3⟩ => exact ⟨N, h1, Nat.lt_of_lt_of_le h2 hb.size, by rw [hb.cell h2]; exact h3⟩
        | 13, ⟨N, h1, h2, h3⟩ => exact ⟨N, h1, Nat.lt_of_lt_of_le h2 hb.size, by rw [hb.cell h2]; exact h3⟩
        | 17, ⟨g, h1, h2⟩ => exact ⟨g, h1, h2.below hb⟩
        | 18, ⟨N, g, h1, h2, h3, h4⟩ => exact ⟨N, g, h1, Nat.lt_of_lt_of_le h2 hb.size, by rw [hb.cell h2]; exact h3, h4.below hb⟩
        | 0, h => exact h
        | 1, h => exact h
        | 2, h => exact h
        | 4, h => exact h
        | 5, h => exact h
        | 6, h => exact h
        | 7, h => exact h
        | 9, h => exact h
        | 10, h => exact h
        | 11, h => exact h
        | 12, h => exact h
        | 14, h => exact h
        | 15, h => exact h
        | 16, h => exact h
        | 19, h => exact h
        | 20, h => exact h
        | n + 21, h => exact h
      · intro i o ho a w hW hdf hsz hout haf
        have e0 : a.tmps.getD 0 undef = .slice (some ⟨b, off, none⟩) la.length c := hout 0 (notDst_spec (by kernel_rfl))
        have e1 : a.tmps.getD 1 undef = .slice (some ⟨b', off', none⟩) lb.length c' := hout 1 (notDst_spec (by kernel_rfl))
        have e5 : a.tmps.getD 5 undef = .bool true := hout 5 (notDst_spec (by kernel_rfl))
        have e6 : a.tmps.getD 6 undef = .int .i64 ((lb.length : Int)) := hout 6 (notDst_spec (by kernel_rfl))
        have e7 : a.tmps.getD 7 undef = .slice (some ⟨w1.heap.size, 0, none⟩) lb.length lb.length := hout 7 (notDst_spec (by kernel_rfl))
        have hsz2 : a.tmps.size = 60 := hsz
        clear hout hsz hdf
        match i, ho, haf with
        | 0, ho, haf =>
          obtain rfl := Option.some.inj ho
          refine step_good _ (wanted_none rfl) ?_
          intro K hK
          show K (a.put (some 37) (a.eval (.tmp 5))) w
          rw [show a.eval (.tmp 5) = .bool true from e5]
          exact hK _ _ ⟨Below.refl _ _, hW, rfl⟩
        | 2, ho, haf =>
          obtain rfl := Option.some.inj ho
          have g1 : a.tmps.getD 38 undef = .bool true := haf ⟨1, .guard⟩ (by simp) rfl
          refine step_good _ (wanted_some rfl (yielded_of (d := 38) rfl (by omega) g1)) ?_
          clear haf
          intro K hK
          show K (a.put (some 39) (a.eval (.tmp 7))) w
          rw [show a.eval (.tmp 7) = .slice (some ⟨w1.heap.size, 0, none⟩) lb.length lb.length from e7]
          exact hK _ _ ⟨Below.refl _ _, hW, rfl⟩
        | 1, ho, haf =>
          obtain rfl := Option.some.inj ho
          have g0 : a.tmps.getD 37 undef = .bool true := haf ⟨0, .data⟩ (by simp) rfl
          refine step_good _ (wanted_none rfl) ?_
          intro K hK
          show K (a.put (some 38) (a.eval (.tmp 37))) w
          rw [show a.eval (.tmp 37) = .bool true from g0]
          exact hK _ _ ⟨Below.refl _ _, hW, rfl⟩
        | 3, ho, haf =>
          obtain rfl := Option.some.inj ho
          have g1 : a.tmps.getD 38 undef = .bool true := haf ⟨1, .guard⟩ (by simp) rfl
          have g2 := getq (show a.tmps.getD 39 undef = .slice (some ⟨w1.heap.size, 0, none⟩) lb.length lb.length from haf ⟨2, .data⟩ (by simp) rfl)
          refine step_good _ (wanted_some rfl (yielded_of (d := 38) rfl (by omega) g1)) ?_
          clear haf ho hsz2
          intro K hK
          simp only [List.getElem_toArray, List.getElem_cons_succ, List.getElem_cons_zero] at hK ⊢
          go_simp
          exact hK _ _ ⟨(Below.refl _ _).alloc (Nat.le_refl _) _, hW.alloc hW.size _, _, rfl, by simp, by go_simp⟩
        | 4, ho, haf =>
          obtain rfl := Option.some.inj ho
          have g1 : a.tmps.getD 38 undef = .bool true := haf ⟨1, .guard⟩ (by simp) rfl
          obtain ⟨M, hv, hM, hcM⟩ := haf ⟨3, .data⟩ (by simp) rfl
          have g2 := getq (show a.tmps.getD 40 undef = .slice (some ⟨M, 0, none⟩) 1 1 from hv)
          have HC := hd (sum_at w M (.slice (some ⟨w1.heap.size, 0, none⟩) lb.length lb.length) (Crc.zx (la.take (lb.length)) (lb.take (lb.length))) hcM hM (HM.out.below hW))
          rw [HSM.out] at HC
          refine step_good _ (wanted_some rfl (yielded_of (d := 38) rfl (by omega) g1)) ?_
          clear haf ho hsz2
          intro K hK
          simp only [List.getElem_toArray, List.getElem_cons_succ, List.getElem_cons_zero] at hK ⊢
          clear hv hM hcM
          go_simp
          refine Calls.mono HC.out ?_
          rintro e w' ⟨rfl, hb⟩
          exact hK _ _ ⟨hb, hW.trans (hb.mono hW.size), rfl⟩
        | 5, ho, haf =>
          obtain rfl := Option.some.inj ho
          have g1 : a.tmps.getD 38 undef = .bool true := haf ⟨1, .guard⟩ (by simp) rfl
          refine step_good _ (wanted_some rfl (yielded_of (d := 38) rfl (by omega) g1)) ?_
          intro K hK
          show K (a.put (some 42) (a.eval (.tmp 0))) w
          rw [show a.eval (.tmp 0) = .slice (some ⟨b, off, none⟩) la.length c from e0]
          exact hK _ _ ⟨Below.refl _ _, hW, rfl⟩
        | 6, ho, haf =>
          obtain rfl := Option.some.inj ho
          have g1 : a.tmps.getD 38 undef = .bool true := haf ⟨1, .guard⟩ (by simp) rfl
          refine step_good _ (wanted_some rfl (yielded_of (d := 38) rfl (by omega) g1)) ?_
          intro K hK
          show K (a.put (some 43) (a.eval (.tmp 6))) w
          rw [show a.eval (.tmp 6) = .int .i64 ((lb.length : Int)) from e6]
          exact hK _ _ ⟨Below.refl _ _, hW, rfl⟩
        | 7, ho, haf =>
          obtain rfl := Option.some.inj ho
          have g1 : a.tmps.getD 38 undef = .bool true := haf ⟨1, .guard⟩ (by simp) rfl
          have g2 := getq (show a.tmps.getD 42 undef = .slice (some ⟨b, off, none⟩) la.length c from haf ⟨5, .data⟩ (by simp) rfl)
          have g3 := getq (show a.tmps.getD 43 undef = .int .i64 ((lb.length : Int)) from haf ⟨6, .data⟩ (by simp) rfl)
          have hnc : lb.length ≤ c := by omega
          refine step_good _ (wanted_some rfl (yielded_of (d := 38) rfl (by omega) g1)) ?_
          clear haf ho hsz2
          intro K hK
          simp only [List.getElem_toArray, List.getElem_cons_succ, List.getElem_cons_zero] at hK ⊢
          go_simp
          exact hK _ _ ⟨Below.refl _ _, hW, rfl⟩
        | 8, ho, haf =>
          obtain rfl := Option.some.inj ho
          have g1 : a.tmps.getD 38 undef = .bool true := haf ⟨1, .guard⟩ (by simp) rfl
          have g2 := getq (show a.tmps.getD 44 undef = .slice (some ⟨b, off, none⟩) lb.length c from haf ⟨7, .data⟩ (by simp) rfl)
          refine step_good _ (wanted_some rfl (yielded_of (d := 38) rfl (by omega) g1)) ?_
          clear haf ho hsz2
          intro K hK
          simp only [List.getElem_toArray, List.getElem_cons_succ, List.getElem_cons_zero] at hK ⊢
          go_simp
          exact hK _ _ ⟨(Below.refl _ _).alloc (Nat.le_refl _) _, hW.alloc hW.size _, _, rfl, by simp, by go_simp⟩
        | 9, ho, haf =>
          obtain rfl := Option.some.inj ho
          have g1 : a.tmps.getD 38 undef = .bool true := haf ⟨1, .guard⟩ (by simp) rfl
          obtain ⟨M, hv, hM, hcM⟩ := haf ⟨8, .data⟩ (by simp) rfl
          have g2 := getq (show a.tmps.getD 45 undef = .slice (some ⟨M, 0, none⟩) 1 1 from hv)
          have HC := hd (sum_at w M (.slice (some ⟨b, off, none⟩) lb.length c) (la.take (lb.length)) hcM hM (HTA.out.below hW))
          rw [HSA.out] at HC
          refine step_good _ (wanted_some rfl (yielded_of (d := 38) rfl (by omega) g1)) ?_
          clear haf ho hsz2
          intro K hK
          simp only [List.getElem_toArray, List.getElem_cons_succ, List.getElem_cons_zero] at hK ⊢
          clear hv hM hcM
          go_simp
          refine Calls.mono HC.out ?_
          rintro e w' ⟨rfl, hb⟩
          exact hK _ _ ⟨hb, hW.trans (hb.mono hW.size), rfl⟩
        | 10, ho, haf =>
          obtain rfl := Option.some.inj ho
          have g1 : a.tmps.getD 38 undef = .bool true := haf ⟨1, .guard⟩ (by simp) rfl
          refine step_good _ (wanted_some rfl (yielded_of (d := 38) rfl (by omega) g1)) ?_
          intro K hK
          show K (a.put (some 47) (a.eval (.tmp 1))) w
          rw [show a.eval (.tmp 1) = .slice (some ⟨b', off', none⟩) lb.length c' from e1]
          exact hK _ _ ⟨Below.refl _ _, hW, rfl⟩
        | 11, ho, haf =>
          obtain rfl := Option.some.inj ho
          have g1 : a.tmps.getD 38 undef = .bool true := haf ⟨1, .guard⟩ (by simp) rfl
          refine step_good _ (wanted_some rfl (yielded_of (d := 38) rfl (by omega) g1)) ?_
          intro K hK
          show K (a.put (some 48) (a.eval (.tmp 6))) w
          rw [show a.eval (.tmp 6) = .int .i64 ((lb.length : Int)) from e6]
          exact hK _ _ ⟨Below.refl _ _, hW, rfl⟩
        | 12, ho, haf =>
          obtain rfl := Option.some.inj ho
          have g1 : a.tmps.getD 38 undef = .bool true := haf ⟨1, .guard⟩ (by simp) rfl
          have g2 := getq (show a.tmps.getD 47 undef = .slice (some ⟨b', off', none⟩) lb.length c' from haf ⟨10, .data⟩ (by simp) rfl)
          have g3 := getq (show a.tmps.getD 48 undef = .int .i64 ((lb.length : Int)) from haf ⟨11, .data⟩ (by simp) rfl)
          have hnc : lb.length ≤ c' := by omega
          refine step_good _ (wanted_some rfl (yielded_of (d := 38) rfl (by omega) g1)) ?_
          clear haf ho hsz2
          intro K hK
          simp only [List.getElem_toArray, List.getElem_cons_succ, List.getElem_cons_zero] at hK ⊢
          go_simp
          exact hK _ _ ⟨Below.refl _ _, hW, rfl⟩
        | 13, ho, haf =>
          obtain rfl := Option.some.inj ho
          have g1 : a.tmps.getD 38 undef = .bool true := haf ⟨1, .guard⟩ (by simp) rfl
          have g2 := getq (show a.tmps.getD 49 undef = .slice (some ⟨b', off', none⟩) lb.length c' from haf ⟨12, .data⟩ (by simp) rfl)
          refine step_good _ (wanted_some rfl (yielded_of (d := 38) rfl (by omega) g1)) ?_
          clear haf ho hsz2
          intro K hK
          simp only [List.getElem_toArray, List.getElem_cons_succ, List.getElem_cons_zero] at hK ⊢
          go_simp
          exact hK _ _ ⟨(Below.refl _ _).alloc (Nat.le_refl _) _, hW.alloc hW.size _, _, rfl, by simp, by go_simp⟩
        | 14, ho, haf =>
          obtain rfl := Option.some.inj ho
          have g1 : a.tmps.getD 38 undef = .bool true := haf ⟨1, .guard⟩ (by simp) rfl
          obtain ⟨M, hv, hM, hcM⟩ := haf ⟨13, .data⟩ (by simp) rfl
          have g2 := getq (show a.tmps.getD 50 undef = .slice (some ⟨M, 0, none⟩) 1 1 from hv)
          have HC := hd (sum_at w M (.slice (some ⟨b', off', none⟩) lb.length c') (lb.take (lb.length)) hcM hM (HTB.out.below hW))
          rw [HSB.out] at HC
          refine step_good _ (wanted_some rfl (yielded_of (d := 38) rfl (by omega) g1)) ?_
          clear haf ho hsz2
          intro K hK
          simp only [List.getElem_toArray, List.getElem_cons_succ, List.getElem_cons_zero] at hK ⊢
          clear hv hM hcM
          go_simp
          refine Calls.mono HC.out ?_
          rintro e w' ⟨rfl, hb⟩
          exact hK _ _ ⟨hb, hW.trans (hb.mono hW.size), rfl⟩
        | 15, ho, haf =>
          obtain rfl := Option.some.inj ho
          have g1 : a.tmps.getD 38 undef = .bool true := haf ⟨1, .guard⟩ (by simp) rfl
          have g2 := getq (show a.tmps.getD 46 undef = .int .u32 (sa : Int) from haf ⟨9, .data⟩ (by simp) rfl)
          have g3 := getq (show a.tmps.getD 51 undef = .int .u32 (sb : Int) from haf ⟨14, .data⟩ (by simp) rfl)
          refine step_good _ (wanted_some rfl (yielded_of (d := 38) rfl (by omega) g1)) ?_
          clear haf ho hsz2
          intro K hK
          simp only [List.getElem_toArray, List.getElem_cons_succ, List.getElem_cons_zero] at hK ⊢
          have hx := bxor lsa lsb
          go_simp
          exact hK _ _ ⟨Below.refl _ _, hW, rfl⟩
        | 16, ho, haf =>
          obtain rfl := Option.some.inj ho
          have g1 : a.tmps.getD 38 undef = .bool true := haf ⟨1, .guard⟩ (by simp) rfl
          refine step_good _ (wanted_some rfl (yielded_of (d := 38) rfl (by omega) g1)) ?_
          intro K hK
          show K (a.put (some 53) (a.eval (.tmp 6))) w
          rw [show a.eval (.tmp 6) = .int .i64 ((lb.length : Int)) from e6]
          exact hK _ _ ⟨Below.refl _ _, hW, rfl⟩
        | 17, ho, haf =>
          obtain rfl := Option.some.inj ho
          have g1 : a.tmps.getD 38 undef = .bool true := haf ⟨1, .guard⟩ (by simp) rfl
          have g2 := getq (show a.tmps.getD 53 undef = .int .i64 ((lb.length : Int)) from haf ⟨16, .data⟩ (by simp) rfl)
          refine step_good _ (wanted_some rfl (yielded_of (d := 38) rfl (by omega) g1)) ?_
          clear haf ho hsz2
          intro K hK
          simp only [List.getElem_toArray, List.getElem_cons_succ, List.getElem_cons_zero] at hK ⊢
          obtain ⟨w', hrun, hown, hgr⟩ := run_make_full (P := Try.prog) w w.heap.size 22 5 i0 (.int .u8 0) 1 Try.underlying22 hi hz0 hz1 .i64 .i64 (lb.length) (by rw [hz2]; omega) (by unfold maxLen; omega) (Nat.le_refl _)
          have hgl := own_lt hown
          rw [made_bs] at hown
          have HZ := hd ((buf_of_own (Crc.byt_zero _) (by simp) hgl hown).isB (n := lb.length) (by simp))
          have HY := hd ((Below.refl w.heap.size w).grown hgr (Nat.le_refl _) (fun k hk => by simp at hk))
          clear hown hgr hgl
          go_simp
          exact hK _ _ ⟨HY.out, hW.trans (HY.out.mono hW.size), _, rfl, HZ.out⟩
        | 18, ho, haf =>
          obtain rfl := Option.some.inj ho
          have g1 : a.tmps.getD 38 undef = .bool true := haf ⟨1, .guard⟩ (by simp) rfl
          obtain ⟨gz, hv, hIz⟩ := haf ⟨17, .data⟩ (by simp) rfl
          have g2 := getq (show a.tmps.getD 54 undef = .slice (some ⟨gz, 0, none⟩) (lb.length) (lb.length) from hv)
          rw [show slotOf _ a 17 = .slice (some ⟨gz, 0, none⟩) (lb.length) (lb.length) from hv] at hIz
          refine step_good _ (wanted_some rfl (yielded_of (d := 38) rfl (by omega) g1)) ?_
          clear haf ho hsz2
          intro K hK
          simp only [List.getElem_toArray, List.getElem_cons_succ, List.getElem_cons_zero] at hK ⊢
          clear hv
          go_simp
          exact hK _ _ ⟨(Below.refl _ _).alloc (Nat.le_refl _) _, hW.alloc hW.size _, _, gz, rfl, by simp, by go_simp, hIz.below ((Below.refl _ _).alloc (Nat.le_refl _) _)⟩
        | 19, ho, haf =>
          obtain rfl := Option.some.inj ho
          have g1 : a.tmps.getD 38 undef = .bool true := haf ⟨1, .guard⟩ (by simp) rfl
          obtain ⟨M, gz, hv, hM, hcM, hIz⟩ := haf ⟨18, .data⟩ (by simp) rfl
          have g2 := getq (show a.tmps.getD 55 undef = .slice (some ⟨M, 0, none⟩) 1 1 from hv)
          have HC := hd (sum_at w M _ (List.replicate (lb.length) 0) hcM hM hIz)
          rw [HSZ.out] at HC
          refine step_good _ (wanted_some rfl (yielded_of (d := 38) rfl (by omega) g1)) ?_
          clear haf ho hsz2
          intro K hK
          simp only [List.getElem_toArray, List.getElem_cons_succ, List.getElem_cons_zero] at hK ⊢
          clear hv hM hcM hIz
          go_simp
          refine Calls.mono HC.out ?_
          rintro e w' ⟨rfl, hb⟩
          exact hK _ _ ⟨hb, hW.trans (hb.mono hW.size), rfl⟩
        | 20, ho, haf =>
          obtain rfl := Option.some.inj ho
          have g1 : a.tmps.getD 38 undef = .bool true := haf ⟨1, .guard⟩ (by simp) rfl
          have g2 := getq (show a.tmps.getD 52 undef = .int .u32 ((sa ^^^ sb : Nat) : Int) from haf ⟨15, .data⟩ (by simp) rfl)
          have g3 := getq (show a.tmps.getD 56 undef = .int .u32 (sz : Int) from haf ⟨19, .data⟩ (by simp) rfl)
          refine step_good _ (wanted_some rfl (yielded_of (d := 38) rfl (by omega) g1)) ?_
          clear haf ho hsz2
          intro K hK
          simp only [List.getElem_toArray, List.getElem_cons_succ, List.getElem_cons_zero] at hK ⊢
          have hx := bxor (Crc.xor_lt lsa lsb) lsz
          rw [HP.out] at hx
          go_simp
          exact hK _ _ ⟨Below.refl _ _, hW, rfl⟩
        | 21, ho, haf =>
          obtain rfl := Option.some.inj ho
          have g1 : a.tmps.getD 38 undef = .bool true := haf ⟨1, .guard⟩ (by simp) rfl
          have g2 := getq (show a.tmps.getD 41 undef = .int .u32 (sm : Int) from haf ⟨4, .data⟩ (by simp) rfl)
          have g3 := getq (show a.tmps.getD 57 undef = .int .u32 (sm : Int) from haf ⟨20, .data⟩ (by simp) rfl)
          refine step_good _ (wanted_some rfl (yielded_of (d := 38) rfl (by omega) g1)) ?_
          clear haf ho hsz2
          intro K hK
          simp only [List.getElem_toArray, List.getElem_cons_succ, List.getElem_cons_zero] at hK ⊢
          go_simp
          exact hK _ _ ⟨Below.refl _ _, hW, rfl⟩
        | 22, ho, haf =>
          obtain rfl := Option.some.inj ho
          have g2 := getq (show a.tmps.getD 38 undef = .bool true from haf ⟨1, .data⟩ (by simp) rfl)
          have g3 := getq (show a.tmps.getD 58 undef = .bool true from haf ⟨21, .data⟩ (by simp) rfl)
          refine step_good _ (wanted_none rfl) ?_
          clear haf ho hsz2
          intro K hK
          simp only [List.getElem_toArray, List.getElem_cons_succ, List.getElem_cons_zero] at hK ⊢
          go_simp
          exact hK _ _ ⟨Below.refl _ _, hW, rfl⟩
        | 23, ho, haf =>
          obtain rfl := Option.some.inj ho
          have g2 := getq (show a.tmps.getD 59 undef = .bool true from haf ⟨22, .data⟩ (by simp) rfl)
          refine step_good _ (wanted_none rfl) ?_
          clear haf ho hsz2
          intro K hK
          simp only [List.getElem_toArray, List.getElem_cons_succ, List.getElem_cons_zero] at hK ⊢
          go_simp
          exact hK _ _ ⟨Below.refl _ _, hW, rfl⟩
        | n + 24, ho, haf => simp at ho
      · intro a w hW hdf hsz hout hall
        have h4 : a.tmps.getD 4 undef = .bool true := hall 23 (by decide)
        have hdf2 : a.defers = [] := hdf
        clear hall hout hsz hdf
        go_wp2
        refine bodyPost_ret (v := .bool true) ?_ hdf2 ⟨rfl, HB1.out.trans ((HL.out.trans (hW.mono HL.out.size)).mono HB1.out.size)⟩
        simp [results, Try.results4, go_sem, getq h4]

end Put
end Go.Proofs.Ytfodnbbpkonfpaa
