/-
  THE WALK OF frame.Body: a Delete, a Hint, a Foot; so: of every frame that may be.
-/
import Derived.Test.YtnjhbidialngmaaXham
import Derived.Test.YtnjhbidialngmaaXhan
namespace Go.Proofs.Ytnjhbidialngmaa
open Go.RowKit
namespace Vt
theorem Ps.below {w w' : World} {b off : Nat} {ls : List (List Nat)} (h : Ps w b off ls) (hb : b < w.heap.size) (hB : Below w.heap.size w w') : Ps w' b off ls := by
  intro i hi
  obtain ⟨v, hv, hI⟩ := h i hi
  exact ⟨v, by rw [hB.cell hb]; exact hv, hI.below hB⟩
theorem one_isN {w : World} {N x : Nat} (hx : x < 18446744073709551616) (hN : N < w.heap.size) (hc : w.cell? ⟨N, 0, none⟩ = some (.int .u64 (x : Int))) : IsN w (.slice (some ⟨N, 0, none⟩) 1 1) [x] := by
  refine ⟨by intro y hy; simp at hy; omega, by simp [maxLen], .inr ⟨N, 0, 1, rfl, by simp, by simp [maxLen], hN, ?_⟩⟩
  intro i hi
  match i, hi with
  | 0, _ => exact hc
set_option maxRecDepth 100000 in
set_option maxHeartbeats 1000000 in
theorem body_2 (lsn : Nat) (key : ByteArray) (wA : World) (hl : lsn < 18446744073709551616) (h : rf (ofR ⟨lsn, 2, key, ByteArray.empty⟩) = 0) :
    Calls Try.prog 6 #[.agg (fv (ofR ⟨lsn, 2, key, ByteArray.empty⟩))] wA fun e w' => ∃ u, e = .returned (.tuple #[u, .int .i64 0]) ∧ JB w' wA.heap.size u (bd (ofR ⟨lsn, 2, key, ByteArray.empty⟩)) ∧ Below wA.heap.size wA w' := by
  have HC := hd (refusal_is (ofR ⟨lsn, 2, key, ByteArray.empty⟩))
  obtain ⟨hb1, hb2⟩ := bd_len (f := (ofR ⟨lsn, 2, key, ByteArray.empty⟩)) ⟨hl, by show 0 < 18446744073709551616; omega, by show 0 < 4294967296; omega⟩ h
  have hk1 : key.size ≤ 64 := by
    have h' := h
    unfold rf at h'
    rw [if_pos (.inr rfl)] at h'
    exact (rfR_ok h').2.2.1.2
  have HBD : Hid (bd (ofR ⟨lsn, 2, key, ByteArray.empty⟩) = [[2], enc [lsn], bl key].flatten) := by
    show bd _ = _
    unfold bd bp ofR
    rw [if_neg (by simp), if_pos rfl]; rfl
  rw [HBD.out] at hb1 hb2 ⊢
  rw [h] at HC
  clear h HBD
  have HBB := hd (show 0 < [[2], enc [lsn], bl key].flatten.length ∧ [[2], enc [lsn], bl key].flatten.length ≤ 2200 from ⟨hb2, hb1⟩)
  clear hb1 hb2
  simp only [fv, ofR, zp, ze] at HC ⊢
  go_enter Try.func6, Try.ntmps6
  go_wp2_with fail
  refine Calls.mono (HC.out _) ?_
  rintro e w1 ⟨rfl, hb⟩
  have HX : Hid (Blk w1 wA.heap.size 34 [.int .i64 2, .int .u64 (lsn : Int), .int .i64 2, .string key, .string ByteArray.empty, .int .u64 0, .int .i64 0, .int .i64 0, .int .i64 0, .string ByteArray.empty, .int .i64 0, .int .i64 0, .int .i64 0, .int .u32 0]) := (Blk.new wA _ _).keep hb
  have HB := hd (below_alloc1 hb)
  have hs1 := hb.size
  rw [World.size_alloc] at hs1
  clear hb HC
  have c0 := HX.out.cell 0 _ rfl
  have c1 := HX.out.cell 1 _ rfl
  have c2 := HX.out.cell 2 _ rfl
  have c3 := HX.out.cell 3 _ rfl
  have c4 := HX.out.cell 4 _ rfl
  clear HX
  have n1 : wA.heap.size < w1.heap.size := by omega
  have n2 : ¬ wA.heap.size = w1.heap.size := by omega
  have n3 : ¬ w1.heap.size = wA.heap.size := by omega
  have n4 : ¬ wA.heap.size = w1.heap.size + 1 := by omega
  have n5 : ¬ w1.heap.size + 1 = wA.heap.size := by omega
  have n6 : wA.heap.size < w1.heap.size + 1 := by omega
  go_wp2_with fail
  obtain ⟨X, hX⟩ : ∃ X, X = (w1.alloc (.cells #[.int .u8 2] 5)).alloc (.cells #[.int .u64 (lsn : Int), .int .i64 2, .string key, .string ByteArray.empty] 25) := ⟨_, rfl⟩
  have HXS : Hid (X.heap.size = w1.heap.size + 1 + 1) := by show X.heap.size = _; rw [hX]; simp
  have HXB : Hid (Below wA.heap.size wA X) := by rw [hX]; exact (HB.out.alloc (by omega) _).alloc (by simp; omega) _
  have HK : Hid (IsB X (.slice (some ⟨w1.heap.size, 0, none⟩) 1 1) [2]) := by
    rw [hX]
    exact (lit_isK_at .u8 256 w1 #[.int .u8 2] 5 [2] 1 _ rfl rfl rfl (by simp) (by simp [maxLen])).below ((Below.refl _ _).alloc (Nat.le_refl _) _)
  have HR : Hid (Blk X (w1.heap.size + 1) 25 [.int .u64 (lsn : Int), .int .i64 2, .string key, .string ByteArray.empty]) := by
    rw [hX]
    have := Blk.new (w1.alloc (.cells #[.int .u8 2] 5)) 25 [.int .u64 (lsn : Int), .int .i64 2, .string key, .string ByteArray.empty]
    rw [World.size_alloc] at this
    exact this
  rw [← hX]
  clear c0 c1 c2 c3 c4 hX
  refine region_inv (fun i v w => match i with
    | 0 => v = .slice (some ⟨w1.heap.size, 0, none⟩) 1 1
    | 1 => v = .pointer (some ⟨w1.heap.size + 1, 0, none⟩)
    | 2 => v = .int .u64 (lsn : Int)
    | 3 => ∃ N, v = .slice (some ⟨N, 0, none⟩) 1 1 ∧ N < w.heap.size ∧ w.cell? ⟨N, 0, none⟩ = some (.int .u64 (lsn : Int))
    | 4 => ∃ g, v = .slice (some ⟨g, 0, none⟩) (enc [lsn]).length (enc [lsn]).length ∧ IsB w v (enc [lsn])
    | 5 => v = .pointer (some ⟨w1.heap.size + 1, 2, none⟩)
    | 6 => v = .string key
    | 7 => ∃ g c, v = .slice (some ⟨g, 0, none⟩) key.size c ∧ IsB w v (bl key)
    | 8 => ∃ N, v = .slice (some ⟨N, 0, none⟩) 3 3 ∧ N < w.heap.size ∧ Ps w N 0 [[2], enc [lsn], bl key]
    | 9 => JB w wA.heap.size v [[2], enc [lsn], bl key].flatten
    | 10 => JB w wA.heap.size v [[2], enc [lsn], bl key].flatten
    | _ => v = .int .i64 0) (fun w => Below X.heap.size X w) (by kernel_rfl) (by kernel_rfl) (by kernel_rfl) (Below.drew (Below.refl _ _)) ?_ ?_ ?_
  · intro i v w w' _ _ hb hG
    match i, hG with
    | 0, h => exact h
    | 1, h => exact h
    | 2, h => exact h
    | 3, ⟨N, h1, h2, h3⟩ => exact ⟨N, h1, Nat.lt_of_lt_of_le h2 hb.size, by rw [hb.cell h2]; exact h3⟩
    | 4, ⟨g, h1, h2⟩ => exact ⟨g, h1, h2.below hb⟩
    | 5, h => exact h
    | 6, h => exact h
    | 7, ⟨g, c, h1, h2⟩ => exact ⟨g, c, h1, h2.below hb⟩
    | 8, ⟨N, h1, h2, h3⟩ => exact ⟨N, h1, Nat.lt_of_lt_of_le h2 hb.size, h3.below h2 hb⟩
    | 9, h => exact JB.keepAll h hb
    | 10, h => exact JB.keepAll h hb
    | n + 11, h => exact h
  · intro i o ho a w hW hdf hsz hout haf
    have e5 : a.tmps.getD 5 undef = .slice (some ⟨w1.heap.size, 0, none⟩) 1 1 := hout 5 (notDst_spec (by kernel_rfl))
    have e8 : a.tmps.getD 8 undef = .pointer (some ⟨w1.heap.size + 1, 0, none⟩) := hout 8 (notDst_spec (by kernel_rfl))
    have hsz2 : a.tmps.size = 110 := hsz
    clear hout hsz hdf
    match i, ho, haf with
    | 0, ho, haf =>
      obtain rfl := Option.some.inj ho
      refine step_good _ (wanted_none rfl) ?_
      intro K hK
      show K (a.put (some 50) (a.eval (.tmp 5))) w
      rw [show a.eval (.tmp 5) = .slice (some ⟨w1.heap.size, 0, none⟩) 1 1 from e5]
      exact hK _ _ ⟨Below.refl _ _, hW, rfl⟩
    | 1, ho, haf =>
      obtain rfl := Option.some.inj ho
      have q := getq e8
      refine step_good _ (wanted_none rfl) ?_
      clear haf ho hsz2
      intro K hK
      simp only [List.getElem_toArray, List.getElem_cons_succ, List.getElem_cons_zero] at hK ⊢
      go_simp
      exact hK _ _ ⟨Below.refl _ _, hW, rfl⟩
    | 2, ho, haf =>
      obtain rfl := Option.some.inj ho
      have g1 := getq (show a.tmps.getD 51 undef = .pointer (some ⟨w1.heap.size + 1, 0, none⟩) from haf ⟨1, .data⟩ (by simp) rfl)
      have hc := ((HR.out.keep hW).cell 0 _ rfl : w.cell? ⟨w1.heap.size + 1, 0, none⟩ = some (.int .u64 (lsn : Int)))
      refine step_good _ (wanted_none rfl) ?_
      clear haf ho hsz2
      intro K hK
      simp only [List.getElem_toArray, List.getElem_cons_succ, List.getElem_cons_zero] at hK ⊢
      go_simp
      exact hK _ _ ⟨Below.refl _ _, hW, rfl⟩
    | 3, ho, haf =>
      obtain rfl := Option.some.inj ho
      have g2 := getq (show a.tmps.getD 52 undef = .int .u64 (lsn : Int) from haf ⟨2, .data⟩ (by simp) rfl)
      refine step_good _ (wanted_none rfl) ?_
      clear haf ho hsz2
      intro K hK
      simp only [List.getElem_toArray, List.getElem_cons_succ, List.getElem_cons_zero] at hK ⊢
      go_simp
      exact hK _ _ ⟨(Below.refl _ _).alloc (Nat.le_refl _) _, hW.alloc hW.size _, _, rfl, by simp, by go_simp⟩
    | 4, ho, haf =>
      obtain rfl := Option.some.inj ho
      obtain ⟨M, hv, hM, hcM⟩ := haf ⟨3, .data⟩ (by simp) rfl
      have g3 := getq (show a.tmps.getD 53 undef = .slice (some ⟨M, 0, none⟩) 1 1 from hv)
      have HCE := hd (encode_is _ [lsn] w (one_isN hl hM hcM) (by simp))
      refine step_good _ (wanted_none rfl) ?_
      clear haf ho hsz2
      intro K hK
      simp only [List.getElem_toArray, List.getElem_cons_succ, List.getElem_cons_zero] at hK ⊢
      clear hv hM hcM
      go_simp
      refine Calls.mono HCE.out ?_
      rintro e w' ⟨rfl, hj, hb⟩
      exact hK _ _ ⟨hb, hW.trans (hb.mono hW.size), _, rfl, hj.isB⟩
    | 5, ho, haf =>
      obtain rfl := Option.some.inj ho
      have q := getq e8
      refine step_good _ (wanted_none rfl) ?_
      clear haf ho hsz2
      intro K hK
      simp only [List.getElem_toArray, List.getElem_cons_succ, List.getElem_cons_zero] at hK ⊢
      go_simp
      exact hK _ _ ⟨Below.refl _ _, hW, rfl⟩
    | 6, ho, haf =>
      obtain rfl := Option.some.inj ho
      have g5 := getq (show a.tmps.getD 55 undef = .pointer (some ⟨w1.heap.size + 1, 2, none⟩) from haf ⟨5, .data⟩ (by simp) rfl)
      have hc := ((HR.out.keep hW).cell 2 _ rfl : w.cell? ⟨w1.heap.size + 1, 2, none⟩ = some (.string key))
      refine step_good _ (wanted_none rfl) ?_
      clear haf ho hsz2
      intro K hK
      simp only [List.getElem_toArray, List.getElem_cons_succ, List.getElem_cons_zero] at hK ⊢
      go_simp
      exact hK _ _ ⟨Below.refl _ _, hW, rfl⟩
    | 7, ho, haf =>
      obtain rfl := Option.some.inj ho
      have g6 := getq (show a.tmps.getD 56 undef = .string key from haf ⟨6, .data⟩ (by simp) rfl)
      obtain ⟨cc, wc, hcv, hic, hbc⟩ := conv_bytes w key (by unfold maxLen; omega)
      have HIC := hd hic
      have HBC := hd hbc
      clear hic hbc
      refine step_good _ (wanted_none rfl) ?_
      clear haf ho hsz2
      intro K hK
      simp only [List.getElem_toArray, List.getElem_cons_succ, List.getElem_cons_zero] at hK ⊢
      go_simp
      exact hK _ _ ⟨HBC.out, hW.trans (HBC.out.mono hW.size), _, _, rfl, HIC.out⟩
    | 8, ho, haf =>
      obtain rfl := Option.some.inj ho
      obtain ⟨ge, hve, hie⟩ := haf ⟨4, .data⟩ (by simp) rfl
      obtain ⟨gk, ck, hvk, hik⟩ := haf ⟨7, .data⟩ (by simp) rfl
      have g0 := getq (show a.tmps.getD 50 undef = .slice (some ⟨w1.heap.size, 0, none⟩) 1 1 from haf ⟨0, .data⟩ (by simp) rfl)
      have g4 := getq (show a.tmps.getD 54 undef = .slice (some ⟨ge, 0, none⟩) (enc [lsn]).length (enc [lsn]).length from hve)
      have g7 := getq (show a.tmps.getD 57 undef = .slice (some ⟨gk, 0, none⟩) key.size ck from hvk)
      rw [show slotOf _ a 4 = .slice (some ⟨ge, 0, none⟩) (enc [lsn]).length (enc [lsn]).length from hve] at hie
      rw [show slotOf _ a 7 = .slice (some ⟨gk, 0, none⟩) key.size ck from hvk] at hik
      have HPS := hd (ps_lit w [.slice (some ⟨w1.heap.size, 0, none⟩) 1 1, .slice (some ⟨ge, 0, none⟩) (enc [lsn]).length (enc [lsn]).length, .slice (some ⟨gk, 0, none⟩) key.size ck] [[2], enc [lsn], bl key] 36 rfl (by
        intro i v hv
        match i, hv with
        | 0, hv => cases hv; exact (HK.out.below hW)
        | 1, hv => cases hv; exact hie
        | 2, hv => cases hv; exact hik
        | i + 3, hv => simp at hv))
      refine step_good _ (wanted_none rfl) ?_
      clear haf ho hsz2
      intro K hK
      simp only [List.getElem_toArray, List.getElem_cons_succ, List.getElem_cons_zero] at hK ⊢
      clear hve hie hvk hik
      go_simp
      exact hK _ _ ⟨(Below.refl _ _).alloc (Nat.le_refl _) _, hW.alloc hW.size _, _, rfl, by simp, HPS.out⟩
    | 9, ho, haf =>
      obtain rfl := Option.some.inj ho
      obtain ⟨M, hv, hM, hP⟩ := haf ⟨8, .data⟩ (by simp) rfl
      have g8b := getq (show a.tmps.getD 58 undef = .slice (some ⟨M, 0, none⟩) 3 3 from hv)
      have HCC := hd (concat_row M 0 3 _ w hM (by simp) hP HBB.out.1 (Nat.le_trans HBB.out.2 (by omega)))
      have hss := HXB.out.size
      have hsw := hW.size
      refine step_good _ (wanted_none rfl) ?_
      clear haf ho hsz2
      intro K hK
      simp only [List.getElem_toArray, List.getElem_cons_succ, List.getElem_cons_zero] at hK ⊢
      clear hv hM hP
      go_simp
      refine Calls.mono HCC.out ?_
      rintro e w' ⟨u, rfl, hj, hb⟩
      exact hK _ _ ⟨hb, hW.trans (hb.mono hW.size), hj.base (by omega)⟩
    | 10, ho, haf =>
      obtain rfl := Option.some.inj ho
      have hj : JB w wA.heap.size (slotOf _ a 9) [[2], enc [lsn], bl key].flatten := haf ⟨9, .data⟩ (by simp) rfl
      refine step_good _ (wanted_none rfl) ?_
      clear haf ho hsz2
      intro K hK
      show K (a.put (some 2) (a.eval (.tmp 59))) w
      exact hK _ _ ⟨Below.refl _ _, hW, hj⟩
    | 11, ho, haf =>
      obtain rfl := Option.some.inj ho
      refine step_good _ (wanted_none rfl) ?_
      clear haf ho hsz2
      intro K hK
      simp only [List.getElem_toArray, List.getElem_cons_succ, List.getElem_cons_zero] at hK ⊢
      go_simp
      exact hK _ _ ⟨Below.refl _ _, hW, rfl⟩
    | n + 12, ho, haf => simp at ho
  · intro a w hW hdf hsz hout hall
    have h2 : JB w wA.heap.size (a.tmps.getD 2 undef) [[2], enc [lsn], bl key].flatten := hall 10 (by decide)
    have h3 : a.tmps.getD 3 undef = .int .i64 0 := hall 11 (by decide)
    have hdf2 : a.defers = [] := hdf
    have H2 := hd h2
    generalize hu : a.tmps.getD 2 undef = u at h2 H2
    have HU := hd hu
    clear hall hout hsz hdf h2 hu
    go_wp2
    refine bodyPost_ret (v := .tuple #[u, .int .i64 0]) ?_ hdf2 ⟨u, rfl, H2.out, HXB.out.trans (hW.mono HXB.out.size)⟩
    simp [results, Try.results6, go_sem, getq h3, getq HU.out]
set_option maxRecDepth 100000 in
set_option maxHeartbeats 1000000 in
theorem body_3 (lsn q at_ len : Nat) (key : ByteArray) (wA : World) (hl : lsn < 18446744073709551616) (h : rf (⟨3, zr, ⟨lsn, (q : Int), (at_ : Int), (len : Int), key⟩, ze⟩ : Fr) = 0) :
    Calls Try.prog 6 #[.agg (fv (⟨3, zr, ⟨lsn, (q : Int), (at_ : Int), (len : Int), key⟩, ze⟩ : Fr))] wA fun e w' => ∃ u, e = .returned (.tuple #[u, .int .i64 0]) ∧ JB w' wA.heap.size u (bd (⟨3, zr, ⟨lsn, (q : Int), (at_ : Int), (len : Int), key⟩, ze⟩ : Fr)) ∧ Below wA.heap.size wA w' := by
  have HC := hd (refusal_is (⟨3, zr, ⟨lsn, (q : Int), (at_ : Int), (len : Int), key⟩, ze⟩ : Fr))
  obtain ⟨hb1, hb2⟩ := bd_len (f := (⟨3, zr, ⟨lsn, (q : Int), (at_ : Int), (len : Int), key⟩, ze⟩ : Fr)) ⟨by show 0 < 18446744073709551616; omega, hl, by show 0 < 4294967296; omega⟩ h
  have hk : key.size ≤ 64 ∧ at_ ≤ 4194304 ∧ len ≤ 4194304 ∧ q ≤ 2 := by
    have h' := h
    unfold rf at h'
    rw [if_neg (by simp), if_pos rfl] at h'
    obtain ⟨h1, _, h3, h4, h5, _⟩ := rfP_ok h'
    have h42 := h4.2
    have h52 := h5.2
    simp only at h42 h52 h1
    exact ⟨h3.2, by omega, by omega, by omega⟩
  obtain ⟨hk1, hk2, hk3, hk4⟩ := hk
  have HBD : Hid (bd (⟨3, zr, ⟨lsn, (q : Int), (at_ : Int), (len : Int), key⟩, ze⟩ : Fr) = [[3], enc [lsn], [q], enc [at_, len], bl key].flatten) := by
    show bd _ = _
    unfold bd bp
    rw [if_neg (by simp), if_neg (by simp), if_pos rfl]; rfl
  rw [HBD.out] at hb1 hb2 ⊢
  rw [h] at HC
  clear h HBD
  have HBB := hd (show 0 < [[3], enc [lsn], [q], enc [at_, len], bl key].flatten.length ∧ [[3], enc [lsn], [q], enc [at_, len], bl key].flatten.length ≤ 2200 from ⟨hb2, hb1⟩)
  clear hb1 hb2
  simp only [fv, zr, ze] at HC ⊢
  go_enter Try.func6, Try.ntmps6
  go_wp2_with fail
  refine Calls.mono (HC.out _) ?_
  rintro e w1 ⟨rfl, hb⟩
  have HX : Hid (Blk w1 wA.heap.size 34 [.int .i64 3, .int .u64 0, .int .i64 0, .string ByteArray.empty, .string ByteArray.empty, .int .u64 (lsn : Int), .int .i64 (q : Int), .int .i64 (at_ : Int), .int .i64 (len : Int), .string key, .int .i64 0, .int .i64 0, .int .i64 0, .int .u32 0]) := (Blk.new wA _ _).keep hb
  have HB := hd (below_alloc1 hb)
  have hs1 := hb.size
  rw [World.size_alloc] at hs1
  clear hb HC
  have c0 := HX.out.cell 0 _ rfl
  have c1 := HX.out.cell 5 _ rfl
  have c2 := HX.out.cell 6 _ rfl
  have c3 := HX.out.cell 7 _ rfl
  have c4 := HX.out.cell 8 _ rfl
  have c5 := HX.out.cell 9 _ rfl
  clear HX
  have n1 : wA.heap.size < w1.heap.size := by omega
  have n2 : ¬ wA.heap.size = w1.heap.size := by omega
  have n3 : ¬ w1.heap.size = wA.heap.size := by omega
  have n4 : ¬ wA.heap.size = w1.heap.size + 1 := by omega
  have n5 : ¬ w1.heap.size + 1 = wA.heap.size := by omega
  have n6 : wA.heap.size < w1.heap.size + 1 := by omega
  go_wp2_with fail
  obtain ⟨X, hX⟩ : ∃ X, X = (w1.alloc (.cells #[.int .u8 3] 5)).alloc (.cells #[.int .u64 (lsn : Int), .int .i64 (q : Int), .int .i64 (at_ : Int), .int .i64 (len : Int), .string key] 27) := ⟨_, rfl⟩
  have HXS : Hid (X.heap.size = w1.heap.size + 1 + 1) := by show X.heap.size = _; rw [hX]; simp
  have HXB : Hid (Below wA.heap.size wA X) := by rw [hX]; exact (HB.out.alloc (by omega) _).alloc (by simp; omega) _
  have HK : Hid (IsB X (.slice (some ⟨w1.heap.size, 0, none⟩) 1 1) [3]) := by
    rw [hX]
    exact (lit_isK_at .u8 256 w1 #[.int .u8 3] 5 [3] 1 _ rfl rfl rfl (by simp) (by simp [maxLen])).below ((Below.refl _ _).alloc (Nat.le_refl _) _)
  have HR : Hid (Blk X (w1.heap.size + 1) 27 [.int .u64 (lsn : Int), .int .i64 (q : Int), .int .i64 (at_ : Int), .int .i64 (len : Int), .string key]) := by
    rw [hX]
    have := Blk.new (w1.alloc (.cells #[.int .u8 3] 5)) 27 [.int .u64 (lsn : Int), .int .i64 (q : Int), .int .i64 (at_ : Int), .int .i64 (len : Int), .string key]
    rw [World.size_alloc] at this
    exact this
  rw [← hX]
  have hlit := lit_isK_at .u64 18446744073709551616 X #[.int .u64 (at_ : Int), .int .u64 (len : Int)] 23 [at_, len] 2 (w1.heap.size + 1 + 1) HXS.out rfl rfl (by intro x hx; simp at hx; omega) (by simp [maxLen])
  refine Calls.mono (encode_is _ [at_, len] _ hlit (by simp)) ?_
  rintro e Y ⟨rfl, hj, hb⟩
  have HYB : Hid (Below X.heap.size X Y) := below_alloc1 hb
  have HPL0 := hd hj.isB
  rw [World.size_alloc] at HPL0 ⊢
  clear c0 c1 c2 c3 c4 c5 hX hlit hj hb
  have HK2 := hd (HK.out.below HYB.out)
  have HR2 := hd (HR.out.keep HYB.out)
  have HXB2 : Hid (Below wA.heap.size wA Y) := HXB.out.trans (HYB.out.mono HXB.out.size)
  clear HK HR HXB HYB
  obtain ⟨PN, hPN⟩ : ∃ n, n = X.heap.size + 1 := ⟨_, rfl⟩
  rw [← hPN] at HPL0 ⊢
  clear hPN
  go_wp2_with fail
  have HK := HK2
  have HR := HR2
  have HXB := HXB2
  have HPL := HPL0
  clear HK2 HR2 HXB2 HPL0
  refine region_inv (fun i v w => match i with
    | 0 => v = .slice (some ⟨w1.heap.size, 0, none⟩) 1 1
    | 1 => v = .pointer (some ⟨w1.heap.size + 1, 0, none⟩)
    | 2 => v = .int .u64 (lsn : Int)
    | 3 => ∃ N, v = .slice (some ⟨N, 0, none⟩) 1 1 ∧ N < w.heap.size ∧ w.cell? ⟨N, 0, none⟩ = some (.int .u64 (lsn : Int))
    | 4 => ∃ g, v = .slice (some ⟨g, 0, none⟩) (enc [lsn]).length (enc [lsn]).length ∧ IsB w v (enc [lsn])
    | 5 => v = .pointer (some ⟨w1.heap.size + 1, 1, none⟩)
    | 6 => v = .int .i64 (q : Int)
    | 7 => v = .int .u8 (q : Int)
    | 8 => ∃ g, v = .slice (some ⟨g, 0, none⟩) 1 1 ∧ IsB w v [q]
    | 9 => v = .slice (some ⟨PN, 0, none⟩) (enc [at_, len]).length (enc [at_, len]).length
    | 10 => v = .pointer (some ⟨w1.heap.size + 1, 4, none⟩)
    | 11 => v = .string key
    | 12 => ∃ g c, v = .slice (some ⟨g, 0, none⟩) key.size c ∧ IsB w v (bl key)
    | 13 => ∃ N, v = .slice (some ⟨N, 0, none⟩) 5 5 ∧ N < w.heap.size ∧ Ps w N 0 [[3], enc [lsn], [q], enc [at_, len], bl key]
    | 14 => JB w wA.heap.size v [[3], enc [lsn], [q], enc [at_, len], bl key].flatten
    | 15 => JB w wA.heap.size v [[3], enc [lsn], [q], enc [at_, len], bl key].flatten
    | _ => v = .int .i64 0) (fun w => Below Y.heap.size Y w) (by kernel_rfl) (by kernel_rfl) (by kernel_rfl) (Below.drew (Below.refl _ _)) ?_ ?_ ?_
  · intro i v w w' _ _ hb hG
    match i, hG with
    | 0, h => exact h
    | 1, h => exact h
    | 2, h => exact h
    | 3, ⟨N, h1, h2, h3⟩ => exact ⟨N, h1, Nat.lt_of_lt_of_le h2 hb.size, by rw [hb.cell h2]; exact h3⟩
    | 4, ⟨g, h1, h2⟩ => exact ⟨g, h1, h2.below hb⟩
    | 5, h => exact h
    | 6, h => exact h
    | 7, h => exact h
    | 8, ⟨g, h1, h2⟩ => exact ⟨g, h1, h2.below hb⟩
    | 9, h => exact h
    | 10, h => exact h
    | 11, h => exact h
    | 12, ⟨g, c, h1, h2⟩ => exact ⟨g, c, h1, h2.below hb⟩
    | 13, ⟨N, h1, h2, h3⟩ => exact ⟨N, h1, Nat.lt_of_lt_of_le h2 hb.size, h3.below h2 hb⟩
    | 14, h => exact JB.keepAll h hb
    | 15, h => exact JB.keepAll h hb
    | n + 16, h => exact h
  · intro i o ho a w hW hdf hsz hout haf
    have e5 : a.tmps.getD 5 undef = .slice (some ⟨w1.heap.size, 0, none⟩) 1 1 := hout 5 (notDst_spec (by kernel_rfl))
    have e9 : a.tmps.getD 9 undef = .pointer (some ⟨w1.heap.size + 1, 0, none⟩) := hout 9 (notDst_spec (by kernel_rfl))
    have e10 : a.tmps.getD 10 undef = .slice (some ⟨PN, 0, none⟩) (enc [at_, len]).length (enc [at_, len]).length := hout 10 (notDst_spec (by kernel_rfl))
    have hsz2 : a.tmps.size = 110 := hsz
    clear hout hsz hdf
    match i, ho, haf with
    | 0, ho, haf =>
      obtain rfl := Option.some.inj ho
      refine step_good _ (wanted_none rfl) ?_
      intro K hK
      show K (a.put (some 72) (a.eval (.tmp 5))) w
      rw [show a.eval (.tmp 5) = .slice (some ⟨w1.heap.size, 0, none⟩) 1 1 from e5]
      exact hK _ _ ⟨Below.refl _ _, hW, rfl⟩
    | 1, ho, haf =>
      obtain rfl := Option.some.inj ho
      have q := getq e9
      refine step_good _ (wanted_none rfl) ?_
      clear haf ho hsz2
      intro K hK
      simp only [List.getElem_toArray, List.getElem_cons_succ, List.getElem_cons_zero] at hK ⊢
      go_simp
      exact hK _ _ ⟨Below.refl _ _, hW, rfl⟩
    | 2, ho, haf =>
      obtain rfl := Option.some.inj ho
      have g1 := getq (show a.tmps.getD 73 undef = .pointer (some ⟨w1.heap.size + 1, 0, none⟩) from haf ⟨1, .data⟩ (by simp) rfl)
      have hc := ((HR.out.keep hW).cell 0 _ rfl : w.cell? ⟨w1.heap.size + 1, 0, none⟩ = some (.int .u64 (lsn : Int)))
      refine step_good _ (wanted_none rfl) ?_
      clear haf ho hsz2
      intro K hK
      simp only [List.getElem_toArray, List.getElem_cons_succ, List.getElem_cons_zero] at hK ⊢
      go_simp
      exact hK _ _ ⟨Below.refl _ _, hW, rfl⟩
    | 3, ho, haf =>
      obtain rfl := Option.some.inj ho
      have g2 := getq (show a.tmps.getD 74 undef = .int .u64 (lsn : Int) from haf ⟨2, .data⟩ (by simp) rfl)
      refine step_good _ (wanted_none rfl) ?_
      clear haf ho hsz2
      intro K hK
      simp only [List.getElem_toArray, List.getElem_cons_succ, List.getElem_cons_zero] at hK ⊢
      go_simp
      exact hK _ _ ⟨(Below.refl _ _).alloc (Nat.le_refl _) _, hW.alloc hW.size _, _, rfl, by simp, by go_simp⟩
    | 4, ho, haf =>
      obtain rfl := Option.some.inj ho
      obtain ⟨M, hv, hM, hcM⟩ := haf ⟨3, .data⟩ (by simp) rfl
      have g3 := getq (show a.tmps.getD 75 undef = .slice (some ⟨M, 0, none⟩) 1 1 from hv)
      have HCE := hd (encode_is _ [lsn] w (one_isN hl hM hcM) (by simp))
      refine step_good _ (wanted_none rfl) ?_
      clear haf ho hsz2
      intro K hK
      simp only [List.getElem_toArray, List.getElem_cons_succ, List.getElem_cons_zero] at hK ⊢
      clear hv hM hcM
      go_simp
      refine Calls.mono HCE.out ?_
      rintro e w' ⟨rfl, hj, hb⟩
      exact hK _ _ ⟨hb, hW.trans (hb.mono hW.size), _, rfl, hj.isB⟩
    | 5, ho, haf =>
      obtain rfl := Option.some.inj ho
      have q := getq e9
      refine step_good _ (wanted_none rfl) ?_
      clear haf ho hsz2
      intro K hK
      simp only [List.getElem_toArray, List.getElem_cons_succ, List.getElem_cons_zero] at hK ⊢
      go_simp
      exact hK _ _ ⟨Below.refl _ _, hW, rfl⟩
    | 6, ho, haf =>
      obtain rfl := Option.some.inj ho
      have g5 := getq (show a.tmps.getD 77 undef = .pointer (some ⟨w1.heap.size + 1, 1, none⟩) from haf ⟨5, .data⟩ (by simp) rfl)
      have hc := ((HR.out.keep hW).cell 1 _ rfl : w.cell? ⟨w1.heap.size + 1, 1, none⟩ = some (.int .i64 (q : Int)))
      refine step_good _ (wanted_none rfl) ?_
      clear haf ho hsz2
      intro K hK
      simp only [List.getElem_toArray, List.getElem_cons_succ, List.getElem_cons_zero] at hK ⊢
      go_simp
      exact hK _ _ ⟨Below.refl _ _, hW, rfl⟩
    | 7, ho, haf =>
      obtain rfl := Option.some.inj ho
      have g6 := getq (show a.tmps.getD 78 undef = .int .i64 (q : Int) from haf ⟨6, .data⟩ (by simp) rfl)
      have hw8 : IntKind.u8.wrap (q : Int) = (q : Int) := by
        have hq3 : q = 0 ∨ q = 1 ∨ q = 2 := by omega
        rcases hq3 with rfl | rfl | rfl <;> rfl
      refine step_good _ (wanted_none rfl) ?_
      clear haf ho hsz2
      intro K hK
      simp only [List.getElem_toArray, List.getElem_cons_succ, List.getElem_cons_zero] at hK ⊢
      go_simp
      exact hK _ _ ⟨Below.refl _ _, hW, rfl⟩
    | 8, ho, haf =>
      obtain rfl := Option.some.inj ho
      have g7 := getq (show a.tmps.getD 79 undef = .int .u8 (q : Int) from haf ⟨7, .data⟩ (by simp) rfl)
      refine step_good _ (wanted_none rfl) ?_
      clear haf ho hsz2
      intro K hK
      simp only [List.getElem_toArray, List.getElem_cons_succ, List.getElem_cons_zero] at hK ⊢
      go_simp
      exact hK _ _ ⟨(Below.refl _ _).alloc (Nat.le_refl _) _, hW.alloc hW.size _, _, rfl, lit_isK .u8 256 w #[.int .u8 (q : Int)] 5 [q] 1 rfl rfl (by intro x hx; simp at hx; omega) (by simp [maxLen])⟩
    | 9, ho, haf =>
      obtain rfl := Option.some.inj ho
      refine step_good _ (wanted_none rfl) ?_
      intro K hK
      show K (a.put (some 81) (a.eval (.tmp 10))) w
      rw [show a.eval (.tmp 10) = .slice (some ⟨PN, 0, none⟩) (enc [at_, len]).length (enc [at_, len]).length from e10]
      exact hK _ _ ⟨Below.refl _ _, hW, rfl⟩
    | 10, ho, haf =>
      obtain rfl := Option.some.inj ho
      have q := getq e9
      refine step_good _ (wanted_none rfl) ?_
      clear haf ho hsz2
      intro K hK
      simp only [List.getElem_toArray, List.getElem_cons_succ, List.getElem_cons_zero] at hK ⊢
      go_simp
      exact hK _ _ ⟨Below.refl _ _, hW, rfl⟩
    | 11, ho, haf =>
      obtain rfl := Option.some.inj ho
      have g10 := getq (show a.tmps.getD 82 undef = .pointer (some ⟨w1.heap.size + 1, 4, none⟩) from haf ⟨10, .data⟩ (by simp) rfl)
      have hc := ((HR.out.keep hW).cell 4 _ rfl : w.cell? ⟨w1.heap.size + 1, 4, none⟩ = some (.string key))
      refine step_good _ (wanted_none rfl) ?_
      clear haf ho hsz2
      intro K hK
      simp only [List.getElem_toArray, List.getElem_cons_succ, List.getElem_cons_zero] at hK ⊢
      go_simp
      exact hK _ _ ⟨Below.refl _ _, hW, rfl⟩
    | 12, ho, haf =>
      obtain rfl := Option.some.inj ho
      have g11 := getq (show a.tmps.getD 83 undef = .string key from haf ⟨11, .data⟩ (by simp) rfl)
      obtain ⟨cc, wc, hcv, hic, hbc⟩ := conv_bytes w key (by unfold maxLen; omega)
      have HIC := hd hic
      have HBC := hd hbc
      clear hic hbc
      refine step_good _ (wanted_none rfl) ?_
      clear haf ho hsz2
      intro K hK
      simp only [List.getElem_toArray, List.getElem_cons_succ, List.getElem_cons_zero] at hK ⊢
      go_simp
      exact hK _ _ ⟨HBC.out, hW.trans (HBC.out.mono hW.size), _, _, rfl, HIC.out⟩
    | 13, ho, haf =>
      obtain rfl := Option.some.inj ho
      obtain ⟨ge, hve, hie⟩ := haf ⟨4, .data⟩ (by simp) rfl
      obtain ⟨gq, hvq, hiq⟩ := haf ⟨8, .data⟩ (by simp) rfl
      obtain ⟨gk, ck, hvk, hik⟩ := haf ⟨12, .data⟩ (by simp) rfl
      have g0 := getq (show a.tmps.getD 72 undef = .slice (some ⟨w1.heap.size, 0, none⟩) 1 1 from haf ⟨0, .data⟩ (by simp) rfl)
      have g9 := getq (show a.tmps.getD 81 undef = .slice (some ⟨PN, 0, none⟩) (enc [at_, len]).length (enc [at_, len]).length from haf ⟨9, .data⟩ (by simp) rfl)
      have g4 := getq (show a.tmps.getD 76 undef = .slice (some ⟨ge, 0, none⟩) (enc [lsn]).length (enc [lsn]).length from hve)
      have g8 := getq (show a.tmps.getD 80 undef = .slice (some ⟨gq, 0, none⟩) 1 1 from hvq)
      have g7 := getq (show a.tmps.getD 84 undef = .slice (some ⟨gk, 0, none⟩) key.size ck from hvk)
      rw [show slotOf _ a 4 = .slice (some ⟨ge, 0, none⟩) (enc [lsn]).length (enc [lsn]).length from hve] at hie
      rw [show slotOf _ a 8 = .slice (some ⟨gq, 0, none⟩) 1 1 from hvq] at hiq
      rw [show slotOf _ a 12 = .slice (some ⟨gk, 0, none⟩) key.size ck from hvk] at hik
      have HPS := hd (ps_lit w [.slice (some ⟨w1.heap.size, 0, none⟩) 1 1, .slice (some ⟨ge, 0, none⟩) (enc [lsn]).length (enc [lsn]).length, .slice (some ⟨gq, 0, none⟩) 1 1, .slice (some ⟨PN, 0, none⟩) (enc [at_, len]).length (enc [at_, len]).length, .slice (some ⟨gk, 0, none⟩) key.size ck] [[3], enc [lsn], [q], enc [at_, len], bl key] 36 rfl (by
        intro i v hv
        match i, hv with
        | 0, hv => cases hv; exact (HK.out.below hW)
        | 1, hv => cases hv; exact hie
        | 2, hv => cases hv; exact hiq
        | 3, hv => cases hv; exact (HPL.out.below hW)
        | 4, hv => cases hv; exact hik
        | i + 5, hv => simp at hv))
      refine step_good _ (wanted_none rfl) ?_
      clear haf ho hsz2
      intro K hK
      simp only [List.getElem_toArray, List.getElem_cons_succ, List.getElem_cons_zero] at hK ⊢
      clear hve hie hvk hik hvq hiq
      go_simp
      exact hK _ _ ⟨(Below.refl _ _).alloc (Nat.le_refl _) _, hW.alloc hW.size _, _, rfl, by simp, HPS.out⟩
    | 14, ho, haf =>
      obtain rfl := Option.some.inj ho
      obtain ⟨M, hv, hM, hP⟩ := haf ⟨13, .data⟩ (by simp) rfl
      have g8b := getq (show a.tmps.getD 85 undef = .slice (some ⟨M, 0, none⟩) 5 5 from hv)
      have HCC := hd (concat_row M 0 5 _ w hM (by simp) hP HBB.out.1 (Nat.le_trans HBB.out.2 (by omega)))
      have hss := HXB.out.size
      have hsw := hW.size
      refine step_good _ (wanted_none rfl) ?_
      clear haf ho hsz2
      intro K hK
      simp only [List.getElem_toArray, List.getElem_cons_succ, List.getElem_cons_zero] at hK ⊢
      clear hv hM hP
      go_simp
      refine Calls.mono HCC.out ?_
      rintro e w' ⟨u, rfl, hj, hb⟩
      exact hK _ _ ⟨hb, hW.trans (hb.mono hW.size), hj.base (by omega)⟩
    | 15, ho, haf =>
      obtain rfl := Option.some.inj ho
      have hj : JB w wA.heap.size (slotOf _ a 14) [[3], enc [lsn], [q], enc [at_, len], bl key].flatten := haf ⟨14, .data⟩ (by simp) rfl
      refine step_good _ (wanted_none rfl) ?_
      clear haf ho hsz2
      intro K hK
      show K (a.put (some 2) (a.eval (.tmp 86))) w
      exact hK _ _ ⟨Below.refl _ _, hW, hj⟩
    | 16, ho, haf =>
      obtain rfl := Option.some.inj ho
      refine step_good _ (wanted_none rfl) ?_
      clear haf ho hsz2
      intro K hK
      simp only [List.getElem_toArray, List.getElem_cons_succ, List.getElem_cons_zero] at hK ⊢
      go_simp
      exact hK _ _ ⟨Below.refl _ _, hW, rfl⟩
    | n + 17, ho, haf => simp at ho
  · intro a w hW hdf hsz hout hall
    have h2 : JB w wA.heap.size (a.tmps.getD 2 undef) [[3], enc [lsn], [q], enc [at_, len], bl key].flatten := hall 15 (by decide)
    have h3 : a.tmps.getD 3 undef = .int .i64 0 := hall 16 (by decide)
    have hdf2 : a.defers = [] := hdf
    have H2 := hd h2
    generalize hu : a.tmps.getD 2 undef = u at h2 H2
    have HU := hd hu
    clear hall hout hsz hdf h2 hu
    go_wp2
    refine bodyPost_ret (v := .tuple #[u, .int .i64 0]) ?_ hdf2 ⟨u, rfl, H2.out, HXB.out.trans (hW.mono HXB.out.size)⟩
    simp [results, Try.results6, go_sem, getq h3, getq HU.out]
set_option maxRecDepth 100000 in
set_option maxHeartbeats 1000000 in
theorem body_4 (ct by_ fr sm : Nat) (wA : World) (hl : sm < 4294967296) (h : rf (⟨4, zr, zp, ⟨(ct : Int), (by_ : Int), (fr : Int), sm⟩⟩ : Fr) = 0) :
    Calls Try.prog 6 #[.agg (fv (⟨4, zr, zp, ⟨(ct : Int), (by_ : Int), (fr : Int), sm⟩⟩ : Fr))] wA fun e w' => ∃ u, e = .returned (.tuple #[u, .int .i64 0]) ∧ JB w' wA.heap.size u (bd (⟨4, zr, zp, ⟨(ct : Int), (by_ : Int), (fr : Int), sm⟩⟩ : Fr)) ∧ Below wA.heap.size wA w' := by
  have HC := hd (refusal_is (⟨4, zr, zp, ⟨(ct : Int), (by_ : Int), (fr : Int), sm⟩⟩ : Fr))
  obtain ⟨hb1, hb2⟩ := bd_len (f := (⟨4, zr, zp, ⟨(ct : Int), (by_ : Int), (fr : Int), sm⟩⟩ : Fr)) ⟨by show 0 < 18446744073709551616; omega, by show 0 < 18446744073709551616; omega, hl⟩ h
  have hk : ct ≤ 4194304 ∧ by_ ≤ 4194304 ∧ fr ≤ 4194304 := by
    have h' := h
    unfold rf at h'
    rw [if_neg (by simp), if_neg (by simp), if_pos rfl] at h'
    obtain ⟨h1, h2, h3, _⟩ := rfE_ok h'
    have q1 := h1.2
    have q2 := h2.2
    have q3 := h3.2
    simp only at q1 q2 q3
    exact ⟨by omega, by omega, by omega⟩
  obtain ⟨hk1, hk2, hk3⟩ := hk
  have HBD : Hid (bd (⟨4, zr, zp, ⟨(ct : Int), (by_ : Int), (fr : Int), sm⟩⟩ : Fr) = [[4], enc [ct, by_, fr, sm]].flatten) := by
    show bd _ = _
    unfold bd bp
    rw [if_neg (by simp), if_neg (by simp), if_neg (by simp)]; rfl
  rw [HBD.out] at hb1 hb2 ⊢
  rw [h] at HC
  clear h HBD
  have HBB := hd (show 0 < [[4], enc [ct, by_, fr, sm]].flatten.length ∧ [[4], enc [ct, by_, fr, sm]].flatten.length ≤ 2200 from ⟨hb2, hb1⟩)
  clear hb1 hb2
  simp only [fv, zr, zp] at HC ⊢
  go_enter Try.func6, Try.ntmps6
  go_wp2_with fail
  refine Calls.mono (HC.out _) ?_
  rintro e w1 ⟨rfl, hb⟩
  have HX : Hid (Blk w1 wA.heap.size 34 [.int .i64 4, .int .u64 0, .int .i64 0, .string ByteArray.empty, .string ByteArray.empty, .int .u64 0, .int .i64 0, .int .i64 0, .int .i64 0, .string ByteArray.empty, .int .i64 (ct : Int), .int .i64 (by_ : Int), .int .i64 (fr : Int), .int .u32 (sm : Int)]) := (Blk.new wA _ _).keep hb
  have HB := hd (below_alloc1 hb)
  have hs1 := hb.size
  rw [World.size_alloc] at hs1
  clear hb HC
  have c0 := HX.out.cell 0 _ rfl
  have c1 := HX.out.cell 10 _ rfl
  have c2 := HX.out.cell 11 _ rfl
  have c3 := HX.out.cell 12 _ rfl
  have c4 := HX.out.cell 13 _ rfl
  clear HX
  have n1 : wA.heap.size < w1.heap.size := by omega
  have n2 : ¬ wA.heap.size = w1.heap.size := by omega
  have n3 : ¬ w1.heap.size = wA.heap.size := by omega
  have n4 : ¬ wA.heap.size = w1.heap.size + 1 := by omega
  have n5 : ¬ w1.heap.size + 1 = wA.heap.size := by omega
  have n6 : wA.heap.size < w1.heap.size + 1 := by omega
  go_wp2_with fail
  obtain ⟨X, hX⟩ : ∃ X, X = (w1.alloc (.cells #[.int .u8 4] 5)).alloc (.cells #[.int .i64 (ct : Int), .int .i64 (by_ : Int), .int .i64 (fr : Int), .int .u32 (sm : Int)] 32) := ⟨_, rfl⟩
  have HXS : Hid (X.heap.size = w1.heap.size + 1 + 1) := by show X.heap.size = _; rw [hX]; simp
  have HXB : Hid (Below wA.heap.size wA X) := by rw [hX]; exact (HB.out.alloc (by omega) _).alloc (by simp; omega) _
  have HK : Hid (IsB X (.slice (some ⟨w1.heap.size, 0, none⟩) 1 1) [4]) := by
    rw [hX]
    exact (lit_isK_at .u8 256 w1 #[.int .u8 4] 5 [4] 1 _ rfl rfl rfl (by simp) (by simp [maxLen])).below ((Below.refl _ _).alloc (Nat.le_refl _) _)
  have HR : Hid (Blk X (w1.heap.size + 1) 32 [.int .i64 (ct : Int), .int .i64 (by_ : Int), .int .i64 (fr : Int), .int .u32 (sm : Int)]) := by
    rw [hX]
    have := Blk.new (w1.alloc (.cells #[.int .u8 4] 5)) 32 [.int .i64 (ct : Int), .int .i64 (by_ : Int), .int .i64 (fr : Int), .int .u32 (sm : Int)]
    rw [World.size_alloc] at this
    exact this
  rw [← hX]
  have hlit := lit_isK_at .u64 18446744073709551616 X #[.int .u64 (ct : Int), .int .u64 (by_ : Int), .int .u64 (fr : Int), .int .u64 (sm : Int)] 23 [ct, by_, fr, sm] 4 (w1.heap.size + 1 + 1) HXS.out rfl rfl (by intro x hx; simp at hx; omega) (by simp [maxLen])
  refine Calls.mono (encode_is _ [ct, by_, fr, sm] _ hlit (by simp)) ?_
  rintro e Y ⟨rfl, hj, hb⟩
  have HYB : Hid (Below X.heap.size X Y) := below_alloc1 hb
  have HPL := hd hj.isB
  rw [World.size_alloc] at HPL ⊢
  clear c0 c1 c2 c3 c4 hX hlit hj hb
  have HK2 := hd (HK.out.below HYB.out)
  have HXB2 : Hid (Below wA.heap.size wA Y) := HXB.out.trans (HYB.out.mono HXB.out.size)
  clear HK HR HXB HYB
  have HP := hd (ps_lit Y [.slice (some ⟨w1.heap.size, 0, none⟩) 1 1, .slice (some ⟨X.heap.size + 1, 0, none⟩) (enc [ct, by_, fr, sm]).length (enc [ct, by_, fr, sm]).length] [[4], enc [ct, by_, fr, sm]] 36 rfl (by
    intro i v hv
    match i, hv with
    | 0, hv => cases hv; exact HK2.out
    | 1, hv => cases hv; exact HPL.out
    | i + 2, hv => simp at hv))
  have HCC := hd (concat_row Y.heap.size 0 2 _ _ (by simp) (by simp) HP.out HBB.out.1 (Nat.le_trans HBB.out.2 (by omega)))
  clear HP HPL HK2
  go_wp2_with fail
  refine Calls.mono HCC.out ?_
  rintro e w5 ⟨u, rfl, hj5, hb5⟩
  have HJ5 := hd (hj5.base (base' := wA.heap.size) (by have := HXB2.out.size; rw [World.size_alloc]; omega))
  have HB5 : Hid (Below wA.heap.size wA w5) := HXB2.out.trans ((below_alloc1 hb5).mono HXB2.out.size)
  clear hj5 hb5 HCC
  go_wp2_with fail
  go_ret2
  exact ⟨u, rfl, HJ5.out, HB5.out⟩
/-- of every frame that may be -/
theorem bodyOk {f : Fr} (hw : f.Wf) (h : rf f = 0) : BodyOk f := by
  have h' := h
  unfold rf at h'
  by_cases c12 : f.kind = 1 ∨ f.kind = 2
  · rw [if_pos c12] at h'
    obtain ⟨h1, h2, h3, h4, h5⟩ := rfR_ok h'
    obtain ⟨k, ⟨lsn, rk, key, val⟩, p, e⟩ := f
    simp only at h1 c12 h4
    subst h1
    rw [h5] at h ⊢
    rcases c12 with rfl | rfl
    · exact fun w => body_1 lsn key val w hw.1 h
    · rw [if_pos rfl] at h4
      have hv : val = ByteArray.empty := by
        refine bl_inj (List.length_eq_zero_iff.1 ?_)
        rw [bl_len]; omega
      subst hv
      exact fun w => body_2 lsn key w hw.1 h
  · rw [if_neg c12] at h'
    by_cases c3 : f.kind = 3
    · rw [if_pos c3] at h'
      obtain ⟨h1, h2, h3, h4, h5, h6, h7⟩ := rfP_ok h'
      obtain ⟨k, r, ⟨lsn, pk, at_, len, key⟩, e⟩ := f
      have h41 := h4.1
      have h51 := h5.1
      simp only at h1 h41 h51
      obtain ⟨a, rfl⟩ : ∃ a : Nat, at_ = (a : Int) := ⟨at_.toNat, by omega⟩
      obtain ⟨n, rfl⟩ : ∃ n : Nat, len = (n : Int) := ⟨len.toNat, by omega⟩
      obtain ⟨q, rfl⟩ : ∃ q : Nat, pk = (q : Int) := ⟨pk.toNat, by omega⟩
      rw [h7] at h ⊢
      exact fun w => body_3 lsn q a n key w hw.2.1 h
    · rw [if_neg c3] at h'
      by_cases c4 : f.kind = 4
      · rw [if_pos c4] at h'
        obtain ⟨h1, h2, h3, h4⟩ := rfE_ok h'
        obtain ⟨k, r, p, ⟨ct, by_, fr, sm⟩⟩ := f
        have h11 := h1.1
        have h21 := h2.1
        have h31 := h3.1
        simp only at h11 h21 h31
        obtain ⟨a, rfl⟩ : ∃ a : Nat, ct = (a : Int) := ⟨ct.toNat, by omega⟩
        obtain ⟨n, rfl⟩ : ∃ n : Nat, by_ = (n : Int) := ⟨by_.toNat, by omega⟩
        obtain ⟨q, rfl⟩ : ∃ q : Nat, fr = (q : Int) := ⟨fr.toNat, by omega⟩
        rw [h4] at h ⊢
        exact fun w => body_4 a n q sm w hw.2.2 h
      · rw [if_neg c4] at h'; omega
theorem encF_all {f : Fr} (hw : f.Wf) (h : rf f = 0) (w : World) : Calls Try.prog 7 #[.agg (fv f)] w fun e w' => ∃ u, e = .returned (.tuple #[u, .int .i64 0]) ∧ JB w' w.heap.size u (en f) ∧ Below w.heap.size w w' := encF_ok f w hw h (bodyOk hw h)
end Vt
end Go.Proofs.Ytnjhbidialngmaa
