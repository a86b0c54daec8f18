/-
  salvorlaw10: record, sum.
-/
import Derived.Test.YtifjjoobbegpoaaMhbo
import Derived.Test.YtifjjoobbegpoaaMhbq
import Derived.Test.YtifjjoobbegpoaaMhbv
import Derived.Test.YtifjjoobbegpoaaMhbw
import Derived.Test.YtifjjoobbegpoaaMhbn
namespace Go.Proofs.Ytifjjoobbegpoaa
open Go.RowKit Go.Shelf
namespace Vt
attribute [local go_sem] Oper.semAt_some
/-- the law's record -/
def R7 : Rec := ⟨7, 1, ⟨#[107]⟩, ⟨#[118]⟩⟩
def F7 : Fr := ofR R7
theorem F7_wf : F7.Wf := ⟨by decide, by decide, by decide⟩
theorem F7_rf : rf F7 = 0 := by
  unfold rf rfR F7 ofR R7 mayKey
  simp
  decide
theorem bd_F7 : bd F7 = [1, 7, 1, 107, 118] := by
  unfold bd bp F7 ofR R7 vs
  rw [if_pos rfl]
  simp only [List.map_cons, List.map_nil]
  rw [vrt_small (by decide), show ByteArray.size ⟨#[107]⟩ = 1 from rfl, vrt_small (by decide)]
  decide
theorem wr_F7 : wr (bd F7) = [1, 7, 1, 107, 118] := by rw [bd_F7]; decide
theorem F7_len : (en F7).length = 14 := by rw [en_len, wr_F7]; rfl
theorem F7_byt : Byt (en F7) := en_bytH F7_rf
theorem F7_locs : locs 0 (en F7) = [(0, 14, F7)] := by
  have := locs_en F7_wf F7_rf (r := []) (by rw [List.append_nil]; exact F7_byt) 0
  rw [List.append_nil, F7_len] at this
  rw [this, locs_nil]
theorem F7_may : May (en F7) := by
  refine ⟨by rw [F7_len]; decide, ?_, ?_⟩
  · unfold Cl; rw [F7_locs, F7_len]; rfl
  · rw [F7_locs]; intro x hx; rw [List.mem_singleton] at hx; subst hx; rfl
/-- its pointer -/
def P7 : Ptr := ⟨7, 1, 0, 14, ⟨#[107]⟩⟩
theorem F7_pto : (locs 0 (en F7)).map pto = [P7] := by rw [F7_locs]; rfl
theorem hof_len {l : List Nat} (hb : Byt l) (h : May l) : (hof l).length ≤ 5000 * (locs 0 l).length + 5000 := by
  have h1 := hbs_len (L := locs 0 l) (fun x hx => hfr_ok hb h.1 hx (h.2.2 x hx))
  have h2 := ffr_ok hb h.1
  have h3 := en_small h2.2 h2.1
  unfold hof
  rw [List.length_append]
  omega
theorem hof_byt {l : List Nat} (hb : Byt l) (h : May l) : Byt (hof l) := by
  rw [hof_file]
  exact (file_ok (fun p hp => by obtain ⟨x, hx, rfl⟩ := List.mem_map.1 hp; exact hfr_ok hb h.1 hx (h.2.2 x hx)) (ffr_ok hb h.1)).2
theorem hof_locs {l : List Nat} (hb : Byt l) (h : May l) : locs 0 (hof l) = lay 0 (((locs 0 l).map pto).map hfr ++ [ffr (edg l)]) := by
  obtain ⟨h1, h2⟩ := file_ok (ps := (locs 0 l).map pto) (e := edg l) (fun p hp => by obtain ⟨x, hx, rfl⟩ := List.mem_map.1 hp; exact hfr_ok hb h.1 hx (h.2.2 x hx)) (ffr_ok hb h.1)
  rw [hof_file]
  exact locs_lay h1 h2 0
/-- of a hint file the one ending -/
theorem hof_foot {l : List Nat} (hb : Byt l) (h : May l) : ∃ n m, recs [4] (hof l) = [(n, m, ffr (edg l))] := by
  unfold recs
  rw [hof_locs hb h, lay_app, List.filter_append]
  have e1 : ∀ (ps : List Ptr) (a : Nat), (lay a (ps.map hfr)).filter (isw [4]) = [] := by
    intro ps
    induction ps with
    | nil => intro a; rfl
    | cons p r ih =>
      intro a
      rw [List.map_cons, lay, List.filter_cons_of_neg (by simp [isw, hfr]), ih]
  rw [e1, List.nil_append]
  exact ⟨_, _, rfl⟩
set_option maxRecDepth 100000 in
set_option maxHeartbeats 1000000 in
theorem record_is (w : World) : Calls Try.prog 36 #[] w fun e w' => ∃ u, e = .returned u ∧ JB w' w.heap.size u (en F7) ∧ Below w.heap.size w w' := by
  have HO := hd (of_is R7)
  have HE := hd (encF_all F7_wf F7_rf)
  obtain ⟨ls, hls⟩ : ∃ ls, ls = en F7 := ⟨_, rfl⟩
  rw [← hls] at HE ⊢
  clear hls
  simp only [F7, R7, rv, fv, ofR, zp, ze] at HO HE
  go_enter Try.func36, Try.ntmps36
  go_wp2_with fail
  refine Calls.mono (HO.out _) ?_
  rintro e w1 ⟨rfl, hw1⟩
  have HB1 : Hid (Below w.heap.size w w1) := by rw [hw1]; exact below_two _ _ _
  clear HO hw1
  go_wp2_with fail
  refine Calls.mono (HE.out _) ?_
  rintro e w2 ⟨u, rfl, hj, hb⟩
  have HJ := hd hj
  have HB2 := hd (HB1.out.trans (hb.mono HB1.out.size))
  have hsz := HB1.out.size
  clear HE hj hb HB1
  go_wp2_with fail
  go_ret
  exact ⟨u, rfl, HJ.out.base hsz, HB2.out⟩
set_option maxRecDepth 100000 in
set_option maxHeartbeats 1000000 in
theorem hsum_is (v : Value) (l : List Nat) (x : Lc) (w : World) (hI : IsB w v l) (hl : l.length ≤ 16777216) (hr : recs [4] l = [x]) : Calls Try.prog 38 #[v] w fun e w' => e = .returned (.int .u32 (x.2.2.e.sum : Int)) ∧ Below w.heap.size w w' := by
  obtain ⟨a, c, rfl⟩ := hI.shape
  have HR : Hid (∀ o, Calls Try.prog 7 #[.slice a l.length c, .slice (some ⟨w.heap.size, 0, none⟩) 1 1] (w.alloc (.cells #[.int .i64 4] o)) fun e w' => ∃ v', e = .returned v' ∧ JL w' w.heap.size v' [lcv x] ∧ Below w.heap.size w w') := fun o => by
    have := records_row (.slice a l.length c) l w.heap.size 0 1 [4] (w.alloc (.cells #[.int .i64 4] o)) (hI.below ((Below.refl _ _).alloc (Nat.le_refl _) _)) hl (by simp) (by simp) (by intro i hi; simp at hi; subst hi; simp [go_sem]) (by simp)
    rw [hr] at this
    refine this.mono ?_
    rintro e w' ⟨v', h1, h2, h3⟩
    exact ⟨v', h1, h2.lower (by simp), below_alloc1 h3⟩
  clear hI hr
  go_enter Try.func38, Try.ntmps38
  go_wp2_with fail
  refine Calls.mono (HR.out _) ?_
  rintro e w1 ⟨v1, rfl, hj, hb⟩
  clear HR
  obtain ⟨g, cc, rfl, hc1, hc2⟩ := hj.nn (by simp)
  have c13 : w1.cell? ⟨g, 13, none⟩ = some (.int .u32 (x.2.2.e.sum : Int)) := by
    have := hj.at 0 (lcv x) 13 (.int .u32 (x.2.2.e.sum : Int)) rfl rfl
    simpa using this
  have HB := hd hb
  clear hj hb
  simp only [List.length_singleton] at hc1 hc2 ⊢
  go_wp2_with fail
  go_ret
  exact ⟨rfl, HB.out⟩
theorem F7_chk : chk (en F7) P7 = true := by
  have h0 : decF (en F7) 0 = (F7, 14, 0) := by
    unfold decF
    rw [if_neg (by rw [F7_len]; omega), show (0 : Int).toNat = 0 from rfl, List.drop_zero]
    have := dcd_en F7_wf F7_rf []
    rw [List.append_nil, F7_len] at this
    exact this
  unfold chk
  rw [show P7.at_ = 0 from rfl, h0]
  simp
  exact ⟨rfl, rfl⟩
set_option maxRecDepth 100000 in
set_option maxHeartbeats 2000000 in
theorem hknown_is (w : World) : Calls Try.prog 25 #[] w fun e w' => e = .returned (.bool true) ∧ Below w.heap.size w w' := by
  have hmx : Try.prog.follows .mixedOrders = true := by kernel_rfl
  have HL := hd F7_len
  have HH := hd (hof_len F7_byt F7_may)
  have HHB := hd (hof_byt F7_byt F7_may)
  have HLD := hd (ldS_hof F7_byt F7_may)
  obtain ⟨fn, fm, hff⟩ := hof_foot F7_byt F7_may
  have HFF := hd hff
  have HES := hd (show (edg (en F7)).bytes = 14 ∧ (edg (en F7)).frames = 1 by unfold edg; rw [F7_locs, F7_len]; exact ⟨rfl, rfl⟩)
  have HCK := hd F7_chk
  have HPT := hd F7_pto
  clear hff
  go_enter Try.func25, Try.ntmps25
  go_wp2_with fail
  refine Calls.mono (record_is w) ?_
  rintro e w1 ⟨us, rfl, hj1, hb1⟩
  have HJ1 := hd hj1
  have HB1 := hd hb1
  obtain ⟨a1, c1, rfl, hcs⟩ := hj1.shape
  rw [HL.out] at HJ1 ⊢
  clear hj1 hb1 hcs
  go_wp2_with fail
  refine Calls.mono (hof_is _ (en F7) w1 HJ1.out.isB) ?_
  rintro e w2 ⟨⟨_, uh, rfl, hj2⟩ | ⟨hn, _⟩, hb2⟩
  · have HJ2 := hd hj2
    have HB2 := hd hb2
    obtain ⟨ah, ch, rfl, hch⟩ := hj2.shape
    clear hj2 hb2 hch
    have hn1 : (locs 0 (en F7)).length = 1 := by rw [F7_locs]; rfl
    have hh16 : (hof (en F7)).length ≤ 10000 := by have := HH.out; rw [hn1] at this; omega
    generalize hof (en F7) = hl at *
    go_wp2_with fail
    refine Calls.mono (hsum_is _ hl _ w2 HJ2.out.isB (by omega) HFF.out) ?_
    rintro e w3 ⟨rfl, hb3⟩
    have HB3 := hd hb3
    have HLO := hd (load_is (.slice ah hl.length ch) hl 14 1 (edg (en F7)).sum w3 (HJ2.out.keepAll hb3).isB)
    rw [HLD.out] at HLO
    clear hb3 HFF
    simp only [ffr] at HLO ⊢
    simp only [prl] at HLO
    generalize hsm : (edg (en F7)).sum = sm at *
    go_wp2_with fail
    refine Calls.mono HLO.out ?_
    clear HLO
    rintro e w4 ⟨hld, hb4⟩
    obtain ⟨ul, rfl, hj4⟩ : ∃ u, e = .returned (.tuple #[u, .int .i64 1]) ∧ JPt w4 w3.heap.size u [pvl P7] := by
      rcases hld with ⟨hn, _⟩ | ⟨_, u, rfl, hj⟩
      · exact absurd ⟨HES.out.1, HES.out.2, hsm⟩ hn
      · rw [HPT.out] at hj
        exact ⟨u, rfl, hj⟩
    clear hld
    obtain ⟨gl, cl, rfl, hc1, hc2⟩ := hj4.nn (by simp)
    simp only [List.length_singleton] at hc1 hc2 ⊢
    have HJ4 := hd hj4
    have HB4 := hd hb4
    have HJ14 : Hid (JB w4 w.heap.size (.slice a1 14 c1) (en F7)) := ((HJ1.out.keepAll HB2.out).keepAll HB3.out).keepAll hb4
    have d0 : w4.cell? ⟨gl, 0, none⟩ = some (.int .u64 7) := by have := hj4.at 0 (pvl P7) 0 (.int .u64 7) rfl rfl; simpa using this
    have d1 : w4.cell? ⟨gl, 1, none⟩ = some (.int .i64 1) := by have := hj4.at 0 (pvl P7) 1 (.int .i64 1) rfl rfl; simpa using this
    have d2 : w4.cell? ⟨gl, 2, none⟩ = some (.int .i64 0) := by have := hj4.at 0 (pvl P7) 2 (.int .i64 0) rfl rfl; simpa using this
    have d3 : w4.cell? ⟨gl, 3, none⟩ = some (.int .i64 14) := by have := hj4.at 0 (pvl P7) 3 (.int .i64 14) rfl rfl; simpa using this
    have d4 : w4.cell? ⟨gl, 4, none⟩ = some (.string ⟨#[107]⟩) := by have := hj4.at 0 (pvl P7) 4 (.string ⟨#[107]⟩) rfl rfl; simpa using this
    have hgl := hj4.blk_lt gl rfl
    clear hj4 hb4
    go_wp2_with fail
    have HCI := hd (check_is (.slice a1 14 c1) (en F7) P7 (w4.alloc (.cells #[.int .u64 7, .int .i64 1, .int .i64 0, .int .i64 14, .string ⟨#[107]⟩] 34)) (HJ14.out.keepAll ((Below.refl _ _).alloc (Nat.le_refl _) _)).isB)
    rw [HCK.out] at HCI
    refine Calls.mono HCI.out ?_
    clear HCI
    rintro e w5 ⟨rfl, hb5⟩
    have HP5 := hd ((Blk.new w4 34 _).keep hb5)
    have hb45 := below_alloc1 hb5
    have e0 := HP5.out.cell 0 _ rfl
    have e1 := HP5.out.cell 1 _ rfl
    have e2 := HP5.out.cell 2 _ rfl
    have e3 := HP5.out.cell 3 _ rfl
    have e4 := HP5.out.cell 4 _ rfl
    have f0 := (hb45.cell (p := ⟨gl, 0, none⟩) hgl).trans d0
    have f1 := (hb45.cell (p := ⟨gl, 1, none⟩) hgl).trans d1
    have f2 := (hb45.cell (p := ⟨gl, 2, none⟩) hgl).trans d2
    have f3 := (hb45.cell (p := ⟨gl, 3, none⟩) hgl).trans d3
    have f4 := (hb45.cell (p := ⟨gl, 4, none⟩) hgl).trans d4
    have heq := eql_ptr P7 P7
    simp only [pv, P7, decide_true] at heq
    have HB5 := hd hb45
    clear hb5 hb45 d0 d1 d2 d3 d4
    go_wp2_with fail
    --REGION known
    have hgl5 : gl < w5.heap.size := Nat.lt_of_lt_of_le hgl HB5.out.size
    have h45 : w4.heap.size < w5.heap.size := HP5.out.lt
    refine region_skip (fun i9 v9 _ => match i9 with
      | 0 => v9 = Value.slice a1 14 c1
      | 1 => v9 = .int .i64 14
      | 2 => v9 = .bool true
      | 3 => v9 = .bool true
      | 4 => v9 = Value.int IntKind.i64 0
      | 5 => v9 = .bool true
      | 6 => v9 = .bool true
      | 7 => v9 = .bool true
      | 8 => v9 = Value.int IntKind.i64 1
      | 9 => v9 = .bool true
      | 10 => v9 = .bool true
      | 11 => v9 = .bool true
      | 12 => v9 = Value.slice (some { block := gl, off := 0 }) 1 cl
      | 13 => v9 = .int .i64 1
      | 14 => v9 = .bool true
      | 15 => v9 = .bool true
      | 16 => v9 = .bool true
      | 17 => v9 = Value.slice (some { block := gl, off := 0 }) 1 cl
      | 18 => v9 = .pointer (some ⟨gl, 0, none⟩)
      | 19 => v9 = .agg #[.int .u64 7, .int .i64 1, .int .i64 0, .int .i64 14, .string ⟨#[107]⟩]
      | 20 => v9 = .agg #[.int .u64 7, .int .i64 1, .int .i64 0, .int .i64 14, .string ⟨#[107]⟩]
      | 21 => v9 = .bool true
      | 22 => v9 = .bool true
      | 23 => v9 = .bool true
      | 24 => v9 = Value.bool true
      | 25 => v9 = .bool true
      | _ => v9 = .bool true) (fun w => Below w5.heap.size w5 w) hmx (by kernel_rfl) (by kernel_rfl) ((Below.refl _ _).drew) ?_ ?_ ?_
    · intro i9 v9 w8 w9 _ _ hb hG
      match i9, hG with
      | 0, h => exact h
      | 1, h => exact h
      | 2, h => exact h
      | 3, h => exact h
      | 4, h => exact h
      | 5, h => exact h
      | 6, h => exact h
      | 7, h => exact h
      | 8, h => exact h
      | 9, h => exact h
      | 10, h => exact h
      | 11, h => exact h
      | 12, h => exact h
      | 13, h => exact h
      | 14, h => exact h
      | 15, h => exact h
      | 16, h => exact h
      | 17, h => exact h
      | 18, h => exact h
      | 19, h => exact h
      | 20, h => exact h
      | 21, h => exact h
      | 22, h => exact h
      | 23, h => exact h
      | 24, h => exact h
      | 25, h => exact h
      | n + 26, h => exact h
    · intro i9 o9 ho a9 w9 hW hdf hsz hout haf
      have ee1 := getq (show a9.tmps.getD 1 undef = Value.slice a1 14 c1 from hout 1 (notDst_spec (by kernel_rfl)))
      have ee3 := getq (show a9.tmps.getD 3 undef = Value.int IntKind.i64 0 from hout 3 (notDst_spec (by kernel_rfl)))
      have ee4 := getq (show a9.tmps.getD 4 undef = Value.slice (some { block := gl, off := 0 }) 1 cl from hout 4 (notDst_spec (by kernel_rfl)))
      have ee5 := getq (show a9.tmps.getD 5 undef = Value.int IntKind.i64 1 from hout 5 (notDst_spec (by kernel_rfl)))
      have ee6 := getq (show a9.tmps.getD 6 undef = Value.pointer (some { block := w4.heap.size, off := 0 }) from hout 6 (notDst_spec (by kernel_rfl)))
      have ee7 := getq (show a9.tmps.getD 7 undef = Value.bool true from hout 7 (notDst_spec (by kernel_rfl)))
      have hsz2 : a9.tmps.size = 52 := hsz
      clear hout hsz hdf
      match i9, ho, haf with
      | 0, ho, haf =>
        obtain rfl := Option.some.inj ho
        refine skip_good _ (wanted_none rfl) ?_
        clear haf ho hsz2
        intro K hK
        simp only [List.getElem_toArray, List.getElem_cons_zero] at hK ⊢
        go_simp
        exact hK _ _ ⟨Below.refl _ _, hW, rfl⟩
      | 1, ho, haf =>
        obtain rfl := Option.some.inj ho
        have f0 := getq (show a9.tmps.getD 26 undef = Value.slice a1 14 c1 from haf ⟨0, .data⟩ (by simp) rfl)
        refine skip_good _ (wanted_none rfl) ?_
        clear haf ho hsz2
        intro K hK
        simp only [List.getElem_toArray, List.getElem_cons_succ, List.getElem_cons_zero] at hK ⊢
        go_simp
        exact hK _ _ ⟨Below.refl _ _, hW, rfl⟩
      | 2, ho, haf =>
        obtain rfl := Option.some.inj ho
        have f1 := getq (show a9.tmps.getD 27 undef = .int .i64 14 from haf ⟨1, .data⟩ (by simp) rfl)
        refine skip_good _ (wanted_none rfl) ?_
        clear haf ho hsz2
        intro K hK
        simp only [List.getElem_toArray, List.getElem_cons_succ, List.getElem_cons_zero] at hK ⊢
        go_simp
        exact hK _ _ ⟨Below.refl _ _, hW, rfl⟩
      | 3, ho, haf =>
        obtain rfl := Option.some.inj ho
        have f2 := getq (show a9.tmps.getD 28 undef = .bool true from haf ⟨2, .data⟩ (by simp) rfl)
        refine skip_good _ (wanted_none rfl) ?_
        clear haf ho hsz2
        intro K hK
        simp only [List.getElem_toArray, List.getElem_cons_succ, List.getElem_cons_zero] at hK ⊢
        go_simp
        exact hK _ _ ⟨Below.refl _ _, hW, rfl⟩
      | 4, ho, haf =>
        obtain rfl := Option.some.inj ho
        have gg : a9.tmps.getD 29 undef = .bool true := haf ⟨3, .guard⟩ (by simp) rfl
        refine skip_good _ (wanted_some rfl (yielded_of (d := 29) rfl (by omega) gg)) ?_
        clear haf ho hsz2 gg
        intro K hK
        simp only [List.getElem_toArray, List.getElem_cons_succ, List.getElem_cons_zero] at hK ⊢
        go_simp
        exact hK _ _ ⟨Below.refl _ _, hW, rfl⟩
      | 5, ho, haf =>
        obtain rfl := Option.some.inj ho
        have gg : a9.tmps.getD 29 undef = .bool true := haf ⟨3, .guard⟩ (by simp) rfl
        have f4 := getq (show a9.tmps.getD 30 undef = Value.int IntKind.i64 0 from haf ⟨4, .data⟩ (by simp) rfl)
        refine skip_good _ (wanted_some rfl (yielded_of (d := 29) rfl (by omega) gg)) ?_
        clear haf ho hsz2 gg
        intro K hK
        simp only [List.getElem_toArray, List.getElem_cons_succ, List.getElem_cons_zero] at hK ⊢
        go_simp
        exact hK _ _ ⟨Below.refl _ _, hW, rfl⟩
      | 6, ho, haf =>
        obtain rfl := Option.some.inj ho
        have f3 := getq (show a9.tmps.getD 29 undef = .bool true from haf ⟨3, .data⟩ (by simp) rfl)
        have f5 := getq (show a9.tmps.getD 31 undef = .bool true from haf ⟨5, .data⟩ (by simp) rfl)
        refine skip_good _ (wanted_none rfl) ?_
        clear haf ho hsz2
        intro K hK
        simp only [List.getElem_toArray, List.getElem_cons_succ, List.getElem_cons_zero] at hK ⊢
        go_simp
        exact hK _ _ ⟨Below.refl _ _, hW, rfl⟩
      | 7, ho, haf =>
        obtain rfl := Option.some.inj ho
        have f6 := getq (show a9.tmps.getD 32 undef = .bool true from haf ⟨6, .data⟩ (by simp) rfl)
        refine skip_good _ (wanted_none rfl) ?_
        clear haf ho hsz2
        intro K hK
        simp only [List.getElem_toArray, List.getElem_cons_succ, List.getElem_cons_zero] at hK ⊢
        go_simp
        exact hK _ _ ⟨Below.refl _ _, hW, rfl⟩
      | 8, ho, haf =>
        obtain rfl := Option.some.inj ho
        have gg : a9.tmps.getD 33 undef = .bool true := haf ⟨7, .guard⟩ (by simp) rfl
        refine skip_good _ (wanted_some rfl (yielded_of (d := 33) rfl (by omega) gg)) ?_
        clear haf ho hsz2 gg
        intro K hK
        simp only [List.getElem_toArray, List.getElem_cons_succ, List.getElem_cons_zero] at hK ⊢
        go_simp
        exact hK _ _ ⟨Below.refl _ _, hW, rfl⟩
      | 9, ho, haf =>
        obtain rfl := Option.some.inj ho
        have gg : a9.tmps.getD 33 undef = .bool true := haf ⟨7, .guard⟩ (by simp) rfl
        have f8 := getq (show a9.tmps.getD 34 undef = Value.int IntKind.i64 1 from haf ⟨8, .data⟩ (by simp) rfl)
        refine skip_good _ (wanted_some rfl (yielded_of (d := 33) rfl (by omega) gg)) ?_
        clear haf ho hsz2 gg
        intro K hK
        simp only [List.getElem_toArray, List.getElem_cons_succ, List.getElem_cons_zero] at hK ⊢
        go_simp
        exact hK _ _ ⟨Below.refl _ _, hW, rfl⟩
      | 10, ho, haf =>
        obtain rfl := Option.some.inj ho
        have f7 := getq (show a9.tmps.getD 33 undef = .bool true from haf ⟨7, .data⟩ (by simp) rfl)
        have f9 := getq (show a9.tmps.getD 35 undef = .bool true from haf ⟨9, .data⟩ (by simp) rfl)
        refine skip_good _ (wanted_none rfl) ?_
        clear haf ho hsz2
        intro K hK
        simp only [List.getElem_toArray, List.getElem_cons_succ, List.getElem_cons_zero] at hK ⊢
        go_simp
        exact hK _ _ ⟨Below.refl _ _, hW, rfl⟩
      | 11, ho, haf =>
        obtain rfl := Option.some.inj ho
        have f10 := getq (show a9.tmps.getD 36 undef = .bool true from haf ⟨10, .data⟩ (by simp) rfl)
        refine skip_good _ (wanted_none rfl) ?_
        clear haf ho hsz2
        intro K hK
        simp only [List.getElem_toArray, List.getElem_cons_succ, List.getElem_cons_zero] at hK ⊢
        go_simp
        exact hK _ _ ⟨Below.refl _ _, hW, rfl⟩
      | 12, ho, haf =>
        obtain rfl := Option.some.inj ho
        have gg : a9.tmps.getD 37 undef = .bool true := haf ⟨11, .guard⟩ (by simp) rfl
        refine skip_good _ (wanted_some rfl (yielded_of (d := 37) rfl (by omega) gg)) ?_
        clear haf ho hsz2 gg
        intro K hK
        simp only [List.getElem_toArray, List.getElem_cons_succ, List.getElem_cons_zero] at hK ⊢
        go_simp
        exact hK _ _ ⟨Below.refl _ _, hW, rfl⟩
      | 13, ho, haf =>
        obtain rfl := Option.some.inj ho
        have gg : a9.tmps.getD 37 undef = .bool true := haf ⟨11, .guard⟩ (by simp) rfl
        have f12 := getq (show a9.tmps.getD 38 undef = Value.slice (some { block := gl, off := 0 }) 1 cl from haf ⟨12, .data⟩ (by simp) rfl)
        refine skip_good _ (wanted_some rfl (yielded_of (d := 37) rfl (by omega) gg)) ?_
        clear haf ho hsz2 gg
        intro K hK
        simp only [List.getElem_toArray, List.getElem_cons_succ, List.getElem_cons_zero] at hK ⊢
        go_simp
        exact hK _ _ ⟨Below.refl _ _, hW, rfl⟩
      | 14, ho, haf =>
        obtain rfl := Option.some.inj ho
        have gg : a9.tmps.getD 37 undef = .bool true := haf ⟨11, .guard⟩ (by simp) rfl
        have f13 := getq (show a9.tmps.getD 39 undef = .int .i64 1 from haf ⟨13, .data⟩ (by simp) rfl)
        refine skip_good _ (wanted_some rfl (yielded_of (d := 37) rfl (by omega) gg)) ?_
        clear haf ho hsz2 gg
        intro K hK
        simp only [List.getElem_toArray, List.getElem_cons_succ, List.getElem_cons_zero] at hK ⊢
        go_simp
        exact hK _ _ ⟨Below.refl _ _, hW, rfl⟩
      | 15, ho, haf =>
        obtain rfl := Option.some.inj ho
        have f11 := getq (show a9.tmps.getD 37 undef = .bool true from haf ⟨11, .data⟩ (by simp) rfl)
        have f14 := getq (show a9.tmps.getD 40 undef = .bool true from haf ⟨14, .data⟩ (by simp) rfl)
        refine skip_good _ (wanted_none rfl) ?_
        clear haf ho hsz2
        intro K hK
        simp only [List.getElem_toArray, List.getElem_cons_succ, List.getElem_cons_zero] at hK ⊢
        go_simp
        exact hK _ _ ⟨Below.refl _ _, hW, rfl⟩
      | 16, ho, haf =>
        obtain rfl := Option.some.inj ho
        have f15 := getq (show a9.tmps.getD 41 undef = .bool true from haf ⟨15, .data⟩ (by simp) rfl)
        refine skip_good _ (wanted_none rfl) ?_
        clear haf ho hsz2
        intro K hK
        simp only [List.getElem_toArray, List.getElem_cons_succ, List.getElem_cons_zero] at hK ⊢
        go_simp
        exact hK _ _ ⟨Below.refl _ _, hW, rfl⟩
      | 17, ho, haf =>
        obtain rfl := Option.some.inj ho
        have gg : a9.tmps.getD 42 undef = .bool true := haf ⟨16, .guard⟩ (by simp) rfl
        refine skip_good _ (wanted_some rfl (yielded_of (d := 42) rfl (by omega) gg)) ?_
        clear haf ho hsz2 gg
        intro K hK
        simp only [List.getElem_toArray, List.getElem_cons_succ, List.getElem_cons_zero] at hK ⊢
        go_simp
        exact hK _ _ ⟨Below.refl _ _, hW, rfl⟩
      | 18, ho, haf =>
        obtain rfl := Option.some.inj ho
        have gg : a9.tmps.getD 42 undef = .bool true := haf ⟨16, .guard⟩ (by simp) rfl
        have f17 := getq (show a9.tmps.getD 43 undef = Value.slice (some { block := gl, off := 0 }) 1 cl from haf ⟨17, .data⟩ (by simp) rfl)
        refine skip_good _ (wanted_some rfl (yielded_of (d := 42) rfl (by omega) gg)) ?_
        clear haf ho hsz2 gg
        intro K hK
        simp only [List.getElem_toArray, List.getElem_cons_succ, List.getElem_cons_zero] at hK ⊢
        go_simp
        exact hK _ _ ⟨Below.refl _ _, hW, rfl⟩
      | 19, ho, haf =>
        obtain rfl := Option.some.inj ho
        have gg : a9.tmps.getD 42 undef = .bool true := haf ⟨16, .guard⟩ (by simp) rfl
        have f18 := getq (show a9.tmps.getD 44 undef = .pointer (some ⟨gl, 0, none⟩) from haf ⟨18, .data⟩ (by simp) rfl)
        refine skip_good _ (wanted_some rfl (yielded_of (d := 42) rfl (by omega) gg)) ?_
        clear haf ho hsz2 gg
        intro K hK
        simp only [List.getElem_toArray, List.getElem_cons_succ, List.getElem_cons_zero] at hK ⊢
        have t0 := (hW.cell (p := ⟨gl, 0, none⟩) hgl5).trans f0
        have t1 := (hW.cell (p := ⟨gl, 1, none⟩) hgl5).trans f1
        have t2 := (hW.cell (p := ⟨gl, 2, none⟩) hgl5).trans f2
        have t3 := (hW.cell (p := ⟨gl, 3, none⟩) hgl5).trans f3
        have t4 := (hW.cell (p := ⟨gl, 4, none⟩) hgl5).trans f4
        go_simp
        exact hK _ _ ⟨Below.refl _ _, hW, rfl⟩
      | 20, ho, haf =>
        obtain rfl := Option.some.inj ho
        have gg : a9.tmps.getD 42 undef = .bool true := haf ⟨16, .guard⟩ (by simp) rfl
        refine skip_good _ (wanted_some rfl (yielded_of (d := 42) rfl (by omega) gg)) ?_
        clear haf ho hsz2 gg
        intro K hK
        simp only [List.getElem_toArray, List.getElem_cons_succ, List.getElem_cons_zero] at hK ⊢
        have t0 := (hW.cell (p := ⟨w4.heap.size, 0, none⟩) h45).trans e0
        have t1 := (hW.cell (p := ⟨w4.heap.size, 1, none⟩) h45).trans e1
        have t2 := (hW.cell (p := ⟨w4.heap.size, 2, none⟩) h45).trans e2
        have t3 := (hW.cell (p := ⟨w4.heap.size, 3, none⟩) h45).trans e3
        have t4 := (hW.cell (p := ⟨w4.heap.size, 4, none⟩) h45).trans e4
        go_simp
        exact hK _ _ ⟨Below.refl _ _, hW, rfl⟩
      | 21, ho, haf =>
        obtain rfl := Option.some.inj ho
        have gg : a9.tmps.getD 42 undef = .bool true := haf ⟨16, .guard⟩ (by simp) rfl
        have f19 := getq (show a9.tmps.getD 45 undef = .agg #[.int .u64 7, .int .i64 1, .int .i64 0, .int .i64 14, .string ⟨#[107]⟩] from haf ⟨19, .data⟩ (by simp) rfl)
        have f20 := getq (show a9.tmps.getD 46 undef = .agg #[.int .u64 7, .int .i64 1, .int .i64 0, .int .i64 14, .string ⟨#[107]⟩] from haf ⟨20, .data⟩ (by simp) rfl)
        refine skip_good _ (wanted_some rfl (yielded_of (d := 42) rfl (by omega) gg)) ?_
        clear haf ho hsz2 gg
        intro K hK
        simp only [List.getElem_toArray, List.getElem_cons_succ, List.getElem_cons_zero] at hK ⊢
        go_simp
        exact hK _ _ ⟨Below.refl _ _, hW, rfl⟩
      | 22, ho, haf =>
        obtain rfl := Option.some.inj ho
        have f16 := getq (show a9.tmps.getD 42 undef = .bool true from haf ⟨16, .data⟩ (by simp) rfl)
        have f21 := getq (show a9.tmps.getD 47 undef = .bool true from haf ⟨21, .data⟩ (by simp) rfl)
        refine skip_good _ (wanted_none rfl) ?_
        clear haf ho hsz2
        intro K hK
        simp only [List.getElem_toArray, List.getElem_cons_succ, List.getElem_cons_zero] at hK ⊢
        go_simp
        exact hK _ _ ⟨Below.refl _ _, hW, rfl⟩
      | 23, ho, haf =>
        obtain rfl := Option.some.inj ho
        have f22 := getq (show a9.tmps.getD 48 undef = .bool true from haf ⟨22, .data⟩ (by simp) rfl)
        refine skip_good _ (wanted_none rfl) ?_
        clear haf ho hsz2
        intro K hK
        simp only [List.getElem_toArray, List.getElem_cons_succ, List.getElem_cons_zero] at hK ⊢
        go_simp
        exact hK _ _ ⟨Below.refl _ _, hW, rfl⟩
      | 24, ho, haf =>
        obtain rfl := Option.some.inj ho
        have gg : a9.tmps.getD 49 undef = .bool true := haf ⟨23, .guard⟩ (by simp) rfl
        refine skip_good _ (wanted_some rfl (yielded_of (d := 49) rfl (by omega) gg)) ?_
        clear haf ho hsz2 gg
        intro K hK
        simp only [List.getElem_toArray, List.getElem_cons_succ, List.getElem_cons_zero] at hK ⊢
        go_simp
        exact hK _ _ ⟨Below.refl _ _, hW, rfl⟩
      | 25, ho, haf =>
        obtain rfl := Option.some.inj ho
        have f23 := getq (show a9.tmps.getD 49 undef = .bool true from haf ⟨23, .data⟩ (by simp) rfl)
        have f24 := getq (show a9.tmps.getD 50 undef = Value.bool true from haf ⟨24, .data⟩ (by simp) rfl)
        refine skip_good _ (wanted_none rfl) ?_
        clear haf ho hsz2
        intro K hK
        simp only [List.getElem_toArray, List.getElem_cons_succ, List.getElem_cons_zero] at hK ⊢
        go_simp
        exact hK _ _ ⟨Below.refl _ _, hW, rfl⟩
      | 26, ho, haf =>
        obtain rfl := Option.some.inj ho
        have f25 := getq (show a9.tmps.getD 51 undef = .bool true from haf ⟨25, .data⟩ (by simp) rfl)
        refine skip_good _ (wanted_none rfl) ?_
        clear haf ho hsz2
        intro K hK
        simp only [List.getElem_toArray, List.getElem_cons_succ, List.getElem_cons_zero] at hK ⊢
        go_simp
        exact hK _ _ ⟨Below.refl _ _, hW, rfl⟩
      | n + 27, ho, haf => simp at ho
    · intro aa w9 hW hdf hsz hout hall
      have hat : aa.tmps = #[.bool true, Value.slice a1 14 c1, Value.slice ah hl.length ch, Value.int IntKind.i64 0, Value.slice (some { block := gl, off := 0 }) 1 cl, Value.int IntKind.i64 1, Value.pointer (some { block := w4.heap.size, off := 0 }), Value.bool true, Value.slice a1 14 c1, Value.tuple #[Value.slice ah hl.length ch, Value.int IntKind.i64 0], Value.slice a1 14 c1, Value.tuple #[Value.slice ah hl.length ch, Value.int IntKind.i64 0], Value.slice ah hl.length ch, Value.int IntKind.i64 0, Value.tuple #[Value.slice (some { block := gl, off := 0 }) 1 cl, Value.int IntKind.i64 1], Value.slice ah hl.length ch, Value.slice ah hl.length ch, Value.int IntKind.u32 (sm : Int), Value.agg #[Value.int IntKind.i64 14, Value.int IntKind.i64 1, Value.int IntKind.u32 (sm : Int)], Value.tuple #[Value.slice (some { block := gl, off := 0 }) 1 cl, Value.int IntKind.i64 1], Value.slice (some { block := gl, off := 0 }) 1 cl, Value.int IntKind.i64 1, Value.agg #[Value.int IntKind.u64 7, Value.int IntKind.i64 1, Value.int IntKind.i64 0, Value.int IntKind.i64 14, Value.string { data := #[107] }], Value.slice a1 14 c1, Value.agg #[Value.int IntKind.u64 7, Value.int IntKind.i64 1, Value.int IntKind.i64 0, Value.int IntKind.i64 14, Value.string { data := #[107] }], Value.bool true, Value.slice a1 14 c1, .int .i64 14, .bool true, .bool true, Value.int IntKind.i64 0, .bool true, .bool true, .bool true, Value.int IntKind.i64 1, .bool true, .bool true, .bool true, Value.slice (some { block := gl, off := 0 }) 1 cl, .int .i64 1, .bool true, .bool true, .bool true, Value.slice (some { block := gl, off := 0 }) 1 cl, .pointer (some ⟨gl, 0, none⟩), .agg #[.int .u64 7, .int .i64 1, .int .i64 0, .int .i64 14, .string ⟨#[107]⟩], .agg #[.int .u64 7, .int .i64 1, .int .i64 0, .int .i64 14, .string ⟨#[107]⟩], .bool true, .bool true, .bool true, Value.bool true, .bool true] := by
        refine arr_one (hsz.trans rfl) fun kk hkk => ?_
        match kk, hkk with
        | 0, _ => exact hall 26 (by decide)
        | 1, _ => exact hout 1 (notDst_spec (by kernel_rfl))
        | 2, _ => exact hout 2 (notDst_spec (by kernel_rfl))
        | 3, _ => exact hout 3 (notDst_spec (by kernel_rfl))
        | 4, _ => exact hout 4 (notDst_spec (by kernel_rfl))
        | 5, _ => exact hout 5 (notDst_spec (by kernel_rfl))
        | 6, _ => exact hout 6 (notDst_spec (by kernel_rfl))
        | 7, _ => exact hout 7 (notDst_spec (by kernel_rfl))
        | 8, _ => exact hout 8 (notDst_spec (by kernel_rfl))
        | 9, _ => exact hout 9 (notDst_spec (by kernel_rfl))
        | 10, _ => exact hout 10 (notDst_spec (by kernel_rfl))
        | 11, _ => exact hout 11 (notDst_spec (by kernel_rfl))
        | 12, _ => exact hout 12 (notDst_spec (by kernel_rfl))
        | 13, _ => exact hout 13 (notDst_spec (by kernel_rfl))
        | 14, _ => exact hout 14 (notDst_spec (by kernel_rfl))
        | 15, _ => exact hout 15 (notDst_spec (by kernel_rfl))
        | 16, _ => exact hout 16 (notDst_spec (by kernel_rfl))
        | 17, _ => exact hout 17 (notDst_spec (by kernel_rfl))
        | 18, _ => exact hout 18 (notDst_spec (by kernel_rfl))
        | 19, _ => exact hout 19 (notDst_spec (by kernel_rfl))
        | 20, _ => exact hout 20 (notDst_spec (by kernel_rfl))
        | 21, _ => exact hout 21 (notDst_spec (by kernel_rfl))
        | 22, _ => exact hout 22 (notDst_spec (by kernel_rfl))
        | 23, _ => exact hout 23 (notDst_spec (by kernel_rfl))
        | 24, _ => exact hout 24 (notDst_spec (by kernel_rfl))
        | 25, _ => exact hout 25 (notDst_spec (by kernel_rfl))
        | 26, _ => exact hall 0 (by decide)
        | 27, _ => exact hall 1 (by decide)
        | 28, _ => exact hall 2 (by decide)
        | 29, _ => exact hall 3 (by decide)
        | 30, _ => exact hall 4 (by decide)
        | 31, _ => exact hall 5 (by decide)
        | 32, _ => exact hall 6 (by decide)
        | 33, _ => exact hall 7 (by decide)
        | 34, _ => exact hall 8 (by decide)
        | 35, _ => exact hall 9 (by decide)
        | 36, _ => exact hall 10 (by decide)
        | 37, _ => exact hall 11 (by decide)
        | 38, _ => exact hall 12 (by decide)
        | 39, _ => exact hall 13 (by decide)
        | 40, _ => exact hall 14 (by decide)
        | 41, _ => exact hall 15 (by decide)
        | 42, _ => exact hall 16 (by decide)
        | 43, _ => exact hall 17 (by decide)
        | 44, _ => exact hall 18 (by decide)
        | 45, _ => exact hall 19 (by decide)
        | 46, _ => exact hall 20 (by decide)
        | 47, _ => exact hall 21 (by decide)
        | 48, _ => exact hall 22 (by decide)
        | 49, _ => exact hall 23 (by decide)
        | 50, _ => exact hall 24 (by decide)
        | 51, _ => exact hall 25 (by decide)
        | n + 52, h => exact absurd h (by simp)
      obtain ⟨tt, dd⟩ := aa
      simp only at hat hdf
      subst hat hdf
      clear hsz hout hall
      have b12 := HB1.out.trans (HB2.out.mono HB1.out.size)
      have b13 := b12.trans (HB3.out.mono b12.size)
      have b14 := b13.trans (HB4.out.mono b13.size)
      have b15 := b14.trans (HB5.out.mono b14.size)
      have HF := hd (b15.trans (hW.mono b15.size))
      clear b12 b13 b14 b15 hW
      go_wp2_with fail
      go_ret
      exact ⟨rfl, HF.out⟩
    --END known
  · exact absurd F7_may hn
end Vt
end Go.Proofs.Ytifjjoobbegpoaa
