/-
  HintBack's walk.
-/
import Derived.Test.YtfnbfgkoicdiaaaMbb
namespace Go.Proofs.Ytfnbfgkoicdiaaa
open Go.RowKit Go.Shelf
namespace Vt
attribute [local go_sem] Oper.semAt_some
theorem eql_prt_yes (n k : Int) (s : Nat) (w : World) : (binOp .eql 36 (.agg (prl n k s)) (.agg (prl n k s))).run Try.prog w = .ok (.bool true) w := by
  rw [run_eql_struct, eq_prt]; rfl
theorem eql_prt_no {n k n' k' : Int} {s s' : Nat} (h : ¬ (n = n' ∧ k = k' ∧ s = s')) (w : World) : (binOp .eql 36 (.agg (prl n k s)) (.agg (prl n' k' s'))).run Try.prog w = .ok (.bool false) w := by
  rw [run_eql_struct, ne_prt h]; rfl
set_option maxRecDepth 100000 in
set_option maxHeartbeats 2000000 in
theorem back_walk (va : Option Addr) (vc : Nat) (rs : List Rec) (on ok : Int) (os : Nat) (w : World) (hR : IsRd w (.slice va rs.length vc) rs) (hm : rs.length ≤ maxLen) :
    Calls Try.prog 5 #[.slice va rs.length vc, .agg (prl on ok os)] w fun e w' => e = .returned (.bool true) ∧ Below w.heap.size w w' := by
  have HR := hd hR
  have hm' := hm
  unfold maxLen at hm'
  have HM := hd hm
  clear hR hm
  have HRL := hd HR.out.1
  have hmx : Try.prog.follows .mixedOrders = true := by kernel_rfl
  simp only [prl]
  go_enter Try.func5, Try.ntmps5
  go_wp2_with fail
  refine Calls.mono (hknown_is _) ?_
  rintro e w1 ⟨rfl, hb1'⟩
  have HO1 := hd ((Blk.new w 36 _).keep hb1')
  have hb1 := below_alloc1 hb1'
  clear hb1'
  have HB1 := hd hb1
  have HR1 := hd (HR.out.below hb1)
  clear hb1 HR
  go_wp2_with fail
  refine Calls.mono (clean_is10 va vc rs w1 HR1.out HM.out) ?_
  rintro e w2 ⟨u2, rfl, bs, hj2, hl2, hbs, hb2⟩
  have HO2 := hd (HO1.out.keep hb2)
  have HB2 := hd (HB1.out.trans (hb2.mono HB1.out.size))
  have HR2 := hd (HR1.out.below hb2)
  have HJ2 := hd hj2
  obtain ⟨a2, c2, hs2, _⟩ := hj2.shape
  subst hs2
  clear hb2 hj2 HR1 HB1 HO1
  by_cases hbig : 4194304 < bs.length
  · have hbig2 : (bs.length : Int) > 4194304 := by omega
    go_wp2_with fail
    go_ret
    exact ⟨rfl, HB2.out⟩
  · have hbig2 : ¬ (bs.length : Int) > 4194304 := by omega
    have hbs' : bs = sgb rs := by rcases hbs with h | h; exact h; omega
    have HBS := hd hbs'
    have hmay := sgb_may HRL.out (by rw [← hbs']; omega)
    rw [← hbs'] at hmay
    have HMAY := hd hmay
    clear hbs hbs' hmay
    go_wp2_with fail
    refine Calls.mono (hof_is _ bs w2 HJ2.out.isB) ?_
    rintro e w3 ⟨⟨_, u3, rfl, hj3⟩ | ⟨hno, _⟩, hb3⟩
    · have HO3 := hd (HO2.out.keep hb3)
      have HB3 := hd (HB2.out.trans (hb3.mono HB2.out.size))
      have HR3 := hd (HR2.out.below hb3)
      have HJ3 := hd (HJ2.out.keepAll hb3)
      have HH3 := hd hj3
      have hhl := hof_len HJ2.out.isB.1 HMAY.out
      obtain ⟨a3, c3, hs3, _⟩ := hj3.shape
      subst hs3
      clear hb3 hj3 HR2 HB2 HJ2 HO2
      go_wp2_with fail
      refine Calls.mono (print_is _ bs w3 HJ3.out.isB) ?_
      rintro e w4 ⟨rfl, hb4⟩
      have HO4 := hd (HO3.out.keep hb4)
      have HB4 := hd (HB3.out.trans (hb4.mono HB3.out.size))
      have HR4 := hd (HR3.out.below hb4)
      have HJ4 := hd (HJ3.out.keepAll hb4)
      have HH4 := hd (HH3.out.keepAll hb4)
      clear hb4 HR3 HB3 HJ3 HH3 HO3
      simp only [prv]
      have hlds := ldS_hof HJ4.out.isB.1 HMAY.out
      obtain ⟨ps, hps⟩ : ∃ ps, ps = (locs 0 bs).map pto := ⟨_, rfl⟩
      have hpl : (locs 0 bs).length = ps.length := by rw [hps, List.length_map]
      have HPS := hd hps
      unfold edg at hlds
      rw [← hps, hpl] at hlds
      rw [hpl] at hhl
      have hp4 : ps.length ≤ 4194304 := by
        have := locs_len HJ4.out.isB.1 _ (Nat.le_refl _) 0
        rw [hpl] at this
        omega
      have HLO : Hid (∀ w5, IsB w5 (.slice a3 (hof bs).length c3) (hof bs) → ∀ (x y : Int) (z : Nat), Calls Try.prog 9 #[.slice a3 (hof bs).length c3, .agg #[.int .i64 x, .int .i64 y, .int .u32 (z : Int)]] w5 fun e w' => ldP (some ⟨ps, ⟨(ps.length : Int), (bs.length : Int), (ps.length : Int), Crc.go 0 bs⟩, true, (bs.length : Int)⟩) x y z w5.heap.size e w' ∧ Below w5.heap.size w5 w') := fun w5 h5 x y z => by
        have := load_is _ (hof bs) x y z w5 h5
        rw [hlds] at this
        exact this
      rw [hpl]
      generalize Crc.go 0 bs = cg at *
      obtain ⟨hl, hhl'⟩ : ∃ hl, hl = hof bs := ⟨_, rfl⟩
      rw [← hhl'] at HH4 HLO hhl ⊢
      clear hpl hps hlds hhl'
      go_wp2_with fail
      refine Calls.mono (HLO.out _ (HH4.out.isB.below ((Below.refl _ w4).alloc (Nat.le_refl _) _)) _ _ _) ?_
      rintro e w5 ⟨hld, hb5'⟩
      have HPB := hd ((Blk.new w4 36 _).keep hb5')
      have hb5 := below_alloc1 hb5'
      unfold ldP at hld
      simp only at hld
      rcases hld with ⟨hno, _⟩ | ⟨_, u5, rfl, hj5⟩
      · exact absurd ⟨trivial, trivial, trivial⟩ hno
      · have HO5 := hd (HO4.out.keep hb5)
        have HB5 := hd (HB4.out.trans (hb5.mono HB4.out.size))
        have HR5 := hd (HR4.out.below hb5)
        have HJ5 := hd (HJ4.out.keepAll hb5)
        have HH5 := hd (HH4.out.keepAll hb5)
        have HP5 := hd hj5
        obtain ⟨a5, c5, hs5, hc5⟩ := hj5.shape
        subst hs5
        rw [List.length_map] at HP5 hc5 ⊢
        clear hb5 hb5' HO4 HR4 HB4 HJ4 HH4 hj5
        have p0 := HPB.out.cell 0 _ rfl
        have p1 := HPB.out.cell 1 _ rfl
        have p2 := HPB.out.cell 2 _ rfl
        have hsum : (sgb rs).length ≤ 4194304 := by rw [← HBS.out]; omega
        have hcnt : (okr rs).length = ps.length := by rw [HPS.out, List.length_map, HBS.out, sgb_count HRL.out]
        have HCN := hd hcnt
        have HSL := hd hsum
        clear hcnt hsum
        go_wp2_with fail
        go_loopw [12, 13, 14] (fun t n i wr => ∃ k : Nat, k ≤ rs.length ∧ i = .int .i64 (k : Int) ∧ n = .int .i64 ((okr (rs.take k)).length : Int) ∧ t = .int .i64 ((sgb (rs.take k)).length : Int) ∧ Below w5.heap.size w5 wr) (fun _ _ i _ => rs.length - (intOf i).toNat)
        case atStart => exact ⟨0, by omega, rfl, rfl, rfl, Below.refl _ _⟩
        case round =>
          obtain ⟨k, hk, rfl, rfl, rfl, hbr⟩ := hrel
          have HBR := hd hbr
          have hsr := hbr.size
          have HBF := hd (HB5.out.trans (hbr.mono HB5.out.size))
          clear hbr
          by_cases hlt : k < rs.length
          · obtain ⟨hlsn, ⟨he, _⟩ | ⟨b, off, c, he, hbl, hcell⟩⟩ := HR5.out
            · subst he; simp at hlt
            · injection he with e1 e2 e3
              subst e1 e3
              obtain ⟨r, hr⟩ : ∃ r, rs[k]? = some r := ⟨_, List.getElem?_eq_getElem hlt⟩
              have hrl : r.lsn < 18446744073709551616 := hlsn r (List.mem_of_getElem? hr)
              have hc := hcell k hlt
              rw [getD_of hr] at hc
              have HBC := HBR.out
              have r0 : wr.cell? ⟨b, off + k * 4, none⟩ = some (.int .u64 (r.lsn : Int)) := (HBC.cell (p := ⟨b, off + k * 4, none⟩) hbl).trans (hc 0 _ rfl)
              have r1 : wr.cell? ⟨b, off + k * 4 + 1, none⟩ = some (.int .i64 r.kind) := (HBC.cell (p := ⟨b, off + k * 4 + 1, none⟩) hbl).trans (hc 1 _ rfl)
              have r2 : wr.cell? ⟨b, off + k * 4 + 2, none⟩ = some (.string r.key) := (HBC.cell (p := ⟨b, off + k * 4 + 2, none⟩) hbl).trans (hc 2 _ rfl)
              have r3 : wr.cell? ⟨b, off + k * 4 + 3, none⟩ = some (.string r.val) := (HBC.cell (p := ⟨b, off + k * 4 + 3, none⟩) hbl).trans (hc 3 _ rfl)
              clear hcell hc hlsn e2 HBC
              have HOF := hd (of_is r)
              by_cases hrf : rf (ofR r) = 0
              · have HE := hd (encF_all (ofR_wf hrl) hrf)
                have hes := en_small (ofR_wf hrl) hrf
                have hat := sgb_at HRL.out hr hrf
                rw [← HBS.out] at hat
                have hpk : ps[(okr (rs.take k)).length]? = some ⟨r.lsn, r.kind, ((sgb (rs.take k)).length : Int), ((en (ofR r)).length : Int), r.key⟩ := by
                  rw [HPS.out, List.getElem?_map, hat]; rfl
                have hnk : (okr (rs.take k)).length < ps.length := by
                  have := (List.getElem?_eq_some_iff.1 hpk).1; exact this
                have hckk : chk bs ⟨r.lsn, r.kind, ((sgb (rs.take k)).length : Int), ((en (ofR r)).length : Int), r.key⟩ = true := by
                  have hx := List.mem_of_getElem? hat
                  exact chk_pto HJ5.out.isB.1 hx (HMAY.out.2.2 _ hx)
                have hN1 : (okr (rs.take (k + 1))).length = (okr (rs.take k)).length + 1 := by rw [okr_yes hr hrf]; simp
                have hN2 : (sgb (rs.take (k + 1))).length = (sgb (rs.take k)).length + (en (ofR r)).length := by rw [sgb_yes hr hrf]; simp
                have hble : (sgb (rs.take (k + 1))).length ≤ 4194304 := by
                  have h1 := HSL.out
                  have h2 : sgb rs = sgb (rs.take (k + 1)) ++ sgb (rs.drop (k + 1)) := by rw [← sgb_app, List.take_append_drop]
                  rw [h2, List.length_append] at h1
                  omega
                rw [hN2] at hble
                have HN1 := hd hN1
                have HN2 := hd hN2
                have HPK := hd hpk
                have HCK : Hid (∀ wx, IsB wx (.slice a2 bs.length c2) bs → Calls Try.prog 17 #[.slice a2 bs.length c2, .agg (pv ⟨r.lsn, r.kind, ((sgb (rs.take k)).length : Int), ((en (ofR r)).length : Int), r.key⟩)] wx fun e w' => e = .returned (.bool true) ∧ Below wx.heap.size wx w') := fun wx hx => hckk ▸ check_is _ bs _ wx hx
                clear hat hpk hckk hN1 hN2
                generalize (okr (rs.take k)).length = n at *
                obtain ⟨at_, hat_⟩ : ∃ at_, at_ = (sgb (rs.take k)).length := ⟨_, rfl⟩
                rw [← hat_] at HN2 HPK HCK hble ⊢
                obtain ⟨el, hel⟩ : ∃ el, el = en (ofR r) := ⟨_, rfl⟩
                rw [← hel] at HE hes HN2 HPK HCK hble
                have HR_ := hd hr
                obtain ⟨rl, rk, rkey, rval⟩ := r
                simp only [rv, fv, ofR, zp, ze] at HOF HE r0 r1 r2 r3 HPK HCK
                clear hrf hel hr hat_
                go_wp2_with fail
                refine Calls.mono (HOF.out _) ?_
                rintro e w6 ⟨rfl, hw6⟩
                have hb6' : Below (wr.heap.size + 1) (wr.alloc (.cells #[.int .u64 (rl : Int), .int .i64 rk, .string rkey, .string rval] 34)) w6 := by
                  rw [hw6]
                  exact (((Below.refl _ _).alloc (by simp) _).alloc (by simp) _)
                have HRB := hd ((Blk.new wr 34 _).keep (by simpa using hb6'))
                have hb6 : Below wr.heap.size wr w6 := ((Below.refl _ wr).alloc (Nat.le_refl _) _).trans (hb6'.mono (by simp))
                have hs6 := hb6.size
                clear hw6 hb6' HOF
                go_wp2_with fail
                refine Calls.mono (HE.out _) ?_
                rintro e w7 ⟨u7, rfl, hj7, hb7⟩
                have HRB7 := hd (HRB.out.keep hb7)
                have hb07 := hb6.trans (hb7.mono hb6.size)
                have HB7 := hd (HBR.out.trans (hb07.mono hsr))
                have HBF7 := hd (HBF.out.trans (hb07.mono HBF.out.size))
                have hs7 := hb7.size
                obtain ⟨a7, c7, hs7', hc7⟩ := hj7.shape
                subst hs7'
                clear hb7 hj7 hb07 hb6 HE HRB
                have q0 := HRB7.out.cell 0 _ rfl
                have q1 := HRB7.out.cell 1 _ rfl
                have q2 := HRB7.out.cell 2 _ rfl
                have q3 := HRB7.out.cell 3 _ rfl
                have hjr := HP5.out.keepAll HB7.out
                obtain ⟨g, cu', he, hcu1, hcu2⟩ := hjr.nn (by intro e; rw [List.map_eq_nil_iff] at e; subst e; simp at hnk)
                rw [List.length_map] at he
                injection he with he1 he2 he3
                subst he1 he3
                have hrow : (ps.map pvl)[n]? = some (pvl ⟨rl, rk, (at_ : Int), (el.length : Int), rkey⟩) := by rw [List.getElem?_map, HPK.out]; rfl
                rw [← List.length_map (f := pvl)] at hjr
                have d0 := hjr.at n _ 0 _ hrow rfl
                have d1 := hjr.at n _ 1 _ hrow rfl
                have d2 := hjr.at n _ 2 _ hrow rfl
                have d3 := hjr.at n _ 3 _ hrow rfl
                have d4 := hjr.at n _ 4 _ hrow rfl
                rw [Nat.add_zero] at d0
                have heq := neq_ptr_no ⟨rl, rk, (at_ : Int), (el.length : Int), rkey⟩
                have hng : ¬ (n : Int) ≥ (ps.length : Int) := by omega
                simp only [pv] at heq HCK
                clear hjr hrow he2
                go_wp2_with fail
                go_quiet (fail)
                go_wp2_with fail
                have hbq : Below w7.heap.size w7 (w7.drewN nq) := ⟨rfl, rfl, rfl, Nat.le_refl _, fun _ _ => rfl⟩
                refine Calls.mono (HCK.out _ ((HJ5.out.keepAll (HB7.out.trans (hbq.mono HB7.out.size))).isB)) ?_
                rintro e w8 ⟨rfl, hb8⟩
                have HB8 := hd (HB7.out.trans ((hbq.trans hb8).mono HB7.out.size))
                clear hbq hb8 HCK heq
                go_wp2_with fail
                go_roundw
                case rel => exact ⟨k + 1, by omega, by go_num, by rw [HN1.out]; go_num, by rw [HN2.out]; go_num, HB8.out⟩
                case measure => simp [intOf]; omega
              · have HE := hd (fun w => encF_no (ofR r) w hrf)
                have hne : ((rf (ofR r) : Int) == 0) = false := by simp; omega
                have HN1 := hd (show (okr (rs.take (k + 1))).length = (okr (rs.take k)).length by rw [okr_no hr hrf])
                have HN2 := hd (show (sgb (rs.take (k + 1))).length = (sgb (rs.take k)).length by rw [sgb_no hr hrf])
                generalize (okr (rs.take k)).length = n at *
                generalize (sgb (rs.take k)).length = at_ at *
                generalize rf (ofR r) = er at *
                obtain ⟨rl, rk, rkey, rval⟩ := r
                simp only [rv, fv, ofR, zp, ze] at HOF HE r0 r1 r2 r3
                clear hrf hr
                go_wp2_with fail
                refine Calls.mono (HOF.out _) ?_
                rintro e w6 ⟨rfl, hw6⟩
                have hb6 : Below wr.heap.size wr w6 := hw6 ▸ ((((Below.refl _ wr).alloc (Nat.le_refl _) _).alloc (by simp) _).alloc (by simp; omega) _)
                clear hw6 HOF
                go_wp2_with fail
                refine Calls.mono (HE.out _) ?_
                rintro e w7 ⟨rfl, hb7⟩
                have hb07 := hb6.trans (hb7.mono hb6.size)
                have HB7 := hd (HBR.out.trans (hb07.mono hsr))
                clear hb7 hb07 hb6 HE
                go_wp2_with fail
                go_roundw
                case rel => exact ⟨k + 1, by omega, by go_num, by rw [HN1.out], by rw [HN2.out], HB7.out⟩
                case measure => simp [intOf]; omega
          · have hkk : k = rs.length := by omega
            have hnn : (okr (rs.take k)).length = ps.length := by rw [hkk, List.take_length]; exact HCN.out
            rw [hnn]
            clear hkk hnn
            generalize (sgb (rs.take k)).length = at_ at *
            have HO := HO5.out.keep HBR.out
            have o0 := HO.cell 0 _ rfl
            have o1 := HO.cell 1 _ rfl
            have o2 := HO.cell 2 _ rfl
            clear HO
            go_wp2_with fail
            refine Calls.mono (HLO.out _ (HH5.out.keepAll HBR.out).isB on ok os) ?_
            rintro e w6 ⟨hld, hb6⟩
            have HBG := hd (HBF.out.trans (hb6.mono HBF.out.size))
            have hb56 := HBR.out.trans (hb6.mono HBR.out.size)
            have HO6 := HO5.out.keep hb56
            have HP6 := HPB.out.keep hb56
            have x0 := HO6.cell 0 _ rfl
            have x1 := HO6.cell 1 _ rfl
            have x2 := HO6.cell 2 _ rfl
            have y0 := HP6.cell 0 _ rfl
            have y1 := HP6.cell 1 _ rfl
            have y2 := HP6.cell 2 _ rfl
            unfold ldP at hld
            simp only at hld
            clear hb6 hb56 HO6 HP6
            rcases hld with ⟨hno, rfl⟩ | ⟨⟨hy1, hy2, hy3⟩, u6, rfl, hj6⟩
            · have heq := eql_prt_no (n := on) (k := ok) (s := os) (fun h => hno ⟨h.1.symm, h.2.1.symm, h.2.2.symm⟩)
              simp only [prl] at heq
              clear hno
              go_wp2_with fail
              go_ret
              exact ⟨rfl, HBG.out⟩
            · subst hy1 hy2 hy3
              have heq := eql_prt_yes (bs.length : Int) (ps.length : Int) cg
              simp only [prl] at heq
              obtain ⟨a6, c6, hs6, _⟩ := hj6.shape
              subst hs6
              rw [List.length_map]
              clear hj6
              go_wp2_with fail
              go_ret
              exact ⟨rfl, HBG.out⟩
    · exact absurd HMAY.out hno
end Vt
end Go.Proofs.Ytfnbfgkoicdiaaa
