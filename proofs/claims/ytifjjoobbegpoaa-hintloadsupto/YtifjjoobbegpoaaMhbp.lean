/-
  salvorref10.Load says what hint.Load says.
-/
import Derived.Test.YtifjjoobbegpoaaMhbk
import Derived.Test.YtifjjoobbegpoaaMhbl
import Derived.Test.YtifjjoobbegpoaaMhbo
namespace Go.Proofs.Ytifjjoobbegpoaa
open Go.ChangeShapes Go.WideShapes Go.ChangeAt Go.RowKit Go.Shelf
namespace Vt
set_option maxRecDepth 100000 in
set_option maxHeartbeats 4000000 in
theorem r10_load (v : Value) (l : List Nat) (bp fp : Int) (sp : Nat) (w : World) (hI : IsB w v l) (hl : l.length ≤ 16777216) :
    Calls Try.prog 28 #[v, .agg (prl bp fp sp)] w fun e w' => ldP (ldS l) bp fp sp w.heap.size e w' ∧ Below w.heap.size w w' := by
  obtain ⟨a, c, rfl⟩ := hI.shape
  have HI := hd hI
  have hll := locs_len hI.1 _ (Nat.le_refl _) 0
  clear hI
  simp only [prl]
  go_enter Try.func28, Try.ntmps28
  go_wp2_with fail
  refine Calls.mono (r10_run _ l _ (HI.out.below ((Below.refl _ _).alloc (Nat.le_refl _) _)) hl) ?_
  rintro e w1 ⟨hr, b1⟩
  have hsz := b1.size
  rw [World.size_alloc] at hsz
  have HPW := hd ((Blk.new w 37 [.int .i64 bp, .int .i64 fp, .int .u32 (sp : Int)]).keep b1)
  have HB1 := hd (below_alloc1 b1)
  have n1 : ¬ w.heap.size = w1.heap.size := by omega
  have n2 : ¬ w1.heap.size = w.heap.size := by omega
  have n3 : w.heap.size < w1.heap.size := by omega
  clear b1
  rcases hr with ⟨hcl, u, rfl, j1⟩ | ⟨hcl, rfl⟩
  case inr =>
    have HLD := hd (ldS_dirt hcl)
    clear hcl
    go_wp2_with fail
    go_ret2
    rw [HLD.out]
    exact ⟨rfl, HB1.out⟩
  obtain ⟨L, hL⟩ : ∃ L, L = locs 0 l := ⟨_, rfl⟩
  rw [← hL] at j1 hll
  obtain ⟨a1, c1, rfl, hc1⟩ := j1.shape
  rw [List.length_map] at hc1 j1 ⊢
  have HL := hd hL
  have HCL := hd hcl
  rw [World.size_alloc] at j1
  have J1 := hd j1
  clear j1 hL hcl
  by_cases h0 : L.length = 0
  · have HLD := hd (show ldS l = none from ldS_empty (by rw [← HL.out]; exact List.eq_nil_of_length_eq_zero h0))
    go_wp2_with fail
    go_ret2
    rw [HLD.out]
    exact ⟨rfl, HB1.out⟩
  have h0i : ((L.length : Int) == 0) = false := by rw [beq_eq_false_iff_ne]; omega
  go_wp2_with fail
  go_loopw [8, 9, 10] (fun o n i wr => ∃ (k n_ : Nat) (ps : List Ptr), k + 1 ≤ L.length ∧ i = .int .i64 (k : Int) ∧ n = .int .i64 (n_ : Int) ∧ n_ ≤ 1000000000 ∧ ps.length = k ∧ sts (some st0) (L.take k) = some (onw ps n_) ∧ JPt wr w1.heap.size o (ps.map pvl) ∧ Below w1.heap.size w1 wr) (fun _ _ i _ => L.length - (intOf i).toNat)
  case atStart => exact ⟨0, 0, [], by omega, rfl, rfl, by omega, rfl, rfl, jr_nil _ _, Below.refl _ _⟩
  case round =>
    obtain ⟨k, n, ps, hk, rfl, rfl, hn, hpl, hst, jo, hbr⟩ := hrel
    obtain ⟨oa, oc, rfl, hoc⟩ := jo.shape
    rw [List.length_map, hpl] at hoc jo ⊢
    have HST := hd hst
    have HPL := hd hpl
    have JO := hd jo
    have HBR := hd hbr
    have hsr := hbr.size
    have Jr := hd (J1.out.keepAll hbr)
    obtain ⟨⟨x1, x2, f⟩, hx⟩ : ∃ x, L[k]? = some x := ⟨_, List.getElem?_eq_getElem (by omega)⟩
    obtain ⟨q, ⟨rl, rk, rkey, rval⟩, ⟨pl, pk, pa, pn, pkey⟩, ⟨ec, eb, ef, es⟩⟩ := f
    have hxm : (L.map lcv)[k]? = some (lcv (x1, x2, ⟨q, ⟨rl, rk, rkey, rval⟩, ⟨pl, pk, pa, pn, pkey⟩, ⟨ec, eb, ef, es⟩⟩)) := by rw [List.getElem?_map, hx]; rfl
    obtain ⟨g, c1', hv, hg1, hg2⟩ := Jr.out.nn (by intro e; rw [e] at hxm; simp at hxm)
    injection hv with e1 e2 e3
    subst e1
    have hgl : g < wr.heap.size := Jr.out.blk_lt g rfl
    have r0 := Jr.out.at k _ 0 _ hxm rfl
    have r5 := Jr.out.at k _ 5 _ hxm rfl
    have r6 := Jr.out.at k _ 6 _ hxm rfl
    have r7 := Jr.out.at k _ 7 _ hxm rfl
    have r8 := Jr.out.at k _ 8 _ hxm rfl
    have r9 := Jr.out.at k _ 9 _ hxm rfl
    have r10 := Jr.out.at k _ 10 _ hxm rfl
    have r11 := Jr.out.at k _ 11 _ hxm rfl
    have r12 := Jr.out.at k _ 12 _ hxm rfl
    have r13 := Jr.out.at k _ 13 _ hxm rfl
    rw [Nat.add_zero] at r0
    have HX := hd hx
    have HXM := hd hxm
    clear hst hpl jo hbr e2 e3 hg1 hg2 hxm hx
    by_cases hgo : k + 1 < L.length
    · have hgi : ((k : Int) + 1) < (L.length : Int) := by omega
      have hg3 : ¬ g = wr.heap.size := by omega
      obtain ⟨y, hy⟩ : ∃ y, L[k + 1]? = some y := ⟨_, List.getElem?_eq_getElem hgo⟩
      have HSPL : Hid (locs 0 l = L.take k ++ (x1, x2, ⟨q, ⟨rl, rk, rkey, rval⟩, ⟨pl, pk, pa, pn, pkey⟩, ⟨ec, eb, ef, es⟩⟩) :: y :: L.drop (k + 2)) := by
        show _ = _
        rw [← HL.out]
        have e1 : L[k]'(by omega) = (x1, x2, ⟨q, ⟨rl, rk, rkey, rval⟩, ⟨pl, pk, pa, pn, pkey⟩, ⟨ec, eb, ef, es⟩⟩) := by
          have := HX.out
          rw [List.getElem?_eq_getElem (by omega)] at this
          exact Option.some.inj this
        have e2 : L[k + 1]'hgo = y := by
          rw [List.getElem?_eq_getElem hgo] at hy
          exact Option.some.inj hy
        rw [← e1, ← e2, ← List.drop_eq_getElem_cons hgo, ← List.drop_eq_getElem_cons (by omega), List.take_append_drop]
      have HMEM : Hid (q = 3 → 0 ≤ pn ∧ pn ≤ 4194304 ∧ pa ≤ 4194304) := by
        intro hq3
        have hm := locs_mem HI.out.1 0 _ (by rw [← HL.out]; exact List.mem_of_getElem? HX.out)
        have hrf := hm.2.2.2.2.1
        unfold rf at hrf
        simp only at hrf
        rw [if_neg (by omega), if_pos hq3] at hrf
        unfold rfP at hrf
        simp only at hrf
        split at hrf
        · cases hrf
        · split at hrf
          · cases hrf
          · split at hrf
            · cases hrf
            · split at hrf
              · cases hrf
              · rename_i hno
                have h1 : onD pa := Classical.byContradiction fun h => hno (.inl h)
                have h2 : onD pn := Classical.byContradiction fun h => hno (.inr (.inl h))
                exact ⟨h2.1, h2.2, h1.2⟩
      clear hy
      have hg4 : ¬ wr.heap.size = g := by omega
      by_cases hq : q = 3
      · subst hq
        obtain ⟨hpn0, hpn1, hpa1⟩ := HMEM.out rfl
        by_cases hpa : pa = (n : Int)
        · have hpz : (pa != (n : Int)) = false := by simp [hpa]
          have HPA := hd hpa
          clear hpa
          have HPT : Hid (∀ u ∈ pvl ⟨pl, pk, pa, pn, pkey⟩, u.oneCell' = true) := pvl_one _
          go_wp2_with (at_builtin; refine wpList_append_jr Try.underlying60 info_ptr rfl (by decide) _ rfl _ _ rfl w1.heap.size (.slice oa k oc) (ps.map pvl) (wr.heap.size + 1) 1 (pvl ⟨pl, pk, pa, pn, pkey⟩) rfl rfl ((JO.out.alloc _).alloc _) rfl HPT.out (fun j u hu => cell_lit _ _ (pvl ⟨pl, pk, pa, pn, pkey⟩) j u _ (by simp) hu) (k + 1) (by rw [List.length_map, HPL.out]) (by omega) (by unfold maxLen; omega) (by simp; omega) ?_; intro g2 c2 w2 hj2 hg2 hw2; have HJ2 := hd hj2; have HB2 := hd (((HBR.out.alloc hsr _).alloc (by simp; omega) _).grown hg2 (by simp; omega) (fun q hq => (JO.out.blk_ge q hq))); clear hj2 hg2 hw2)
          go_roundw
          case rel =>
            refine ⟨k + 1, n + pn.toNat, ps ++ [⟨pl, pk, pa, pn, pkey⟩], by omega, by go_num, ?_, by have := HPA.out; omega, by rw [List.length_append, HPL.out]; rfl, ?_, by rw [List.map_append]; exact HJ2.out, HB2.out⟩
            · congr 1
              omega
            · rw [List.take_succ_eq_append_getElem (by omega), sts_snoc, HST.out, Option.bind_some]
              have hxe : L[k]'(by omega) = (x1, x2, ⟨3, ⟨rl, rk, rkey, rval⟩, ⟨pl, pk, pa, pn, pkey⟩, ⟨ec, eb, ef, es⟩⟩) := by
                have := HX.out
                rw [List.getElem?_eq_getElem (by omega)] at this
                exact Option.some.inj this
              rw [hxe, onw_step rfl HPA.out]
              congr 2
              show (n : Int) + pn = _
              omega
          case measure => simp [intOf]; omega
        · have hpz : (pa != (n : Int)) = true := by simp [hpa]
          have HPA := hd hpa
          clear hpa
          go_wp2_with fail
          go_ret2
          rw [ldS_mid HSPL.out HST.out (fun h => HPA.out h.2)]
          exact ⟨rfl, HB1.out.trans ((HBR.out.alloc hsr _).mono (by omega))⟩
      · have hqz : (q != (3 : Int)) = true := by simp [hq]
        have HQ := hd hq
        clear hq
        go_wp2_with fail
        go_ret2
        rw [ldS_mid HSPL.out HST.out (fun h => HQ.out h.1)]
        exact ⟨rfl, HB1.out.trans ((HBR.out.alloc hsr _).mono (by omega))⟩
    · have hge : ¬ ((k : Int) + 1) < (L.length : Int) := by omega
      have hkl : k = L.length - 1 := by omega
      have s0 : wr.cell? ⟨g, (L.length - 1) * 16, none⟩ = some (.int .i64 q) := by rw [← hkl]; exact r0
      have s1 : wr.cell? ⟨g, (L.length - 1) * 16 + 1, none⟩ = some (.int .u64 (rl : Int)) := by rw [← hkl]; exact Jr.out.at k _ 1 _ HXM.out rfl
      have s2 : wr.cell? ⟨g, (L.length - 1) * 16 + 2, none⟩ = some (.int .i64 rk) := by rw [← hkl]; exact Jr.out.at k _ 2 _ HXM.out rfl
      have s3 : wr.cell? ⟨g, (L.length - 1) * 16 + 3, none⟩ = some (.string rkey) := by rw [← hkl]; exact Jr.out.at k _ 3 _ HXM.out rfl
      have s4 : wr.cell? ⟨g, (L.length - 1) * 16 + 4, none⟩ = some (.string rval) := by rw [← hkl]; exact Jr.out.at k _ 4 _ HXM.out rfl
      have s5 : wr.cell? ⟨g, (L.length - 1) * 16 + 5, none⟩ = some (.int .u64 (pl : Int)) := by rw [← hkl]; exact r5
      have s6 : wr.cell? ⟨g, (L.length - 1) * 16 + 6, none⟩ = some (.int .i64 pk) := by rw [← hkl]; exact r6
      have s7 : wr.cell? ⟨g, (L.length - 1) * 16 + 7, none⟩ = some (.int .i64 pa) := by rw [← hkl]; exact r7
      have s8 : wr.cell? ⟨g, (L.length - 1) * 16 + 8, none⟩ = some (.int .i64 pn) := by rw [← hkl]; exact r8
      have s9 : wr.cell? ⟨g, (L.length - 1) * 16 + 9, none⟩ = some (.string pkey) := by rw [← hkl]; exact r9
      have s10 : wr.cell? ⟨g, (L.length - 1) * 16 + 10, none⟩ = some (.int .i64 ec) := by rw [← hkl]; exact r10
      have s11 : wr.cell? ⟨g, (L.length - 1) * 16 + 11, none⟩ = some (.int .i64 eb) := by rw [← hkl]; exact r11
      have s12 : wr.cell? ⟨g, (L.length - 1) * 16 + 12, none⟩ = some (.int .i64 ef) := by rw [← hkl]; exact r12
      have s13 : wr.cell? ⟨g, (L.length - 1) * 16 + 13, none⟩ = some (.int .u32 (es : Int)) := by rw [← hkl]; exact r13
      have HKL := hd hkl
      clear hkl r0 r5 r6 r7 r8 r9 r10 r11 r12 r13
      have HP : Hid (∀ W : World, Below w1.heap.size w1 W → W.cell? ⟨w.heap.size, 0, none⟩ = some (.int .i64 bp) ∧ W.cell? ⟨w.heap.size, 1, none⟩ = some (.int .i64 fp) ∧ W.cell? ⟨w.heap.size, 2, none⟩ = some (.int .u32 (sp : Int))) := fun W hW => by
        have h := HPW.out.keep (hW.mono (Nat.le_refl _))
        exact ⟨h.cell 0 _ rfl, h.cell 1 _ rfl, h.cell 2 _ rfl⟩
      obtain ⟨p0, p1, p2⟩ := HP.out wr HBR.out
      have m1 : w.heap.size < wr.heap.size := by omega
      have m2 : ¬ w.heap.size = wr.heap.size := by omega
      have m3 : ¬ wr.heap.size = w.heap.size := by omega
      have m4 : ¬ w.heap.size = wr.heap.size + 1 := by omega
      have m5 : ¬ wr.heap.size + 1 = w.heap.size := by omega
      have HLS : Hid (locs 0 l = L.take k ++ [(x1, x2, ⟨q, ⟨rl, rk, rkey, rval⟩, ⟨pl, pk, pa, pn, pkey⟩, ⟨ec, eb, ef, es⟩⟩)]) := by
        show _ = _
        rw [← HL.out]
        have e1 : L[k]'(by omega) = (x1, x2, ⟨q, ⟨rl, rk, rkey, rval⟩, ⟨pl, pk, pa, pn, pkey⟩, ⟨ec, eb, ef, es⟩⟩) := by
          have := HX.out
          rw [List.getElem?_eq_getElem (by omega)] at this
          exact Option.some.inj this
        rw [← e1, ← List.take_succ_eq_append_getElem (by omega), List.take_of_length_le (by omega)]
      by_cases hq : q = 4
      · subst hq
        have HLT := hd (ldS_last HCL.out HLS.out HST.out rfl)
        by_cases hec : ec = (k : Int)
        · by_cases hef : ef = (k : Int)
          · by_cases heb : eb = (n : Int)
            · have z1 : (ec != (k : Int)) = false := by simp [hec]
              have z2 : (ef != (k : Int)) = false := by simp [hef]
              have z3 : (eb != (n : Int)) = false := by simp [heb]
              have HG := hd (HLT.out.1 ⟨rfl, by rw [HPL.out]; exact hec, by rw [HPL.out]; exact hef, heb⟩)
              have HE := hd heb
              clear hec hef heb HLT
              by_cases hpr : eb = bp ∧ ef = fp ∧ es = sp
              · obtain ⟨rfl, rfl, rfl⟩ := hpr
                have heq := neq_prt_no eb ef es
                simp only [prl] at heq
                go_wp2_with fail
                go_ret2
                rw [HG.out]
                exact ⟨.inr ⟨⟨rfl, rfl, rfl⟩, _, rfl, (((JO.out.alloc _).alloc _).lower (by omega))⟩, HB1.out.trans (((HBR.out.alloc hsr _).alloc (by simp; omega) _).mono (by omega))⟩
              · have heq := neq_prt_yes hpr
                simp only [prl] at heq
                have HPR := hd hpr
                clear hpr
                go_wp2_with fail
                go_ret2
                rw [HG.out]
                exact ⟨.inl ⟨HPR.out, rfl⟩, HB1.out.trans (((HBR.out.alloc hsr _).alloc (by simp; omega) _).mono (by omega))⟩
            · have z1 : (ec != (k : Int)) = false := by simp [hec]
              have z2 : (ef != (k : Int)) = false := by simp [hef]
              have z3 : (eb != (n : Int)) = true := by simp [heb]
              have HLD := hd (HLT.out.2 (fun g => heb g.2.2.2))
              clear hec hef heb HLT
              go_wp2_with fail
              go_ret2
              rw [HLD.out]
              exact ⟨rfl, HB1.out.trans (((HBR.out.alloc hsr _).alloc (by simp; omega) _).mono (by omega))⟩
          · have z1 : (ec != (k : Int)) = false := by simp [hec]
            have z2 : (ef != (k : Int)) = true := by simp [hef]
            have HLD := hd (HLT.out.2 (fun g => hef (by have := g.2.2.1; rw [HPL.out] at this; exact this)))
            clear hec hef HLT
            go_wp2_with fail
            go_ret2
            rw [HLD.out]
            exact ⟨rfl, HB1.out.trans (((HBR.out.alloc hsr _).alloc (by simp; omega) _).mono (by omega))⟩
        · have z1 : (ec != (k : Int)) = true := by simp [hec]
          have HLD := hd (HLT.out.2 (fun g => hec (by have := g.2.1; rw [HPL.out] at this; exact this)))
          clear hec HLT
          go_wp2_with fail
          go_ret2
          rw [HLD.out]
          exact ⟨rfl, HB1.out.trans (((HBR.out.alloc hsr _).alloc (by simp; omega) _).mono (by omega))⟩
      · have z1 : (q != (4 : Int)) = true := by simp [hq]
        have HLD := hd (ldS_last_no HLS.out HST.out hq)
        clear hq
        go_wp2_with fail
        go_ret2
        rw [HLD.out]
        exact ⟨rfl, HB1.out.trans (((HBR.out.alloc hsr _).alloc (by simp; omega) _).mono (by omega))⟩
end Vt
end Go.Proofs.Ytifjjoobbegpoaa
