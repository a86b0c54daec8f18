/-
  THE REFERENCE OF LAYER 5: Records of kinds that are named.
-/
import Derived.Test.YtifjjoobbegpoaaMkby
namespace Go.Proofs.Ytifjjoobbegpoaa
open Go.RowKit Go.Shelf
namespace Vt
attribute [local go_sem] Oper.semAt_some
attribute [local go_sem ↓] append_hide
set_option maxRecDepth 100000 in
set_option maxHeartbeats 2000000 in
theorem r5_records_row (v : Value) (l : List Nat) (kb koff kc : Nat) (zs : List Int) (w : World) (hI : IsB w v l) (hl : l.length ≤ 10000000) (hz0 : zs.length ≠ 0) (hkb : kb < w.heap.size) (hzc : ∀ i, i < zs.length → w.cell? ⟨kb, koff + i, none⟩ = some (.int .i64 (zs.getD i 0))) (hzm : zs.length ≤ 4611686018427387904) :
    Calls Try.prog 8 #[v, .slice (some ⟨kb, koff, none⟩) zs.length kc] w fun e w' => ∃ v', e = .returned v' ∧ JL w' w.heap.size v' ((recs zs l).map lcv) ∧ Below w.heap.size w w' := by
  obtain ⟨av0, c, rfl⟩ := hI.shape
  have HI := hd hI
  have hll := locs_len hI.1 _ (Nat.le_refl _) 0
  have HZC := hd hzc
  clear hI hzc
  go_enter Try.func8, Try.ntmps8
  go_wp2_with fail
  refine Calls.mono (r5_all _ l w HI.out (by omega)) ?_
  rintro e w1 ⟨u, rfl, hj, hb⟩
  obtain ⟨au, cu, rfl, hcu⟩ := hj.shape
  rw [List.length_map] at hcu hj ⊢
  have HJ := hd hj
  have HB := hd hb
  have hs1 := hb.size
  have HRC : Hid (recs zs l = (locs 0 l).filter (isw zs)) := hd rfl
  obtain ⟨L, hL⟩ : ∃ L, L = locs 0 l := ⟨_, rfl⟩
  rw [← hL] at HJ HRC hcu hll ⊢
  clear hj hb HI hL
  go_wp2_with fail
  go_loopw [5, 7] (fun o i wr => ∃ (k : Nat), k ≤ L.length ∧ i = .int .i64 (k : Int) ∧ JL wr w1.heap.size o (((L.take k).filter (isw zs)).map lcv) ∧ Below w1.heap.size w1 wr) (fun _ i _ => L.length - (intOf i).toNat)
  case atStart => exact ⟨0, by omega, rfl, jr_nil _ _, Below.refl _ _⟩
  case round =>
    obtain ⟨k, hk, rfl, hj, hb⟩ := hrel
    obtain ⟨av, cv, rfl, hcv⟩ := hj.shape
    have htl : ((L.take k).filter (isw zs)).length ≤ 1200000 := by
      have := List.length_filter_le (isw zs) (L.take k)
      rw [List.length_take] at this
      omega
    rw [List.length_map] at hcv hj ⊢
    have HJB := hd hj
    have HBr := hd hb
    have hsr := hb.size
    clear hj hb
    have hmx : Try.prog.follows .mixedOrders = true := by kernel_rfl
    by_cases hlt : k < L.length
    · obtain ⟨⟨x1, x2, ⟨fk, ⟨rl, rk, rkey, rval⟩, ⟨pl, pk, pa, pn, pkey⟩, ⟨ec, eb, ef, es⟩⟩⟩, hx⟩ : ∃ x, L[k]? = some x := ⟨L[k], List.getElem?_eq_getElem hlt⟩
      have hxm : (L.map fov)[k]? = some (fov (x1, x2, ⟨fk, ⟨rl, rk, rkey, rval⟩, ⟨pl, pk, pa, pn, pkey⟩, ⟨ec, eb, ef, es⟩⟩)) := by rw [List.getElem?_map, hx]; rfl
      have HXM := hd hxm
      have hne : L.map fov ≠ [] := by intro e; rw [e] at hxm; simp at hxm
      obtain ⟨g, cu', hv1, hg1, hm1⟩ := HJ.out.nn hne
      injection hv1 with e1 e2 e3
      subst e1
      have hsn := recs_snoc zs (L.take k) (x1, x2, ⟨fk, ⟨rl, rk, rkey, rval⟩, ⟨pl, pk, pa, pn, pkey⟩, ⟨ec, eb, ef, es⟩⟩)
      rw [← take_one hx] at hsn
      have HSN := hd hsn
      obtain ⟨R0, hR0⟩ : ∃ R0, R0 = (L.take k).filter (isw zs) := ⟨_, rfl⟩
      rw [← hR0] at HSN HJB htl hcv ⊢
      have r0 := (HJ.out.keepAll HBr.out).at k _ 0 _ hxm rfl
      have r1 := (HJ.out.keepAll HBr.out).at k _ 1 _ hxm rfl
      have r2 := (HJ.out.keepAll HBr.out).at k _ 2 _ hxm rfl
      have r3 := (HJ.out.keepAll HBr.out).at k _ 3 _ hxm rfl
      have r4 := (HJ.out.keepAll HBr.out).at k _ 4 _ hxm rfl
      have r5 := (HJ.out.keepAll HBr.out).at k _ 5 _ hxm rfl
      have r6 := (HJ.out.keepAll HBr.out).at k _ 6 _ hxm rfl
      have r7 := (HJ.out.keepAll HBr.out).at k _ 7 _ hxm rfl
      have r8 := (HJ.out.keepAll HBr.out).at k _ 8 _ hxm rfl
      have r9 := (HJ.out.keepAll HBr.out).at k _ 9 _ hxm rfl
      have r10 := (HJ.out.keepAll HBr.out).at k _ 10 _ hxm rfl
      have r11 := (HJ.out.keepAll HBr.out).at k _ 11 _ hxm rfl
      have r12 := (HJ.out.keepAll HBr.out).at k _ 12 _ hxm rfl
      have r13 := (HJ.out.keepAll HBr.out).at k _ 13 _ hxm rfl
      have r14 := (HJ.out.keepAll HBr.out).at k _ 14 _ hxm rfl
      have r15 := (HJ.out.keepAll HBr.out).at k _ 15 _ hxm rfl
      simp only [Nat.add_zero] at r0
      clear hxm hne hx e2 e3 hg1 hm1 hsn hR0
      have hzI : ¬ (zs.length : Int) = 0 := by omega
      have hzB : ((zs.length : Int) == 0) = false := by rw [beq_eq_false_iff_ne]; exact hzI
      have HZR : Hid (∀ i, i < zs.length → wr.cell? ⟨kb, koff + i, none⟩ = some (.int .i64 (zs.getD i 0))) := fun i hi => (((HB.out.trans (HBr.out.mono hs1)).cell (p := ⟨kb, koff + i, none⟩) hkb).trans (HZC.out i hi))
      go_wp2_with fail
      go_loopw [9, 10] (fun o j w2 => ∃ q : Nat, q ≤ zs.length ∧ o = .bool (decide (fk ∈ zs.take q)) ∧ j = .int .i64 (q : Int) ∧ w2 = wr) (fun _ j _ => zs.length - (intOf j).toNat)
      case atStart => exact ⟨0, by omega, by simp, rfl, rfl⟩
      case round =>
        obtain ⟨q, hq, rfl, rfl, hw2⟩ := hrel
        subst hw2
        by_cases hqz : q < zs.length
        · have hzc1 := HZR.out q hqz
          have HTK : Hid (zs.take (q + 1) = zs.take q ++ [zs.getD q 0]) := hd (by rw [List.take_add_one, List.getElem?_eq_getElem hqz, Option.toList_some, List.getD_eq_getElem?_getD, List.getElem?_eq_getElem hqz]; rfl)
          by_cases hin : fk ∈ zs.take q
          · have HIN : Hid (decide (fk ∈ zs.take (q + 1)) = true) := hd (by rw [HTK.out]; simp [hin])
            rw [decide_eq_true hin]
            clear hin
            generalize zs.getD q 0 = y at *
            go_wp2_with fail
            go_roundw
            case rel => exact ⟨q + 1, by omega, by rw [HIN.out], by go_num, trivial⟩
            case measure => simp [intOf]; omega
          · rw [decide_eq_false hin]
            by_cases hy : zs.getD q 0 = fk
            · have HIN : Hid (decide (fk ∈ zs.take (q + 1)) = true) := hd (by rw [HTK.out, hy]; simp)
              have hyB : (zs.getD q 0 == fk) = true := by rw [hy]; simp
              clear hin hy
              generalize zs.getD q 0 = y at *
              go_wp2_with fail
              go_roundw
              case rel => exact ⟨q + 1, by omega, by rw [HIN.out], by go_num, trivial⟩
              case measure => simp [intOf]; omega
            · have HIN : Hid (decide (fk ∈ zs.take (q + 1)) = false) := hd (by rw [HTK.out, decide_eq_false_iff_not, List.mem_append, List.mem_singleton]; rintro (h | h); exact hin h; exact hy h.symm)
              have hyB : (zs.getD q 0 == fk) = false := by rw [beq_eq_false_iff_ne]; exact hy
              clear hin hy
              generalize zs.getD q 0 = y at *
              go_wp2_with fail
              go_roundw
              case rel => exact ⟨q + 1, by omega, by rw [HIN.out], by go_num, trivial⟩
              case measure => simp [intOf]; omega
        · obtain rfl : q = zs.length := by omega
          rw [List.take_length]
          by_cases hin : fk ∈ zs
          · have HIW : Hid (isw zs (x1, x2, ⟨fk, ⟨rl, rk, rkey, rval⟩, ⟨pl, pk, pa, pn, pkey⟩, ⟨ec, eb, ef, es⟩⟩) = true) := hd (by unfold isw; simp [hin])
            rw [decide_eq_true hin]
            clear hin
            obtain ⟨g5, c5, w5, hr5, hj5, hg5, hw5⟩ := run_append_jr Try.underlying26 info_lc rfl (by decide) 26 ((wr.alloc (.cells #[.int .i64 fk, .int .u64 (rl : Int), .int .i64 rk, .string rkey, .string rval, .int .u64 (pl : Int), .int .i64 pk, .int .i64 pa, .int .i64 pn, .string pkey, .int .i64 ec, .int .i64 eb, .int .i64 ef, .int .u32 (es : Int), .int .i64 (x1 : Int), .int .i64 (x2 : Int)] 43)).drew) w1.heap.size (.slice av R0.length cv) (R0.map lcv) (HJB.out.alloc _) wr.heap.size 1 [.int .i64 fk, .int .u64 (rl : Int), .int .i64 rk, .string rkey, .string rval, .int .u64 (pl : Int), .int .i64 pk, .int .i64 pa, .int .i64 pn, .string pkey, .int .i64 ec, .int .i64 eb, .int .i64 ef, .int .u32 (es : Int), .int .i64 (x1 : Int), .int .i64 (x2 : Int)] rfl (lcv_one (x1, x2, ⟨fk, ⟨rl, rk, rkey, rval⟩, ⟨pl, pk, pa, pn, pkey⟩, ⟨ec, eb, ef, es⟩⟩)) (fun j u hu => cell_lit wr _ _ j u _ rfl hu) (by rw [List.length_map]; omega) (by rw [List.length_map]; unfold maxLen; omega) (by show w1.heap.size ≤ (wr.alloc _).heap.size; rw [World.size_alloc]; omega)
            rw [List.length_map] at hr5 hj5
            have hap : (apH #[26, 26] 26 #[.slice av R0.length cv, .slice (some ⟨wr.heap.size, 0, none⟩) 1 1]).run Try.prog (wr.alloc (.cells #[.int .i64 fk, .int .u64 (rl : Int), .int .i64 rk, .string rkey, .string rval, .int .u64 (pl : Int), .int .i64 pk, .int .i64 pa, .int .i64 pn, .string pkey, .int .i64 ec, .int .i64 eb, .int .i64 ef, .int .u32 (es : Int), .int .i64 (x1 : Int), .int .i64 (x2 : Int)] 43)).drew = .ok (.slice (some ⟨g5, 0, none⟩) (R0.length + 1) c5) w5 := hr5
            have HJ5 := hd hj5
            have hb5 : Below w1.heap.size w1 w5 := ((HBr.out.alloc hsr _).drew).grown hg5 (by show w1.heap.size ≤ (wr.alloc _).heap.size; rw [World.size_alloc]; omega) (fun g e => HJB.out.blk_ge g e)
            have HB5 := hd hb5
            obtain ⟨SS, hS0, hS1, hS2⟩ : ∃ SS : Nat → World, SS 0 = wr.drew ∧ SS 1 = (wr.alloc (.cells #[.int .i64 fk, .int .u64 (rl : Int), .int .i64 rk, .string rkey, .string rval, .int .u64 (pl : Int), .int .i64 pk, .int .i64 pa, .int .i64 pn, .string pkey, .int .i64 ec, .int .i64 eb, .int .i64 ef, .int .u32 (es : Int), .int .i64 (x1 : Int), .int .i64 (x2 : Int)] 43)).drew ∧ SS 2 = w5 := ⟨fun s => match s with | 0 => _ | 1 => _ | _ => _, rfl, rfl, rfl⟩
            have HS0 := hd hS0
            have HS1 := hd hS1
            have HS2 := hd hS2
            have hltI : (k : Int) < (L.length : Int) := by omega
            clear hr5 hj5 hg5 hw5 hb5 hS0 hS1 hS2
            go_wp2_with fail
            refine region_chain (fun i => match i with
              | 0 => Value.slice av R0.length cv
              | 1 => Value.slice (some { block := g, off := 0 }) L.length cu
              | 2 => Value.int IntKind.i64 (k : Int)
              | 3 => .pointer (some ⟨g, k * 16, none⟩)
              | 4 => .pointer (some ⟨g, k * 16 + 2, none⟩)
              | 5 => .agg #[.int .i64 fk, .int .u64 (rl : Int), .int .i64 rk, .string rkey, .string rval, .int .u64 (pl : Int), .int .i64 pk, .int .i64 pa, .int .i64 pn, .string pkey, .int .i64 ec, .int .i64 eb, .int .i64 ef, .int .u32 (es : Int)]
              | 6 => Value.slice (some { block := g, off := 0 }) L.length cu
              | 7 => Value.int IntKind.i64 (k : Int)
              | 8 => .pointer (some ⟨g, k * 16, none⟩)
              | 9 => .pointer (some ⟨g, k * 16, none⟩)
              | 10 => .int .i64 (x1 : Int)
              | 11 => Value.slice (some { block := g, off := 0 }) L.length cu
              | 12 => Value.int IntKind.i64 (k : Int)
              | 13 => .pointer (some ⟨g, k * 16, none⟩)
              | 14 => .pointer (some ⟨g, k * 16 + 1, none⟩)
              | 15 => .int .i64 (x2 : Int)
              | 16 => .agg #[.int .i64 fk, .int .u64 (rl : Int), .int .i64 rk, .string rkey, .string rval, .int .u64 (pl : Int), .int .i64 pk, .int .i64 pa, .int .i64 pn, .string pkey, .int .i64 ec, .int .i64 eb, .int .i64 ef, .int .u32 (es : Int), .int .i64 (x1 : Int), .int .i64 (x2 : Int)]
              | 17 => .slice (some ⟨wr.heap.size, 0, none⟩) 1 1
              | 18 => .slice (some ⟨g5, 0, none⟩) (R0.length + 1) c5
              | 19 => .slice (some ⟨g5, 0, none⟩) (R0.length + 1) c5
              | _ => undef) [17, 18] SS hmx (by kernel_rfl) (by kernel_rfl) (by kernel_rfl) (by kernel_rfl) HS0.out ?_ ?_ (by decide)
            · intro i o ho s a hsr hlo hhi hout haf hun
              have ee6 := getq (show a.tmps.getD 6 undef = Value.slice (some { block := g, off := 0 }) L.length cu from hout 6 (notDst_spec (by kernel_rfl)))
              have ee7 := getq (show a.tmps.getD 7 undef = Value.int IntKind.i64 (k : Int) from hout 7 (notDst_spec (by kernel_rfl)))
              clear hout
              match i, ho, hlo, hhi, haf, hun with
              | 0, ho, hlo, hhi, haf, hun =>
                obtain rfl := Option.some.inj ho
                have g19 := getq (show a.tmps.getD 5 undef = Value.slice av R0.length cv from hun 19 5 (by decide) (.inr (by kernel_rfl)) rfl)
                refine step_c (w' := SS s) rfl fun K hK => ?_
                simp only [List.getElem_toArray, List.getElem_cons_zero] at hK ⊢
                clear haf hlo hhi hun ho hsr
                go_simp
                exact hK
              | 1, ho, hlo, hhi, haf, hun =>
                obtain rfl := Option.some.inj ho
                obtain rfl : s = 0 := by have := hhi 0 (by decide) (.inr (by kernel_rfl)); simp at hsr; omega
                refine step_c (w' := SS 0) rfl fun K hK => ?_
                simp only [List.getElem_toArray, List.getElem_cons_succ, List.getElem_cons_zero] at hK ⊢
                clear haf hlo hhi hun ho hsr
                go_simp
                exact hK
              | 2, ho, hlo, hhi, haf, hun =>
                obtain rfl := Option.some.inj ho
                obtain rfl : s = 0 := by have := hhi 0 (by decide) (.inr (by kernel_rfl)); simp at hsr; omega
                refine step_c (w' := SS 0) rfl fun K hK => ?_
                simp only [List.getElem_toArray, List.getElem_cons_succ, List.getElem_cons_zero] at hK ⊢
                clear haf hlo hhi hun ho hsr
                go_simp
                exact hK
              | 3, ho, hlo, hhi, haf, hun =>
                obtain rfl := Option.some.inj ho
                have f1 := getq (show a.tmps.getD 53 undef = Value.slice (some { block := g, off := 0 }) L.length cu from haf ⟨1, .data⟩ (by simp) rfl 53 rfl)
                have f2 := getq (show a.tmps.getD 54 undef = Value.int IntKind.i64 (k : Int) from haf ⟨2, .data⟩ (by simp) rfl 54 rfl)
                obtain rfl : s = 0 := by have := hhi 0 (by decide) (.inr (by kernel_rfl)); simp at hsr; omega
                refine step_c (w' := SS 0) rfl fun K hK => ?_
                simp only [List.getElem_toArray, List.getElem_cons_succ, List.getElem_cons_zero] at hK ⊢
                clear haf hlo hhi hun ho hsr
                go_simp
                exact hK
              | 4, ho, hlo, hhi, haf, hun =>
                obtain rfl := Option.some.inj ho
                have f3 := getq (show a.tmps.getD 55 undef = .pointer (some ⟨g, k * 16, none⟩) from haf ⟨3, .data⟩ (by simp) rfl 55 rfl)
                obtain rfl : s = 0 := by have := hhi 0 (by decide) (.inr (by kernel_rfl)); simp at hsr; omega
                refine step_c (w' := SS 0) rfl fun K hK => ?_
                simp only [List.getElem_toArray, List.getElem_cons_succ, List.getElem_cons_zero] at hK ⊢
                clear haf hlo hhi hun ho hsr
                go_simp
                exact hK
              | 5, ho, hlo, hhi, haf, hun =>
                obtain rfl := Option.some.inj ho
                have f4 := getq (show a.tmps.getD 56 undef = .pointer (some ⟨g, k * 16 + 2, none⟩) from haf ⟨4, .data⟩ (by simp) rfl 56 rfl)
                obtain rfl : s = 0 := by have := hhi 0 (by decide) (.inr (by kernel_rfl)); simp at hsr; omega
                refine step_c (w' := SS 0) rfl fun K hK => ?_
                simp only [List.getElem_toArray, List.getElem_cons_succ, List.getElem_cons_zero] at hK ⊢
                clear haf hlo hhi hun ho hsr
                rw [HS0.out] at hK ⊢
                go_simp
                exact hK
              | 6, ho, hlo, hhi, haf, hun =>
                obtain rfl := Option.some.inj ho
                obtain rfl : s = 0 := by have := hhi 0 (by decide) (.inr (by kernel_rfl)); simp at hsr; omega
                refine step_c (w' := SS 0) rfl fun K hK => ?_
                simp only [List.getElem_toArray, List.getElem_cons_succ, List.getElem_cons_zero] at hK ⊢
                clear haf hlo hhi hun ho hsr
                go_simp
                exact hK
              | 7, ho, hlo, hhi, haf, hun =>
                obtain rfl := Option.some.inj ho
                obtain rfl : s = 0 := by have := hhi 0 (by decide) (.inr (by kernel_rfl)); simp at hsr; omega
                refine step_c (w' := SS 0) rfl fun K hK => ?_
                simp only [List.getElem_toArray, List.getElem_cons_succ, List.getElem_cons_zero] at hK ⊢
                clear haf hlo hhi hun ho hsr
                go_simp
                exact hK
              | 8, ho, hlo, hhi, haf, hun =>
                obtain rfl := Option.some.inj ho
                have f6 := getq (show a.tmps.getD 58 undef = Value.slice (some { block := g, off := 0 }) L.length cu from haf ⟨6, .data⟩ (by simp) rfl 58 rfl)
                have f7 := getq (show a.tmps.getD 59 undef = Value.int IntKind.i64 (k : Int) from haf ⟨7, .data⟩ (by simp) rfl 59 rfl)
                obtain rfl : s = 0 := by have := hhi 0 (by decide) (.inr (by kernel_rfl)); simp at hsr; omega
                refine step_c (w' := SS 0) rfl fun K hK => ?_
                simp only [List.getElem_toArray, List.getElem_cons_succ, List.getElem_cons_zero] at hK ⊢
                clear haf hlo hhi hun ho hsr
                go_simp
                exact hK
              | 9, ho, hlo, hhi, haf, hun =>
                obtain rfl := Option.some.inj ho
                have f8 := getq (show a.tmps.getD 60 undef = .pointer (some ⟨g, k * 16, none⟩) from haf ⟨8, .data⟩ (by simp) rfl 60 rfl)
                obtain rfl : s = 0 := by have := hhi 0 (by decide) (.inr (by kernel_rfl)); simp at hsr; omega
                refine step_c (w' := SS 0) rfl fun K hK => ?_
                simp only [List.getElem_toArray, List.getElem_cons_succ, List.getElem_cons_zero] at hK ⊢
                clear haf hlo hhi hun ho hsr
                go_simp
                exact hK
              | 10, ho, hlo, hhi, haf, hun =>
                obtain rfl := Option.some.inj ho
                have f9 := getq (show a.tmps.getD 61 undef = .pointer (some ⟨g, k * 16, none⟩) from haf ⟨9, .data⟩ (by simp) rfl 61 rfl)
                obtain rfl : s = 0 := by have := hhi 0 (by decide) (.inr (by kernel_rfl)); simp at hsr; omega
                refine step_c (w' := SS 0) rfl fun K hK => ?_
                simp only [List.getElem_toArray, List.getElem_cons_succ, List.getElem_cons_zero] at hK ⊢
                clear haf hlo hhi hun ho hsr
                rw [HS0.out] at hK ⊢
                go_simp
                exact hK
              | 11, ho, hlo, hhi, haf, hun =>
                obtain rfl := Option.some.inj ho
                obtain rfl : s = 0 := by have := hhi 0 (by decide) (.inr (by kernel_rfl)); simp at hsr; omega
                refine step_c (w' := SS 0) rfl fun K hK => ?_
                simp only [List.getElem_toArray, List.getElem_cons_succ, List.getElem_cons_zero] at hK ⊢
                clear haf hlo hhi hun ho hsr
                go_simp
                exact hK
              | 12, ho, hlo, hhi, haf, hun =>
                obtain rfl := Option.some.inj ho
                obtain rfl : s = 0 := by have := hhi 0 (by decide) (.inr (by kernel_rfl)); simp at hsr; omega
                refine step_c (w' := SS 0) rfl fun K hK => ?_
                simp only [List.getElem_toArray, List.getElem_cons_succ, List.getElem_cons_zero] at hK ⊢
                clear haf hlo hhi hun ho hsr
                go_simp
                exact hK
              | 13, ho, hlo, hhi, haf, hun =>
                obtain rfl := Option.some.inj ho
                have f11 := getq (show a.tmps.getD 63 undef = Value.slice (some { block := g, off := 0 }) L.length cu from haf ⟨11, .data⟩ (by simp) rfl 63 rfl)
                have f12 := getq (show a.tmps.getD 64 undef = Value.int IntKind.i64 (k : Int) from haf ⟨12, .data⟩ (by simp) rfl 64 rfl)
                obtain rfl : s = 0 := by have := hhi 0 (by decide) (.inr (by kernel_rfl)); simp at hsr; omega
                refine step_c (w' := SS 0) rfl fun K hK => ?_
                simp only [List.getElem_toArray, List.getElem_cons_succ, List.getElem_cons_zero] at hK ⊢
                clear haf hlo hhi hun ho hsr
                go_simp
                exact hK
              | 14, ho, hlo, hhi, haf, hun =>
                obtain rfl := Option.some.inj ho
                have f13 := getq (show a.tmps.getD 65 undef = .pointer (some ⟨g, k * 16, none⟩) from haf ⟨13, .data⟩ (by simp) rfl 65 rfl)
                obtain rfl : s = 0 := by have := hhi 0 (by decide) (.inr (by kernel_rfl)); simp at hsr; omega
                refine step_c (w' := SS 0) rfl fun K hK => ?_
                simp only [List.getElem_toArray, List.getElem_cons_succ, List.getElem_cons_zero] at hK ⊢
                clear haf hlo hhi hun ho hsr
                go_simp
                exact hK
              | 15, ho, hlo, hhi, haf, hun =>
                obtain rfl := Option.some.inj ho
                have f14 := getq (show a.tmps.getD 66 undef = .pointer (some ⟨g, k * 16 + 1, none⟩) from haf ⟨14, .data⟩ (by simp) rfl 66 rfl)
                obtain rfl : s = 0 := by have := hhi 0 (by decide) (.inr (by kernel_rfl)); simp at hsr; omega
                refine step_c (w' := SS 0) rfl fun K hK => ?_
                simp only [List.getElem_toArray, List.getElem_cons_succ, List.getElem_cons_zero] at hK ⊢
                clear haf hlo hhi hun ho hsr
                rw [HS0.out] at hK ⊢
                go_simp
                exact hK
              | 16, ho, hlo, hhi, haf, hun =>
                obtain rfl := Option.some.inj ho
                have f5 := getq (show a.tmps.getD 57 undef = .agg #[.int .i64 fk, .int .u64 (rl : Int), .int .i64 rk, .string rkey, .string rval, .int .u64 (pl : Int), .int .i64 pk, .int .i64 pa, .int .i64 pn, .string pkey, .int .i64 ec, .int .i64 eb, .int .i64 ef, .int .u32 (es : Int)] from haf ⟨5, .data⟩ (by simp) rfl 57 rfl)
                have f10 := getq (show a.tmps.getD 62 undef = .int .i64 (x1 : Int) from haf ⟨10, .data⟩ (by simp) rfl 62 rfl)
                have f15 := getq (show a.tmps.getD 67 undef = .int .i64 (x2 : Int) from haf ⟨15, .data⟩ (by simp) rfl 67 rfl)
                obtain rfl : s = 0 := by have := hhi 0 (by decide) (.inr (by kernel_rfl)); simp at hsr; omega
                refine step_c (w' := SS 0) rfl fun K hK => ?_
                simp only [List.getElem_toArray, List.getElem_cons_succ, List.getElem_cons_zero] at hK ⊢
                clear haf hlo hhi hun ho hsr
                go_simp
                exact hK
              | 17, ho, hlo, hhi, haf, hun =>
                obtain rfl := Option.some.inj ho
                have f16 := getq (show a.tmps.getD 68 undef = .agg #[.int .i64 fk, .int .u64 (rl : Int), .int .i64 rk, .string rkey, .string rval, .int .u64 (pl : Int), .int .i64 pk, .int .i64 pa, .int .i64 pn, .string pkey, .int .i64 ec, .int .i64 eb, .int .i64 ef, .int .u32 (es : Int), .int .i64 (x1 : Int), .int .i64 (x2 : Int)] from haf ⟨16, .data⟩ (by simp) rfl 68 rfl)
                obtain rfl : s = 0 := by have := hhi 0 (by decide) (.inl (by kernel_rfl)); omega
                refine step_c (w' := SS 1) rfl fun K hK => ?_
                simp only [List.getElem_toArray, List.getElem_cons_succ, List.getElem_cons_zero] at hK ⊢
                clear haf hlo hhi hun ho hsr
                rw [HS1.out] at hK
                rw [HS0.out]
                go_simp
                exact hK
              | 18, ho, hlo, hhi, haf, hun =>
                obtain rfl := Option.some.inj ho
                have f0 := getq (show a.tmps.getD 52 undef = Value.slice av R0.length cv from haf ⟨0, .data⟩ (by simp) rfl 52 rfl)
                have f17 := getq (show a.tmps.getD 69 undef = .slice (some ⟨wr.heap.size, 0, none⟩) 1 1 from haf ⟨17, .data⟩ (by simp) rfl 69 rfl)
                obtain rfl : s = 1 := by have := hlo 0 (by decide) (by kernel_rfl); have := hhi 1 (by decide) (.inl (by kernel_rfl)); omega
                refine step_c (w' := SS 2) rfl fun K hK => ?_
                simp only [List.getElem_toArray, List.getElem_cons_succ, List.getElem_cons_zero] at hK ⊢
                clear haf hlo hhi hun ho hsr
                rw [HS2.out] at hK
                rw [HS1.out]
                go_simp
                exact hK
              | 19, ho, hlo, hhi, haf, hun =>
                obtain rfl := Option.some.inj ho
                have f18 := getq (show a.tmps.getD 70 undef = .slice (some ⟨g5, 0, none⟩) (R0.length + 1) c5 from haf ⟨18, .data⟩ (by simp) rfl 70 rfl)
                obtain rfl : s = 2 := by have := hlo 1 (by decide) (by kernel_rfl); simp at hsr; omega
                refine step_c (w' := SS 2) rfl fun K hK => ?_
                simp only [List.getElem_toArray, List.getElem_cons_succ, List.getElem_cons_zero] at hK ⊢
                clear haf hlo hhi hun ho hsr
                go_simp
                exact hK
              | n + 20, ho, _, _, _, _ => simp at ho
            · intro aa hdf hsz hout hval
              have hat : aa.tmps = #[Value.slice av0 l.length c, Value.slice (some { block := kb, off := koff }) zs.length kc, undef, undef, Value.slice none 0 0, .slice (some ⟨g5, 0, none⟩) (R0.length + 1) c5, Value.slice (some { block := g, off := 0 }) L.length cu, Value.int IntKind.i64 (k : Int), Value.int IntKind.i64 fk, Value.bool true, Value.int IntKind.i64 (zs.length : Int), Value.slice av0 l.length c, Value.slice (some { block := g, off := 0 }) L.length cu, Value.int IntKind.i64 (k : Int), Value.slice (some { block := g, off := 0 }) L.length cu, Value.int IntKind.i64 (L.length : Int), Value.bool true, u17, u18, Value.slice (some { block := g, off := 0 }) L.length cu, Value.int IntKind.i64 (k : Int), Value.pointer (some { block := g, off := k * 16 }), Value.pointer (some { block := g, off := k * 16 + 2 }), Value.pointer (some { block := g, off := k * 16 + 2 }), Value.int IntKind.i64 fk, Value.slice (some { block := kb, off := koff }) zs.length kc, Value.int IntKind.i64 (zs.length : Int), Value.bool false, Value.bool false, undef, undef, undef, undef, undef, undef, Value.bool false, Value.int IntKind.i64 (zs.length : Int), Value.slice (some { block := kb, off := koff }) zs.length kc, Value.int IntKind.i64 (zs.length : Int), Value.bool false, u40, u41, u42, u43, u44, u45, u46, u47, u48, u49, u50, Value.bool true, Value.slice av R0.length cv, Value.slice (some { block := g, off := 0 }) L.length cu, Value.int IntKind.i64 (k : Int), .pointer (some ⟨g, k * 16, none⟩), .pointer (some ⟨g, k * 16 + 2, none⟩), .agg #[.int .i64 fk, .int .u64 (rl : Int), .int .i64 rk, .string rkey, .string rval, .int .u64 (pl : Int), .int .i64 pk, .int .i64 pa, .int .i64 pn, .string pkey, .int .i64 ec, .int .i64 eb, .int .i64 ef, .int .u32 (es : Int)], Value.slice (some { block := g, off := 0 }) L.length cu, Value.int IntKind.i64 (k : Int), .pointer (some ⟨g, k * 16, none⟩), .pointer (some ⟨g, k * 16, none⟩), .int .i64 (x1 : Int), Value.slice (some { block := g, off := 0 }) L.length cu, Value.int IntKind.i64 (k : Int), .pointer (some ⟨g, k * 16, none⟩), .pointer (some ⟨g, k * 16 + 1, none⟩), .int .i64 (x2 : Int), .agg #[.int .i64 fk, .int .u64 (rl : Int), .int .i64 rk, .string rkey, .string rval, .int .u64 (pl : Int), .int .i64 pk, .int .i64 pa, .int .i64 pn, .string pkey, .int .i64 ec, .int .i64 eb, .int .i64 ef, .int .u32 (es : Int), .int .i64 (x1 : Int), .int .i64 (x2 : Int)], .slice (some ⟨wr.heap.size, 0, none⟩) 1 1, .slice (some ⟨g5, 0, none⟩) (R0.length + 1) c5, undef] := by
                refine arr_one (hsz.trans rfl) fun kk hkk => ?_
                match kk, hkk with
                | 0, _ => exact hout 0 (notDst_spec (by kernel_rfl))
                | 1, _ => exact hout 1 (notDst_spec (by kernel_rfl))
                | 2, _ => exact hout 2 (notDst_spec (by kernel_rfl))
                | 3, _ => exact hout 3 (notDst_spec (by kernel_rfl))
                | 4, _ => exact hout 4 (notDst_spec (by kernel_rfl))
                | 5, _ => exact hval 19 5 (by decide) rfl
                | 6, _ => exact hout 6 (notDst_spec (by kernel_rfl))
                | 7, _ => exact hout 7 (notDst_spec (by kernel_rfl))
                | 8, _ => exact hout 8 (notDst_spec (by kernel_rfl))
                | 9, _ => exact hout 9 (notDst_spec (by kernel_rfl))
                | 10, _ => exact hout 10 (notDst_spec (by kernel_rfl))
                | 11, _ => exact hout 11 (notDst_spec (by kernel_rfl))
                | 12, _ => exact hout 12 (notDst_spec (by kernel_rfl))
                | 13, _ => exact hout 13 (notDst_spec (by kernel_rfl))
                | 14, _ => exact hout 14 (notDst_spec (by kernel_rfl))
                | 15, _ => exact hout 15 (notDst_spec (by kernel_rfl))
                | 16, _ => exact hout 16 (notDst_spec (by kernel_rfl))
                | 17, _ => exact hout 17 (notDst_spec (by kernel_rfl))
                | 18, _ => exact hout 18 (notDst_spec (by kernel_rfl))
                | 19, _ => exact hout 19 (notDst_spec (by kernel_rfl))
                | 20, _ => exact hout 20 (notDst_spec (by kernel_rfl))
                | 21, _ => exact hout 21 (notDst_spec (by kernel_rfl))
                | 22, _ => exact hout 22 (notDst_spec (by kernel_rfl))
                | 23, _ => exact hout 23 (notDst_spec (by kernel_rfl))
                | 24, _ => exact hout 24 (notDst_spec (by kernel_rfl))
                | 25, _ => exact hout 25 (notDst_spec (by kernel_rfl))
                | 26, _ => exact hout 26 (notDst_spec (by kernel_rfl))
                | 27, _ => exact hout 27 (notDst_spec (by kernel_rfl))
                | 28, _ => exact hout 28 (notDst_spec (by kernel_rfl))
                | 29, _ => exact hout 29 (notDst_spec (by kernel_rfl))
                | 30, _ => exact hout 30 (notDst_spec (by kernel_rfl))
                | 31, _ => exact hout 31 (notDst_spec (by kernel_rfl))
                | 32, _ => exact hout 32 (notDst_spec (by kernel_rfl))
                | 33, _ => exact hout 33 (notDst_spec (by kernel_rfl))
                | 34, _ => exact hout 34 (notDst_spec (by kernel_rfl))
                | 35, _ => exact hout 35 (notDst_spec (by kernel_rfl))
                | 36, _ => exact hout 36 (notDst_spec (by kernel_rfl))
                | 37, _ => exact hout 37 (notDst_spec (by kernel_rfl))
                | 38, _ => exact hout 38 (notDst_spec (by kernel_rfl))
                | 39, _ => exact hout 39 (notDst_spec (by kernel_rfl))
                | 40, _ => exact hout 40 (notDst_spec (by kernel_rfl))
                | 41, _ => exact hout 41 (notDst_spec (by kernel_rfl))
                | 42, _ => exact hout 42 (notDst_spec (by kernel_rfl))
                | 43, _ => exact hout 43 (notDst_spec (by kernel_rfl))
                | 44, _ => exact hout 44 (notDst_spec (by kernel_rfl))
                | 45, _ => exact hout 45 (notDst_spec (by kernel_rfl))
                | 46, _ => exact hout 46 (notDst_spec (by kernel_rfl))
                | 47, _ => exact hout 47 (notDst_spec (by kernel_rfl))
                | 48, _ => exact hout 48 (notDst_spec (by kernel_rfl))
                | 49, _ => exact hout 49 (notDst_spec (by kernel_rfl))
                | 50, _ => exact hout 50 (notDst_spec (by kernel_rfl))
                | 51, _ => exact hout 51 (notDst_spec (by kernel_rfl))
                | 52, _ => exact hval 0 52 (by decide) rfl
                | 53, _ => exact hval 1 53 (by decide) rfl
                | 54, _ => exact hval 2 54 (by decide) rfl
                | 55, _ => exact hval 3 55 (by decide) rfl
                | 56, _ => exact hval 4 56 (by decide) rfl
                | 57, _ => exact hval 5 57 (by decide) rfl
                | 58, _ => exact hval 6 58 (by decide) rfl
                | 59, _ => exact hval 7 59 (by decide) rfl
                | 60, _ => exact hval 8 60 (by decide) rfl
                | 61, _ => exact hval 9 61 (by decide) rfl
                | 62, _ => exact hval 10 62 (by decide) rfl
                | 63, _ => exact hval 11 63 (by decide) rfl
                | 64, _ => exact hval 12 64 (by decide) rfl
                | 65, _ => exact hval 13 65 (by decide) rfl
                | 66, _ => exact hval 14 66 (by decide) rfl
                | 67, _ => exact hval 15 67 (by decide) rfl
                | 68, _ => exact hval 16 68 (by decide) rfl
                | 69, _ => exact hval 17 69 (by decide) rfl
                | 70, _ => exact hval 18 70 (by decide) rfl
                | 71, _ => exact hout 71 (notDst_spec (by kernel_rfl))
                | n + 72, h => exact absurd h (by simp)
              obtain ⟨tt, dd⟩ := aa
              simp only at hat hdf
              subst hat hdf
              clear hsz hout hval
              rw [show SS [17, 18].length = w5 from HS2.out]
              clear hap HS0 HS1
              go_wp2_with fail
              go_roundw
              case rel => exact ⟨k + 1, by omega, by go_num, by rw [HSN.out, HIW.out, if_pos rfl, List.map_append, List.map_cons, List.map_nil]; exact HJ5.out, HB5.out⟩
              case measure => simp [intOf]; omega
          · have HIW : Hid (isw zs (x1, x2, ⟨fk, ⟨rl, rk, rkey, rval⟩, ⟨pl, pk, pa, pn, pkey⟩, ⟨ec, eb, ef, es⟩⟩) = false) := hd (by unfold isw; simp [hin])
            rw [decide_eq_false hin]
            clear hin
            go_wp2_with fail
            go_roundw
            case rel => exact ⟨k + 1, by omega, by go_num, by rw [HSN.out, HIW.out, if_neg (by decide), List.append_nil]; exact HJB.out, HBr.out⟩
            case measure => simp [intOf]; omega
    · obtain rfl : k = L.length := by omega
      rw [List.take_length] at HJB ⊢
      go_wp2_with fail
      go_ret
      exact ⟨_, rfl, by rw [HRC.out]; exact HJB.out.lower hs1, HB.out.trans (HBr.out.mono hs1)⟩
end Vt
end Go.Proofs.Ytifjjoobbegpoaa
