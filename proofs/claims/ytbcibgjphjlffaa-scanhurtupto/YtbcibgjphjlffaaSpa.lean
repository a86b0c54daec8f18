/-
  PROVED: for all texts b of bulk at most 1048576 and all numbers from, to, the Go law ScanPart answers true and changes nothing that came in: a part has just the frames that lie in it whole.
-/
import Derived.Test.YtbcibgjphjlffaaSp
import Derived.JoinedCond
namespace Go.Proofs.Ytbcibgjphjlffaa
open Go.ChangeShapes Go.WideShapes Go.ChangeAt Go.RowKit Go.Shelf
namespace Vt
set_option maxRecDepth 100000 in
theorem pick_is (z : Int) (n : Nat) (w : World) (hn : 0 < n) (hn2 : n ≤ 1048577) (hz : (Lit.int .i64 z).wf = true) :
    Calls Try.prog 34 #[.int .i64 z, .int .i64 (n : Int)] w fun e w' => ∃ m : Nat, m < n ∧ e = .returned (.int .i64 (m : Int)) ∧ w' = w := by
  have hb := bounds_i64 hz
  by_cases h : z < 0
  · go_enter Try.func34, Try.ntmps34
    go_wp2
    go_ret
    refine ⟨((-(z + 1)).tmod (n : Int)).toNat, ?_, ?_, rfl⟩
    · have h1 := Int.tmod_lt_of_pos (-(z + 1)) (show (0 : Int) < n by omega)
      have h2 := Int.tmod_nonneg (n : Int) (show (0 : Int) ≤ -(z + 1) by omega)
      omega
    · have h2 := Int.tmod_nonneg (n : Int) (show (0 : Int) ≤ -(z + 1) by omega)
      rw [Int.toNat_of_nonneg h2, Int.neg_tmod]; rfl
  · go_enter Try.func34, Try.ntmps34
    go_wp2
    go_ret
    refine ⟨(z % (n : Int)).toNat, ?_, ?_, rfl⟩
    · have h1 := Int.emod_lt_of_pos z (show (0 : Int) < n by omega)
      have h2 := Int.emod_nonneg z (show (n : Int) ≠ 0 by omega)
      omega
    · rw [Int.toNat_of_nonneg (Int.emod_nonneg z (show (n : Int) ≠ 0 by omega))]; rfl
theorem sps_bound {l : List Nat} (hb : Byt l) : ∀ s ∈ sps l, s.1 + s.2 ≤ l.length := by
  intro s hs
  unfold sps at hs
  obtain ⟨x, hx, rfl⟩ := List.mem_map.1 hs
  have := (locs_mem hb 0 x hx).2.1
  simp only; omega
theorem sps_len {l : List Nat} (hb : Byt l) : (sps l).length ≤ l.length := by
  unfold sps; rw [List.length_map]
  have := locs_len hb _ (Nat.le_refl _) 0
  omega
set_option maxRecDepth 100000 in
set_option maxHeartbeats 4000000 in
theorem spart_nil (a : Option Addr) (c : Nat) (z y : Int) (w : World) (hz : (Lit.int .i64 z).wf = true) (hy : (Lit.int .i64 y).wf = true) :
    Calls Try.prog 8 #[.slice a 0 c, .int .i64 z, .int .i64 y] w fun e w' => e = .returned (.bool true) ∧ Below w.heap.size w w' := by
  have HN : Hid (∀ (a' : Option Addr) (c' : Nat) (u : World), Calls Try.prog 35 #[.slice a' 0 c'] u fun e w' => ∃ a2 c2, e = .returned (.slice a2 0 c2) ∧ Below u.heap.size u w') := by
    intro a' c' u
    refine Calls.mono (spots_is _ [] u (isK_nil _ _ _ _ _) (by simp)) ?_
    rintro e w' ⟨v', rfl, hj, hb⟩
    obtain ⟨a2, c2, rfl, _⟩ := hj.shape
    exact ⟨a2, c2, rfl, hb⟩
  have HP1 : Hid (∀ z, (Lit.int .i64 z).wf = true → Calls Try.prog 34 #[.int .i64 z, .int .i64 1] w fun e w' => e = .returned (.int .i64 0) ∧ w' = w) := by
    intro z hz
    refine Calls.mono (pick_is z 1 w (by omega) (by omega) hz) ?_
    rintro e w' ⟨m, hm, rfl, hw⟩
    obtain rfl : m = 0 := by omega
    exact ⟨rfl, hw⟩
  have H1 := hd (HP1.out z hz)
  have H2 := hd (HP1.out y hy)
  clear HP1
  have key : ∀ (x : Option Addr), a = x → Calls Try.prog 8 #[.slice a 0 c, .int .i64 z, .int .i64 y] w fun e w' => e = .returned (.bool true) ∧ Below w.heap.size w w' := by
    intro x hx
    subst hx
    cases a
    all_goals
      go_enter Try.func8, Try.ntmps8
      go_wp2_with fail
      refine Calls.mono H1.out ?_
      rintro e w' ⟨rfl, hw'⟩
      have hw2 := hw'.symm
      subst hw2
      clear hw'
      go_wp2_with fail
      refine Calls.mono H2.out ?_
      rintro e w' ⟨rfl, hw'⟩
      have hw2 := hw'.symm
      subst hw2
      clear hw'
      go_wp2_with fail
      refine Calls.mono (HN.out _ _ w) ?_
      rintro e w1 ⟨a1, c1, rfl, b1⟩
      have B1 := hd b1
      clear b1
      go_wp2_with fail
      refine Calls.mono (HN.out _ _ w1) ?_
      rintro e w2 ⟨a2, c2, rfl, b2⟩
      have B2 := hd (B1.out.trans (b2.mono B1.out.size))
      clear b2 B1
      go_wp2_with fail
      refine Calls.mono (works_is w2) ?_
      rintro e w3 ⟨rfl, b3⟩
      have B3 := hd (B2.out.trans (b3.mono B2.out.size))
      clear b3 B2
      go_wp2_with fail
      go_loopw [12, 13] (fun p q wr => q = .int .i64 0 ∧ p = .int .i64 0 ∧ wr = w3) (fun _ _ _ => 0)
      case atStart => exact ⟨rfl, rfl, rfl⟩
      case round =>
        obtain ⟨rfl, rfl, rfl⟩ := hrel
        go_wp2_with fail
        go_ret
        exact ⟨rfl, B3.out⟩
  exact key a rfl
set_option maxRecDepth 100000 in
set_option maxHeartbeats 4000000 in
theorem spart_row (b off c : Nat) (l : List Nat) (z y : Int) (w : World) (hI : IsB w (.slice (some ⟨b, off, none⟩) l.length c) l) (hm : l.length ≤ 1048576) (hcl : l.length ≤ c) (hcm : c ≤ maxLen) (hz : (Lit.int .i64 z).wf = true) (hy : (Lit.int .i64 y).wf = true) :
    Calls Try.prog 8 #[.slice (some ⟨b, off, none⟩) l.length c, .int .i64 z, .int .i64 y] w fun e w' => e = .returned (.bool true) ∧ Below w.heap.size w w' := by
  have HI := hd hI
  have HBY := hd hI.1
  have hsl := sps_len hI.1
  clear hI
  unfold maxLen at hcm
  have HP1 : Hid (Calls Try.prog 34 #[.int .i64 z, .int .i64 ((l.length : Int) + 1)] w fun e w' => ∃ m : Nat, m < l.length + 1 ∧ e = .returned (.int .i64 (m : Int)) ∧ w' = w) := by
    have := pick_is z (l.length + 1) w (by omega) (by omega) hz
    rwa [show ((l.length + 1 : Nat) : Int) = (l.length : Int) + 1 by omega] at this
  go_enter Try.func8, Try.ntmps8
  go_wp2_with fail
  refine Calls.mono HP1.out ?_
  rintro e w' ⟨i, hi, rfl, hw'⟩
  subst hw'
  clear HP1
  have HP2 : Hid (Calls Try.prog 34 #[.int .i64 y, .int .i64 ((l.length : Int) - (i : Int) + 1)] w' fun e w'' => ∃ m : Nat, m < l.length - i + 1 ∧ e = .returned (.int .i64 (m : Int)) ∧ w'' = w') := by
    have := pick_is y (l.length - i + 1) w' (by omega) (by omega) hy
    rwa [show ((l.length - i + 1 : Nat) : Int) = (l.length : Int) - (i : Int) + 1 by omega] at this
  go_wp2_with fail
  refine Calls.mono HP2.out ?_
  rintro e w'' ⟨t, ht, rfl, hw'⟩
  subst hw'
  clear HP2
  obtain ⟨j, hj⟩ : ∃ j, j = i + t := ⟨_, rfl⟩
  have hji : (i : Int) + (t : Int) = (j : Int) := by omega
  have hjl : j ≤ l.length := by omega
  have hij : i ≤ j := by omega
  have hsp := sps_part HBY.out hij
  have HSP := hd hsp
  clear hj hsp
  go_wp2_with fail
  refine Calls.mono (spots_is _ l w'' HI.out (by omega)) ?_
  rintro e w1 ⟨u1, rfl, j1, b1⟩
  obtain ⟨S, hS⟩ : ∃ S, S = sps l := ⟨_, rfl⟩
  have HSB := hd (sps_bound HBY.out)
  rw [← hS] at j1 hsl HSP HSB
  clear hS
  obtain ⟨a1, c1, rfl, hc1⟩ := j1.shape
  rw [List.length_map] at hc1 j1 ⊢
  have J1 := hd j1
  have B1 := hd b1
  have hIp := ((HI.out.below b1).dropIf i (by omega) hcl).take (j - i) (by rw [List.length_drop]; omega)
  have HIPa : Hid (¬ c = i → IsB w1 (.slice (some ⟨b, off + i, none⟩) (j - i) (c - i)) ((l.drop i).take (j - i))) := fun h => by rw [if_neg h] at hIp; exact hIp
  have HIPb : Hid (c = i → IsB w1 (.slice (some ⟨b, off, none⟩) (j - i) 0) ((l.drop i).take (j - i))) := fun h => by rw [if_pos h, h, Nat.sub_self] at hIp; exact hIp
  obtain ⟨PT, hPT⟩ : ∃ PT, PT = (l.drop i).take (j - i) := ⟨_, rfl⟩
  rw [← hPT] at HIPa HIPb HSP
  have hptl : PT.length ≤ 1048576 := by rw [hPT, List.length_take, List.length_drop]; omega
  clear j1 b1 hIp hPT HI
  go_wp2_with fail
  all_goals
    refine Calls.mono (spots_is _ PT w1 (by first | exact HIPa.out (by omega) | exact HIPb.out (by omega)) (by omega)) ?_
    rintro e w2 ⟨u2, rfl, j2, b2⟩
    rw [HSP.out] at j2
    obtain ⟨Q, hQ⟩ : ∃ Q, Q = (S.filter (inPart i j)).map fun s => (s.1 - i, s.2) := ⟨_, rfl⟩
    rw [← hQ] at j2
    have HQ := hd hQ
    have hql : Q.length = (S.filter (inPart i j)).length := by rw [hQ, List.length_map]
    have HQL := hd hql
    have hqs : Q.length ≤ S.length := by rw [hql]; exact List.length_filter_le _ _
    clear hQ hql
    obtain ⟨a2, c2, rfl, hc2⟩ := j2.shape
    rw [List.length_map] at hc2 j2 ⊢
    have J2 := hd j2
    have J1' := hd (J1.out.keepAll b2)
    have B2 := hd (B1.out.trans (b2.mono B1.out.size))
    clear j2 b2 J1 B1 HIPa HIPb
    go_wp2_with fail
    refine Calls.mono (works_is w2) ?_
    rintro e w3 ⟨rfl, b3⟩
    have J3 := hd (J2.out.keepAll b3)
    have J1 := hd (J1'.out.keepAll b3)
    have B3 := hd (B2.out.trans (b3.mono B2.out.size))
    clear b3 J2 J1' B2
    go_wp2_with fail
    go_loopw [12, 13] (fun p q wr => ∃ k n : Nat, k ≤ S.length ∧ q = .int .i64 (k : Int) ∧ p = .int .i64 (n : Int) ∧ n = ((S.take k).filter (inPart i j)).length ∧ Below w3.heap.size w3 wr) (fun _ q _ => S.length - (intOf q).toNat)
    case atStart => exact ⟨0, 0, by omega, rfl, rfl, rfl, Below.refl _ _⟩
    case round =>
      obtain ⟨k, n, hk, rfl, rfl, hn, hbr⟩ := hrel
      have HNN := hd hn
      have hnk : n ≤ k := by
        have := List.length_filter_le (inPart i j) (S.take k)
        rw [List.length_take] at this
        omega
      clear hn
      have HBR := hd hbr
      have hsr := hbr.size
      by_cases hlt : k < S.length
      · obtain ⟨⟨p1, n1⟩, hx⟩ : ∃ x, S[k]? = some x := ⟨S[k], List.getElem?_eq_getElem hlt⟩
        have hxb := HSB.out _ (List.mem_of_getElem? hx)
        simp only at hxb
        have hxm : (S.map spv)[k]? = some [.int .i64 (p1 : Int), .int .i64 (n1 : Int)] := by rw [List.getElem?_map, hx]; rfl
        have hne : S.map spv ≠ [] := by intro e; rw [e] at hxm; simp at hxm
        have jr := J1.out.keepAll hbr
        obtain ⟨g, c1', hv, hgc, hgm⟩ := jr.nn hne
        injection hv with e1 e2 e3
        subst e1 e3
        have r0 : wr.cell? ⟨g, k * 2, none⟩ = some (.int .i64 (p1 : Int)) := jr.at k _ 0 _ hxm rfl
        have r1 : wr.cell? ⟨g, k * 2 + 1, none⟩ = some (.int .i64 (n1 : Int)) := jr.at k _ 1 _ hxm rfl
        have htk : (S.take (k + 1)).filter (inPart i j) = (S.take k).filter (inPart i j) ++ (if inPart i j (p1, n1) then [(p1, n1)] else []) := by
          rw [List.take_add_one, hx, Option.toList_some, List.filter_append]
          congr 1
          rw [List.filter_cons, List.filter_nil]
        have HTK := hd htk
        have HX := hd hx
        clear hxm hne e2 hx jr htk hbr
        by_cases hlo : p1 < i
        · have hin : inPart i j (p1, n1) = false := by unfold inPart; simp; omega
          have q1 : decide ((p1 : Int) < (i : Int)) = true := by rw [decide_eq_true_iff]; omega
          go_wp2_with fail
          go_roundw
          case rel => first | exact ⟨k + 1, n, by omega, by go_num, rfl, by rw [HTK.out, hin, HNN.out]; simp, HBR.out.alloc hsr _⟩ | ((repeat apply Exists.intro); exact ⟨⟨k + 1, n, by omega, by go_num, rfl, by rw [HTK.out, hin, HNN.out]; simp, HBR.out.alloc hsr _⟩, rfl⟩)
          case measure => simp [intOf]; omega
        · have q1 : decide ((p1 : Int) < (i : Int)) = false := by rw [decide_eq_false_iff_not]; omega
          by_cases hhi : j < p1 + n1
          · have hin : inPart i j (p1, n1) = false := by unfold inPart; simp; omega
            have q2 : decide ((j : Int) < (p1 : Int) + (n1 : Int)) = true := by rw [decide_eq_true_iff]; omega
            first
              | (exfalso; omega)
              | (go_wp2_with fail
                 go_roundw
                 case rel => first | exact ⟨k + 1, n, by omega, by go_num, rfl, by rw [HTK.out, hin, HNN.out]; simp, HBR.out.alloc hsr _⟩ | ((repeat apply Exists.intro); exact ⟨⟨k + 1, n, by omega, by go_num, rfl, by rw [HTK.out, hin, HNN.out]; simp, HBR.out.alloc hsr _⟩, rfl⟩)
                 case measure => simp [intOf]; omega)
          · have hin : inPart i j (p1, n1) = true := by unfold inPart; simp; omega
            have q2 : decide ((j : Int) < (p1 : Int) + (n1 : Int)) = false := by rw [decide_eq_false_iff_not]; omega
            have hmem : (p1 - i, n1) ∈ Q := by
              rw [HQ.out]
              exact List.mem_map.2 ⟨(p1, n1), List.mem_filter.2 ⟨List.mem_of_getElem? HX.out, hin⟩, rfl⟩
            have hcs := has_is (.slice a2 Q.length c2) Q (p1 - i) n1 (wr.alloc (.cells #[.int .i64 (p1 : Int), .int .i64 (n1 : Int)] 68)) _ ((J3.out.keepAll HBR.out).alloc _)
            rw [decide_eq_true hmem, show ((p1 - i : Nat) : Int) = (p1 : Int) - (i : Int) by omega] at hcs
            have HCS := hd hcs
            clear hcs hmem
            go_wp2_with fail
            refine Calls.mono HCS.out ?_
            rintro e w5 ⟨rfl, b5⟩
            have hs5 := b5.size
            simp only [World.size_alloc] at hs5 b5
            have HB5 := hd b5
            clear b5 HCS
            go_wp2_with fail
            go_roundw
            case rel => first | exact ⟨k + 1, n + 1, by omega, by go_num, by go_num, by rw [HTK.out, hin, HNN.out]; simp, (HBR.out.alloc hsr _).trans (HB5.out.mono (by omega))⟩ | ((repeat apply Exists.intro); exact ⟨⟨k + 1, n + 1, by omega, by go_num, by go_num, by rw [HTK.out, hin, HNN.out]; simp, (HBR.out.alloc hsr _).trans (HB5.out.mono (by omega))⟩, rfl⟩)
            case measure => simp [intOf]; omega
      · obtain rfl : k = S.length := by omega
        have hnq : n = Q.length := by rw [HNN.out, HQL.out, List.take_length]
        have HBR2 := hd (B3.out.trans (hbr.mono B3.out.size))
        subst hnq
        clear HNN
        go_wp2_with fail
        go_ret
        exact ⟨rfl, HBR2.out⟩
end Vt
namespace Spa
open Vt
theorem walk (a0 : Option Addr) (len0 cap0 : Nat) (z0 : List Int) (a1 a2 : Int) (w : World) (w0 : IsRow .u8 w a0 len0 cap0 z0) (w1 : (Lit.int .i64 a1).wf = true) (w2 : (Lit.int .i64 a2).wf = true) (hm : len0 ≤ 1048576) :
    Calls Try.prog 8 #[.slice a0 len0 cap0, .int .i64 a1, .int .i64 a2] w fun e w' => e = .returned (.bool true) ∧ Below w.heap.size w w' := by
  obtain ⟨l, hl, hI⟩ := w0.isB
  subst hl
  obtain ⟨_, _, ⟨hl0, a', c', e⟩ | ⟨b, off, c', e, h1, h2, _⟩⟩ := id hI
  · subst hl0
    exact spart_nil a0 cap0 a1 a2 w w1 w2
  · injection e with e1 e2 e3
    subst e1 e3
    exact spart_row b off cap0 l a1 a2 w hI hm h1 h2 w1 w2
/-- numbers weigh one each -/
theorem lits_bulk {H : Type} (k : IntKind) (zs : List Int) : zs.length ≤ Rows.uptoBulkAll (lits (H := H) k zs) := by
  induction zs with
  | nil => exact Nat.zero_le _
  | cons z r ih =>
    rw [show lits (H := H) k (z :: r) = .lit (.int k z) :: lits k r from rfl]
    simp only [Rows.uptoBulkAll, Rows.uptoBulk, List.length_cons]
    omega
set_option linter.unusedVariables false
set_option maxRecDepth 100000 in
theorem lifted (os : Os) (started : os.Started) (H : Type) (enc : TypeId × Value → H) (F : Stop.Interp) :
    ReturnsInHanded {} Try.checked os 8 .any ((Rows.OpenSpec.upto Rows.scanPartSpec).pre6 enc Try.prog Try.f8 Rows.scanPartUptoRow.domain false) (((Rows.OpenSpec.upto Rows.scanPartSpec).at F).post enc Try.prog Try.f8 false true false false) := by
  refine returnsInHanded_of_cond (C := Try.checked) (s := Rows.OpenSpec.upto Rows.scanPartSpec) (k := Rows.uptoSmall) rfl own started (by kernel_rfl) Try.func8
    (OpenSpec.witness (enc := enc) (C := Try.checked) (s := Rows.OpenSpec.upto Rows.scanPartSpec) (k := Rows.uptoSmall) rfl false ⟨#[], #[.slice none 0 0, .int .i64 0, .int .i64 0], []⟩ 8 (by kernel_rfl) (by kernel_rfl) (by kernel_rfl)
      (x := ([.nil, .lit (.int .i64 0), .lit (.int .i64 0)], [], [])) (by kernel_rfl) rfl (by kernel_rfl)) ?_
  intro W base args ds gs before hval0 hW _ hk0 _
  have hk : Rows.uptoBulkAll (ds ++ gs) ≤ 1048576 := of_decide_eq_true hk0
  clear hk0
  have hval : ∀ (j : Nat) t v, Try.f8.params[j]? = some t → args[j]? = some v → Value.okWide Try.prog W .any base t v := hval0
  have hW' := hW
  obtain ⟨p, q, hA0, hV, rfl, hfz, hnd⟩ := hW
  have hA : DataW.TrodAll enc Try.prog W 0 (fun _ => true) true Try.f8.params.toList args.toList ds p := hA0
  rw [Try.params8] at hA hval
  obtain ⟨v0, vs0, d0, ds0, p0, q0, hargs, rfl, rfl, h0, r0⟩ := trodAll_cons hA
  obtain ⟨v1, vs1, d1, ds1, p1, q1, rfl, rfl, rfl, h1, r1⟩ := trodAll_cons r0
  obtain ⟨v2, vs2, d2, ds2, p2, q2, rfl, rfl, rfl, h2, r2⟩ := trodAll_cons r1
  obtain ⟨rfl, rfl, rfl⟩ := trodAll_nil r2
  obtain rfl : args = #[v0, v1, v2] := by cases args; simp_all
  obtain ⟨rfl, rfl⟩ := trodVars_none hV
  have opens_u8 : ∀ (v : Value) (d : DataW H) (pl : List MemPlace) (a : Option Addr) (len cap : Nat), v = .slice a len cap → DataW.Trod enc Try.prog W 0 (fun _ => true) true 22 v d pl → ∃ zs, IsRow .u8 W a len cap zs ∧ len ≤ Rows.uptoBulk d := by
    rintro v d pl a len cap rfl ⟨fuel, hf⟩
    rcases open_ints Try.underlying22 Try.underlying5 (by kernel_rfl) hf with ⟨hcs, _⟩ | ⟨x, l, c, zs, hcs, _, hl, hm, hz, hx, hcell, hwz⟩
    · simp [Value.cells] at hcs
      obtain ⟨rfl, rfl, rfl⟩ := hcs
      exact ⟨[], .inl ⟨rfl, rfl, rfl, rfl⟩, by omega⟩
    · simp [Value.cells] at hcs
      obtain ⟨rfl, rfl, rfl⟩ := hcs
      have hz2 : zs.length = cap := by simpa using hz
      simp only [Prod.mk.injEq] at hx
      refine ⟨zs, .inr ⟨_, rfl, hl, hm, hz2, hcell, hwz⟩, ?_⟩
      rw [hx.1]
      have h1 := lits_bulk (H := H) .u8 (zs.take len)
      rw [List.length_take] at h1
      simp only [Rows.uptoBulk]
      omega
  obtain ⟨a0, len0, cap0, rfl⟩ := okWide_slice Try.underlying22 (hval 0 22 v0 rfl rfl)
  have k0 := h0
  have lt0 : ∀ x ∈ p0, x.block < W.heap.size := by obtain ⟨m, hm⟩ := k0; exact DataW.trod_lt m _ _ _ hm
  obtain ⟨z0, w0, b0⟩ := opens_u8 _ d0 p0 a0 len0 cap0 rfl h0
  have hm : len0 ≤ 1048576 := by
    simp only [List.cons_append, Rows.uptoBulkAll] at hk
    omega
  obtain ⟨a1, rfl, rfl, rfl, w1⟩ := open_int Try.underlying3 (hval 1 3 v1 rfl rfl) h1
  obtain ⟨a2, rfl, rfl, rfl, w2⟩ := open_int Try.underlying3 (hval 2 3 v2 rfl rfl) h2
  clear hA0 hval0
  refine (walk a0 len0 cap0 z0 a1 a2 W w0 w1 w2 hm).mono fun e W' ⟨he, bel⟩ => ?_
  subst he
  exact ⟨_, rfl, _, _, _, [], _, [], hW', trodAll_mk1 (shut_bool Try.underlying4 _), (trodAll_cons_mk (Below.trod laidOut (by kernel_rfl) (of_decide_eq_true (by kernel_rfl)) k0 bel lt0) (trodAll_cons_mk (shut_int Try.underlying3 w1) (trodAll_cons_mk (shut_int Try.underlying3 w2) trodAll_mk0))), rfl, bel.frame _, fun h => by cases h⟩
theorem over : Rows.ScanPartUptoSaid :=
  OpenClaim.holds_of_cond 8 Try.f8 rfl rfl rfl rfl rfl rfl rfl ⟨rfl, rfl, rfl, rfl, rfl⟩ rfl rfl rfl rfl rfl (by kernel_rfl) Try.func8 (by kernel_rfl)
    (of_decide_eq_true (by kernel_rfl)) (by unfold Func.isWrapper; first | (rw [if_pos (by decide +kernel)]; kernel_rfl) | (rw [if_neg (by decide +kernel)]; exact ⟨rfl, rfl⟩))
    (fun os started H enc _ F => lifted os started H enc F)
end Spa

theorem scanPart_upto : Rows.ScanPartUptoSaid := Spa.over
#print axioms scanPart_upto
end Go.Proofs.Ytbcibgjphjlffaa
