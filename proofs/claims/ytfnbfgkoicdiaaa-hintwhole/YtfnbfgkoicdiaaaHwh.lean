/-
  HintWhole's walk.
-/
import Derived.Test.YtfnbfgkoicdiaaaHk0
import Derived.Test.YtfnbfgkoicdiaaaHm2
import Derived.Test.YtfnbfgkoicdiaaaSah
namespace Go.Proofs.Ytfnbfgkoicdiaaa
open Go.RowKit Go.Shelf
namespace Vt
attribute [local go_sem] Oper.semAt_some
set_option maxRecDepth 100000 in
set_option maxHeartbeats 2000000 in
theorem whole_walk (v vd : Value) (l ld : List Nat) (w : World) (hI : IsB w v l) (hD : IsB w vd ld) :
    Calls Try.prog 6 #[v, vd] w fun e w' => e = .returned (.bool true) ∧ Below w.heap.size w w' := by
  obtain ⟨a, c, rfl⟩ := hI.shape
  obtain ⟨ad, cd, rfl⟩ := hD.shape
  have HI := hd hI
  have HD := hd hD
  have HWH := hd (fun s => whole (b := l) (data := ld) (s := s) hI.1 hD.1)
  clear hI hD
  go_enter Try.func6, Try.ntmps6
  go_wp2_with fail
  refine Calls.mono (hknown_is w) ?_
  rintro e w1 ⟨rfl, hb1⟩
  have HB1 := hd hb1
  have HI1 := hd (HI.out.below hb1)
  have HD1 := hd (HD.out.below hb1)
  clear hb1 HI HD
  go_wp2_with fail
  refine Calls.mono (print_is _ l w1 HI1.out) ?_
  rintro e w2 ⟨rfl, hb2⟩
  have HB2 := hd (HB1.out.trans (hb2.mono HB1.out.size))
  have HI2 := hd (HI1.out.below hb2)
  have HD2 := hd (HD1.out.below hb2)
  have HLO : Hid (Calls Try.prog 9 #[.slice ad ld.length cd, .agg (prv l.length (locs 0 l).length (Crc.go 0 l))] w2 fun e w' => ldP (ldS ld) (l.length : Int) ((locs 0 l).length : Int) (Crc.go 0 l) w2.heap.size e w' ∧ Below w2.heap.size w2 w') := load_is _ ld (l.length : Int) ((locs 0 l).length : Int) (Crc.go 0 l) w2 HD2.out
  clear hb2 HI1 HD1 HB1
  generalize prv l.length (locs 0 l).length (Crc.go 0 l) = pp at HLO ⊢
  go_wp2_with fail
  refine Calls.mono HLO.out ?_
  clear HLO
  rintro e w3 ⟨hld, hb3⟩
  have HB3 := hd (HB2.out.trans (hb3.mono HB2.out.size))
  have HI3 := hd (HI2.out.below hb3)
  have HD3 := hd (HD2.out.below hb3)
  have hcase : (∃ vd : Int, e = .returned (.tuple #[.slice none 0 0, .int .i64 vd]) ∧ vd ≠ 1) ∨ ∃ s u, ldS ld = some s ∧ s.e.bytes = (l.length : Int) ∧ s.e.frames = ((locs 0 l).length : Int) ∧ s.e.sum = Crc.go 0 l ∧ e = .returned (.tuple #[u, .int .i64 1]) ∧ JPt w3 w2.heap.size u (s.ps.map pvl) := by
    unfold ldP at hld
    cases hs : ldS ld with
    | none => rw [hs] at hld; exact .inl ⟨4, hld, by decide⟩
    | some s =>
      rw [hs] at hld
      rcases hld with ⟨_, rfl⟩ | ⟨⟨h1, h2, h3⟩, u, rfl, hj⟩
      · exact .inl ⟨3, rfl, by decide⟩
      · exact .inr ⟨s, u, rfl, h1, h2, h3, rfl, hj⟩
  have hsz3 := hb3.size
  clear hld hb3 HI2 HD2 HB2
  rcases hcase with ⟨vv, rfl, hvv⟩ | ⟨s, u, hs, h1, h2, h3, rfl, hj⟩
  · have b1 : (vv != 1) = true := by simp [hvv]
    go_wp2_with fail
    go_ret
    exact ⟨rfl, HB3.out⟩
  · have HW := hd (HWH.out s hs h1 h2 h3)
    have HJ := hd hj
    obtain ⟨au, cu, rfl, hcu⟩ := hj.shape
    rw [List.length_map] at HJ hcu ⊢
    clear HWH hs h1 h2 h3 hj
    obtain ⟨ps, se, sn, sx⟩ := s
    simp only at HW HJ hcu ⊢
    have hpl := HJ.out.len_le
    rw [List.length_map] at hpl
    unfold maxLen at hpl
    go_wp2_with fail
    go_loopw [8] (fun i wr => ∃ k : Nat, k ≤ ps.length ∧ i = .int .i64 (k : Int) ∧ (∀ j, j < k → ∀ p, ps[j]? = some p → chk l p = true) ∧ Below w3.heap.size w3 wr) (fun i _ => ps.length - (intOf i).toNat)
    case atStart => exact ⟨0, by omega, rfl, by intro j hj; omega, Below.refl _ _⟩
    case round =>
      obtain ⟨k, hk, rfl, hc, hbr⟩ := hrel
      have HC := hd hc
      have HBR := hd hbr
      have HBF := hd (HB3.out.trans (hbr.mono HB3.out.size))
      clear hc hbr
      by_cases hlt : k < ps.length
      · obtain ⟨p, hp⟩ : ∃ p, ps[k]? = some p := ⟨_, List.getElem?_eq_getElem hlt⟩
        have hjr := HJ.out.keepAll HBR.out
        obtain ⟨g, cu', he, hcu1, hcu2⟩ := hjr.nn (by intro e; rw [List.map_eq_nil_iff] at e; subst e; simp at hlt)
        rw [List.length_map] at he
        injection he with he1 he2 he3
        subst he1 he3
        have hrow : (ps.map pvl)[k]? = some (pvl p) := by rw [List.getElem?_map, hp]; rfl
        rw [← List.length_map (f := pvl)] at hjr
        have d0 := hjr.at k (pvl p) 0 _ hrow rfl
        have d1 := hjr.at k (pvl p) 1 _ hrow rfl
        have d2 := hjr.at k (pvl p) 2 _ hrow rfl
        have d3 := hjr.at k (pvl p) 3 _ hrow rfl
        have d4 := hjr.at k (pvl p) 4 _ hrow rfl
        have HCK := hd (check_is (.slice a l.length c) l p wr (HI3.out.below HBR.out))
        have HP := hd hp
        obtain ⟨p1, p2, p3, p4, p5⟩ := p
        simp only [pv] at HCK d0 d1 d2 d3 d4
        rw [Nat.add_zero] at d0
        clear hjr hrow hp he2
        go_wp2_with fail
        refine Calls.mono HCK.out ?_
        rintro e w4 ⟨rfl, hb4⟩
        have HB4 := hd (HBR.out.trans (hb4.mono HBR.out.size))
        have HBF4 := hd (HBF.out.trans (hb4.mono HBF.out.size))
        clear HCK hb4
        cases hck : chk l ⟨p1, p2, p3, p4, p5⟩ with
        | false =>
          clear hck
          go_wp2_with fail
          go_ret
          exact ⟨rfl, HBF4.out⟩
        | true =>
          have HNEW : Hid (∀ j, j < k + 1 → ∀ p, ps[j]? = some p → chk l p = true) := fun j hj p hp => by
            rcases Nat.lt_or_ge j k with h | h
            · exact HC.out j h p hp
            · obtain rfl : j = k := by omega
              rw [HP.out] at hp
              obtain rfl := Option.some.inj hp
              exact hck
          clear hck HC
          go_wp2_with fail
          go_roundw
          case rel => exact ⟨k + 1, by omega, by go_num, HNEW.out, HB4.out⟩
          case measure => simp [intOf]; omega
      · obtain rfl : k = ps.length := by omega
        obtain ⟨hmay, hho⟩ := HW.out (fun p hp => by
          obtain ⟨j, hj, rfl⟩ := List.mem_iff_getElem.1 hp
          exact HC.out j hj _ (List.getElem?_eq_getElem hj))
        have HHO := hd hho
        have HMA := hd hmay
        have HIR := hd (HI3.out.below HBR.out)
        have HDR := hd (HD3.out.below HBR.out)
        clear hmay hho HW HC
        go_wp2_with fail
        refine Calls.mono (hof_is _ l wr HIR.out) ?_
        rintro e w5 ⟨⟨_, u, rfl, hj5⟩ | ⟨hn, _⟩, hb5⟩
        · rw [HHO.out] at hj5
          obtain ⟨a5, c5, rfl, _⟩ := hj5.shape
          have HBF5 := hd (HBF.out.trans (hb5.mono HBF.out.size))
          have HSA := hd (hsame_is (.slice a5 ld.length c5) (.slice ad ld.length cd) ld ld w5 hj5.isB (HDR.out.below hb5))
          clear hj5 hb5
          go_wp2_with fail
          refine Calls.mono HSA.out ?_
          rintro e w6 ⟨rfl, n6, rfl⟩
          clear HSA
          go_wp2_with fail
          go_ret
          exact ⟨rfl, below_drewN HBF5.out n6⟩
        · exact absurd HMA.out hn
end Vt
end Go.Proofs.Ytfnbfgkoicdiaaa
