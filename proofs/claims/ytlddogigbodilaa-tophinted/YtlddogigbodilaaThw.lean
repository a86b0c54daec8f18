/-
  TopHinted's walk: a hint file says where everything stands, and is told from any other one.
-/
import Derived.Test.YtlddogigbodilaaMax
import Derived.Test.YtlddogigbodilaaMbf
import Derived.Test.YtlddogigbodilaaMbi
import Derived.Test.YtlddogigbodilaaMbk
import Derived.Test.YtlddogigbodilaaMbl
import Derived.Test.YtlddogigbodilaaMbm
import Derived.Test.YtlddogigbodilaaMbj
import Derived.Test.YtlddogigbodilaaMbn
namespace Go.Proofs.Ytlddogigbodilaa
open Go.ChangeShapes Go.WideShapes Go.ChangeAt Go.RowKit Go.Shelf
namespace Vt
theorem some100 {w : World} {a : Option Addr} {n c : Nat} {l : List Rw4} (h : IsRw w (.slice a n c) l) (hn : n = l.length) (hl : 100 < l.length) : ∃ b off, a = some ⟨b, off, none⟩ ∧ 100 ≤ c ∧ c ≤ maxLen ∧ IsRw w (.slice (some ⟨b, off, none⟩) 100 c) (l.take 100) := by
  obtain ⟨h1, ⟨rfl, _⟩ | ⟨b, off, c', he, hlc, hcm, hb, hop⟩⟩ := h
  · simp at hl
  · injection he with e1 e2 e3
    subst e1 e3
    have hlen : (l.take 100).length = 100 := by rw [List.length_take]; omega
    refine ⟨b, off, rfl, by omega, hcm, fun x hx => h1 x (List.mem_of_mem_take hx), .inr ⟨b, off, c, by rw [hlen], by omega, hcm, hb, fun i x hx j u hu => ?_⟩⟩
    have hi : i < 100 := by have := (List.getElem?_eq_some_iff.1 hx).1; omega
    rw [List.getElem?_take_of_lt hi] at hx
    exact hop i x hx j u hu
/-- what was laid of records alone is a segment -/
theorem lay_facts {L : List Rw4} (hl : L.length ≤ 100) {bs : List Nat} {wn : List Lc} {nn : Nat} (h : Lay L [] (L.length + 1) bs wn nn) :
    May bs ∧ locs 0 bs = wn ∧ wn.length = L.length ∧ bs.length ≤ 171700 ∧ bs = ens (frs L) ∧ ∀ k x, L[k]? = some x → ∃ lc, wn[k]? = some lc ∧ lc.2.2 = ofR (rcQ x.k x.y x.v (k + 1)) := by
  have hn := h.no rfl
  have hlo := h.mks.locs
  have hfr : wn.map (fun x => x.2.2) = frs L := by
    have := h.fr
    rwa [List.take_of_length_le (by rw [frs_len]; omega)] at this
  have hcl := h.cl hn
  rw [List.take_of_length_le (by rw [frs_len]; omega)] at hcl
  have hlen := h.len
  have hwl : wn.length = L.length := by have := congrArg List.length hfr; rwa [List.length_map, frs_len] at this
  refine ⟨⟨by omega, ?_, fun x hx => ?_⟩, hlo, hwl, by omega, hcl, fun k x hx => ?_⟩
  · unfold Cl; rw [hlo]; have := h.sum; omega
  · rw [hlo] at hx
    have := h.mks.2.1 x hx
    unfold isw at this
    unfold isRec
    simp only [decide_eq_true_eq, List.mem_cons, List.mem_nil_iff, or_false] at this
    simpa using this
  · have hk : k < wn.length := by rw [hwl]; exact (List.getElem?_eq_some_iff.1 hx).1
    refine ⟨wn[k], List.getElem?_eq_getElem hk, ?_⟩
    have e1 : (wn.map (fun x => x.2.2))[k]? = some wn[k].2.2 := by rw [List.getElem?_map, List.getElem?_eq_getElem hk]; rfl
    rw [hfr] at e1
    have e2 : (frs L)[k]? = some (ofR (rcQ x.k x.y x.v (k + 1))) := by unfold frs; rw [List.getElem?_mapIdx, hx]; rfl
    rw [e2] at e1
    exact (Option.some.inj e1).symm
theorem sum_atS (X : World) (N : Nat) (v : Value) (l : List Nat) (hc : X.cell? ⟨N, 0, none⟩ = some v) (hN : N < X.heap.size) (hI : IsB X v l) :
    Calls Try.prog 44 #[.slice (some ⟨N, 0, none⟩) 1 1] X fun e w' => e = .returned (.int .u32 ((Crc.go 0 l : Nat) : Int)) ∧ Below X.heap.size X w' := by
  refine (sum_row N 0 1 [l] X (by simp [maxLen]) hN ?_).mono ?_
  · intro i hi
    match i, hi with
    | 0, _ => exact ⟨v, hc, hI⟩
  · rintro e w' ⟨rfl, h⟩
    exact ⟨by simp, h⟩
theorem jb_isB {w : World} {b : Nat} {v : Value} {l : List Nat} (h : JB w b v l) : IsB w v l := JK.isK (k := .u8) (M := 256) (E := 5) h
set_option maxRecDepth 100000 in
set_option maxHeartbeats 40000000 in
theorem hinted_walk (v : Value) (l0 : List Rw4) (at_ tu : Int) (m : Rw4) (w : World) (h1 : IsRw w v l0) (ha : (Lit.int .i64 at_).wf = true) (ht : (Lit.int .i64 tu).wf = true) (hm : m.Ok) :
    Calls Try.prog 8 #[v, .int .i64 at_, .int .i64 tu, .agg (wcl m).toArray] w fun e w' => e = .returned (.bool true) ∧ Below w.heap.size w w' := by
  obtain ⟨a, c, rfl⟩ := h1.shape
  have HL := hd h1
  have HM := hd hm
  have HA := hd ha
  have HT := hd ht
  clear h1 hm ha ht
  have hmx : Try.prog.follows .mixedOrders = true := by kernel_rfl
  simp only [wcl]
  go_enter Try.func8, Try.ntmps8
  apply wp_seq_k
  intro K1 hK1
  have HK1 := hd hK1
  clear hK1
  go_wp2_with fail
  apply HK1.out
  apply wp_seq_k
  intro K2 hK2
  have HK2 := hd hK2
  clear hK2 HK1
  refine (fun (R2 : ∀ (v0 u27 u28 u29 u30 u31 : Value) (L : List Rw4), L.length ≤ 100 → IsRw w v0 L → K2 ⟨#[v0, Value.int IntKind.i64 at_, Value.int IntKind.i64 tu, Value.agg #[Value.int IntKind.i64 m.k, Value.int IntKind.i64 m.y, Value.int IntKind.i64 m.v, Value.int IntKind.i64 m.n], undef, undef, undef, Value.pointer (some { block := w.heap.size, off := 0 }), Value.bool false, undef, undef, undef, undef, undef, undef, undef, undef, undef, undef, undef, undef, undef, undef, undef, undef, undef, undef, u27, u28, u29, u30, u31, undef, undef, undef, undef, undef, undef, undef, undef, undef, undef, undef, undef, undef, undef, undef, undef, undef, undef, undef, undef, undef, undef, undef, undef, undef, undef, undef, undef, undef, undef, undef, undef, undef, undef, undef, undef, undef, undef, undef, undef, undef, undef, undef, undef, undef, undef, undef, undef, undef, undef, undef, undef, undef, undef, undef, undef, undef, undef, undef, undef, undef, undef, undef, undef, undef, undef, undef, undef, undef, undef, undef, undef, undef, undef, undef, undef, undef, undef, undef, undef, undef, undef, undef, undef, undef, undef, undef, undef, undef, undef, undef, undef, undef, undef, undef, undef, undef, undef, undef, undef, undef, undef, undef, undef, undef, undef, undef, undef, undef, undef, undef, undef, undef, undef, undef, undef, undef, undef, undef, undef, undef, undef, undef, undef, undef, undef, undef, undef, undef, undef, undef, undef, undef, undef, undef, undef, undef, undef, undef, undef, undef, undef, undef, undef, undef, undef, undef, undef, undef, undef, undef, undef, undef, undef, undef, undef, undef, undef, undef, undef, undef, undef, undef, undef, undef, undef, undef, undef, undef, undef, undef, undef, undef, undef, undef], []⟩ (w.alloc (Obj.cells #[Value.int IntKind.i64 m.k, Value.int IntKind.i64 m.y, Value.int IntKind.i64 m.v, Value.int IntKind.i64 m.n] 82))) => ?main2) ?h2
  case main2 =>
    have HR2 := hd R2
    clear R2 HK2
    by_cases hl : 100 < l0.length
    · obtain ⟨b, off, rfl, hc1, hc2, hI⟩ := some100 HL.out rfl hl
      have hi : (100 : Int) < (l0.length : Int) := by omega
      have HI := hd hI
      clear hI
      go_wp2_with fail
      exact HR2.out _ _ _ _ _ _ _ (by rw [List.length_take]; omega) HI.out
    · have hi : ¬ (100 : Int) < (l0.length : Int) := by omega
      go_wp2_with fail
      exact HR2.out _ _ _ _ _ _ _ (by omega) HL.out
  case h2 =>
    intro v0 u27 u28 u29 u30 u31 L hlen hI
    have HI0 := hd hI
    obtain ⟨va, vc, rfl⟩ := hI.shape
    clear hI HL
    apply HK2.out
    clear HK2
    obtain ⟨N, hN⟩ : ∃ N, N = w.heap.size := ⟨_, rfl⟩
    obtain ⟨W, hW⟩ : ∃ W, W = (w.alloc (Obj.cells #[Value.int IntKind.i64 m.k, Value.int IntKind.i64 m.y, Value.int IntKind.i64 m.v, Value.int IntKind.i64 m.n] 82)) := ⟨_, rfl⟩
    have hsW : W.heap.size = N + 1 := by rw [hW, hN]; simp
    have hbW : Below w.heap.size w W := by rw [hW]; exact (Below.refl _ _).alloc (Nat.le_refl _) _
    have HBW := hd hbW
    have HMO : Hid (Blk W N 82 [.int .i64 m.k, .int .i64 m.y, .int .i64 m.v, .int .i64 m.n]) := by rw [hW, hN]; exact Blk.new w _ _
    have HI := hd (HI0.out.below hbW)
    rw [← hW, ← hN]
    have HN := hd hN
    clear hW hN hbW HI0
    go_wp2_with fail
    refine Calls.mono (laid_is _ (.slice none 0 0) L [] W HI.out ⟨by simp, .inl ⟨rfl, _, _, rfl⟩⟩ hlen) ?_
    rintro e w1 ⟨bs, wn, nn, vb, vpl, hlay, rfl, jb, ja, b1⟩
    obtain ⟨hmay, hlo, hwl, hbl, hens, hrec⟩ := lay_facts hlen hlay
    obtain ⟨ba, bc, rfl, hbc⟩ := JK.shape (k := .u8) (M := 256) (E := 5) jb
    obtain ⟨pa, pc, rfl, hpc⟩ := JK.shape (k := .i64) (M := 9223372036854775808) (E := 3) ja
    rw [List.length_map, hwl] at hpc ja
    have HMAY := hd hmay
    have HLO := hd hlo
    have HWL := hd hwl
    have HENS := hd hens
    have HREC := hd hrec
    have HJB := hd jb
    have HJA := hd ja
    have HB1 := hd b1
    have HMO1 := hd (HMO.out.keep b1)
    have HI1 := hd (HI.out.below b1)
    have hs1 := b1.size
    have HBY := hd (jb_isB jb).1
    rw [List.length_map, hwl]
    clear hmay hlo hwl hens hrec jb ja b1 hlay HMO HI
    go_wp2_with fail
    refine Calls.mono (hof_is _ bs w1 (jb_isB HJB.out)) ?_
    rintro e w2 ⟨⟨_, u2, rfl, hj2⟩ | ⟨hno, _⟩, b2⟩
    case inr => exact absurd HMAY.out hno
    obtain ⟨xa, xc, rfl, hxc⟩ := JK.shape (k := .u8) (M := 256) (E := 5) hj2
    have hhl := hof_len HBY.out HMAY.out
    have hhp : 9 ≤ (hof bs).length := by unfold hof; rw [List.length_append]; have := en_pos (ffr (edg bs)); omega
    have hlds := ldS_hof HBY.out HMAY.out
    unfold edg at hlds
    rw [HLO.out, HWL.out] at hlds
    rw [HLO.out, HWL.out] at hhl
    obtain ⟨ps, hps⟩ : ∃ ps, ps = wn.map pto := ⟨_, rfl⟩
    rw [← hps] at hlds
    have hpsl : ps.length = L.length := by rw [hps, List.length_map, HWL.out]
    have HPS := hd hps
    have HTU : Hid (∀ p d : Nat, p < (hof bs).length → d ≠ 0 → d < 256 → ldS ((hof bs).set p ((hof bs).getD p 0 ^^^ d)) = none) := fun p d hp h0 hd' => by
      have hfit : Fit ((((locs 0 bs).map pto).map hfr) ++ [ffr (edg bs)]) := by
        have h1 : ∀ q ∈ (locs 0 bs).map pto, rf (hfr q) = 0 ∧ (hfr q).Wf := fun q hq => by
          obtain ⟨x, hx, rfl⟩ := List.mem_map.1 hq
          exact hfr_ok HBY.out HMAY.out.1 hx (HMAY.out.2.2 x hx)
        exact (file_ok h1 (ffr_ok HBY.out HMAY.out.1)).1
      have he : hof bs = ens ((((locs 0 bs).map pto).map hfr) ++ [ffr (edg bs)]) := hof_file bs
      rw [he] at hp ⊢
      exact ldS_dirt (turned_notcl hfit hp h0 hd')
    have HHB := hd (jb_isB hj2).1
    have HLD : Hid (∀ w5 x' c', IsB w5 (.slice x' (hof bs).length c') (hof bs) → ∀ (x y : Int) (z : Nat), Calls Try.prog 32 #[.slice x' (hof bs).length c', .agg #[.int .i64 x, .int .i64 y, .int .u32 (z : Int)]] w5 fun e w' => ldP (some ⟨ps, ⟨(L.length : Int), (bs.length : Int), (L.length : Int), Crc.go 0 bs⟩, true, (bs.length : Int)⟩) x y z w5.heap.size e w' ∧ Below w5.heap.size w5 w') := fun w5 x' c' h5 x y z => by
      have := load_is _ (hof bs) x y z w5 h5
      rw [hlds] at this
      exact this
    have HPRI : Hid (∀ w5, IsB w5 (.slice ba bs.length bc) bs → Calls Try.prog 40 #[.slice ba bs.length bc] w5 fun e w' => e = .returned (.agg #[.int .i64 (bs.length : Int), .int .i64 (L.length : Int), .int .u32 (Crc.go 0 bs : Int)]) ∧ Below w5.heap.size w5 w') := fun w5 h5 => by
      have := print_is _ bs w5 h5
      rw [HLO.out, HWL.out] at this
      exact this
    obtain ⟨hb, hhb⟩ : ∃ hb, hb = hof bs := ⟨_, rfl⟩
    rw [← hhb] at hj2 hhl hhp HTU HHB HLD hxc ⊢
    obtain ⟨cg, hcg⟩ : ∃ cg, cg = Crc.go 0 bs := ⟨_, rfl⟩
    rw [← hcg] at HLD HPRI
    have HJH := hd hj2
    have HJB2 := hd (JK.keepAll (k := .u8) (M := 256) (E := 5) HJB.out b2)
    have HJA2 := hd (JK.keepAll (k := .i64) (M := 9223372036854775808) (E := 3) HJA.out b2)
    have HB2 := hd (HB1.out.trans (b2.mono HB1.out.size))
    have HMO2 := hd (HMO1.out.keep b2)
    have HI2 := hd (HI1.out.below b2)
    have hs2 := b2.size
    clear hhb hj2 b2 hlds hps HJB HJA HB1 HMO1 HI1 hcg
    have hhe : ((hb.length : Int) == 0) = false := by rw [beq_eq_false_iff_ne]; omega
    go_wp2_with fail
    refine Calls.mono (HPRI.out _ (jb_isB HJB2.out)) ?_
    rintro e w3 ⟨rfl, b3⟩
    have HJB3 := hd (JK.keepAll (k := .u8) (M := 256) (E := 5) HJB2.out b3)
    have HJA3 := hd (JK.keepAll (k := .i64) (M := 9223372036854775808) (E := 3) HJA2.out b3)
    have HJH3 := hd (JK.keepAll (k := .u8) (M := 256) (E := 5) HJH.out b3)
    have HB3 := hd (HB2.out.trans (b3.mono HB2.out.size))
    have HMO3 := hd (HMO2.out.keep b3)
    have HI3 := hd (HI2.out.below b3)
    have hs3 := b3.size
    clear b3 HJB2 HJA2 HB2 HMO2 HI2 HJH
    go_wp2_with fail
    refine Calls.mono (HLD.out _ _ _ (jb_isB HJH3.out) _ _ _) ?_
    rintro e w4 ⟨hld, b4⟩
    unfold ldP at hld
    simp only at hld
    rcases hld with ⟨hno, _⟩ | ⟨_, u4, rfl, hj4⟩
    · exact absurd ⟨trivial, trivial, trivial⟩ hno
    obtain ⟨qa, qc, rfl, hqc⟩ := hj4.shape
    rw [List.length_map, hpsl] at hj4 hqc ⊢
    have HJP := hd hj4
    have HJB4 := hd (JK.keepAll (k := .u8) (M := 256) (E := 5) HJB3.out b4)
    have HJA4 := hd (JK.keepAll (k := .i64) (M := 9223372036854775808) (E := 3) HJA3.out b4)
    have HJH4 := hd (JK.keepAll (k := .u8) (M := 256) (E := 5) HJH3.out b4)
    have HB4 := hd (HB3.out.trans (b4.mono HB3.out.size))
    have HMO4 := hd (HMO3.out.keep b4)
    have HI4 := hd (HI3.out.below b4)
    have hs4 := b4.size
    clear b4 hj4 HJB3 HJA3 HB3 HMO3 HI3 HJH3
    go_wp2_with fail
    go_loopw [17] (fun i wr => ∃ k : Nat, k ≤ L.length ∧ i = .int .i64 (k : Int) ∧ Below w4.heap.size w4 wr) (fun i _ => L.length - (intOf i).toNat)
    case atStart => exact ⟨0, by omega, rfl, Below.refl _ _⟩
    case round =>
      obtain ⟨k, hk, rfl, hbr⟩ := hrel
      have HBR := hd hbr
      have hsr := hbr.size
      have HJPr := hd (HJP.out.keepAll hbr)
      have HJBr := hd (JK.keepAll (k := .u8) (M := 256) (E := 5) HJB4.out hbr)
      have HJAr := hd (JK.keepAll (k := .i64) (M := 9223372036854775808) (E := 3) HJA4.out hbr)
      have HJHr := hd (JK.keepAll (k := .u8) (M := 256) (E := 5) HJH4.out hbr)
      have HMOr := hd (HMO4.out.keep hbr)
      have HIr := hd (HI4.out.below hbr)
      clear hbr
      by_cases hlt : k < L.length
      · obtain ⟨x, hx⟩ : ∃ x, L[k]? = some x := ⟨_, List.getElem?_eq_getElem hlt⟩
        obtain ⟨hw1, hw2, hw3, hw4⟩ := HIr.out.1 x (List.mem_of_getElem? hx)
        obtain ⟨⟨pat, pln, pf⟩, hlc, hlf⟩ := HREC.out k x hx
        simp only at hlf
        subst hlf
        have hmemL : (pat, pln, ofR (rcQ x.k x.y x.v (k + 1))) ∈ locs 0 bs := by rw [HLO.out]; exact List.mem_of_getElem? hlc
        have hckk := chk_pto HBY.out hmemL (HMAY.out.2.2 _ hmemL)
        have hpk : ps[k]? = some (pto (pat, pln, ofR (rcQ x.k x.y x.v (k + 1)))) := by rw [HPS.out, List.getElem?_map, hlc]; rfl
        have hpl : (wn.map fun x => x.1).getD k 0 = pat := by rw [List.getD_eq_getElem?_getD, List.getElem?_map, hlc]; rfl
        have hmr := (rcQ_may x.k x.y x.v (n := k + 1) (by omega) (by omega)).1
        have HRO := hd (fun W : World => recordOf_eq x.k x.y x.v x.n (k + 1) W hw1 hw2 hw3)
        obtain ⟨b, off, he1, hbl4, hop⟩ : ∃ b off, va = some ⟨b, off, none⟩ ∧ b < wr.heap.size ∧ ∀ j u, (wcl x)[j]? = some u → wr.cell? ⟨b, off + k * 4 + j, none⟩ = some u := by
          rcases HIr.out.2 with ⟨e, _⟩ | ⟨b, off, c, he, hlc, hcm, hb, hop⟩
          · rw [e] at hlt; simp at hlt
          · injection he with he1 he2 he3
            exact ⟨b, off, he1, hb, hop k x hx⟩
        subst he1
        have d0 : wr.cell? ⟨b, off + k * 4, none⟩ = some (.int .i64 x.k) := hop 0 _ rfl
        have d1 : wr.cell? ⟨b, off + k * 4 + 1, none⟩ = some (.int .i64 x.y) := hop 1 _ rfl
        have d2 : wr.cell? ⟨b, off + k * 4 + 2, none⟩ = some (.int .i64 x.v) := hop 2 _ rfl
        have d3 : wr.cell? ⟨b, off + k * 4 + 3, none⟩ = some (.int .i64 x.n) := hop 3 _ rfl
        clear hop hx hmemL hlc hw1 hw2 hw3 hw4
        generalize rcQ x.k x.y x.v (k + 1) = R at HRO hmr hckk hpk
        obtain ⟨rl, rk, rkey, rval⟩ := R
        simp only at hmr HRO
        subst hmr
        rw [Int.natCast_add, show ((1 : Nat) : Int) = 1 from rfl] at HRO
        have hpk2 : ps[k]? = some ⟨k + 1, rk, (pat : Int), (pln : Int), rkey⟩ := hpk
        have HCK : Hid (∀ wx, IsB wx (.slice ba bs.length bc) bs → Calls Try.prog 41 #[.slice ba bs.length bc, .agg #[.int .u64 ((k : Int) + 1), .int .i64 rk, .int .i64 (pat : Int), .int .i64 (pln : Int), .string rkey]] wx fun e w' => e = .returned (.bool true) ∧ Below wx.heap.size wx w') := fun wx hx => by
          have := check_is _ bs (pto (pat, pln, ofR ⟨k + 1, rk, rkey, rval⟩)) wx hx
          rw [hckk] at this
          exact this
        have hrow : (ps.map pvl)[k]? = some [.int .u64 ((k : Int) + 1), .int .i64 rk, .int .i64 (pat : Int), .int .i64 (pln : Int), .string rkey] := by rw [List.getElem?_map, hpk2]; rfl
        have HROW := hd hrow
        obtain ⟨g, cu', he, hcu1, hcu2⟩ := HJPr.out.nn (by intro e; rw [e] at hrow; simp at hrow)
        injection he with he1 he2 he3
        subst he1
        have hgl : g < wr.heap.size := HJPr.out.blk_lt g rfl
        have ha1 : ∃ pb po, pa = some ⟨pb, po, none⟩ ∧ pb < wr.heap.size ∧ wr.cell? ⟨pb, po + k, none⟩ = some (.int .i64 (pat : Int)) := by
          obtain ⟨_, _, ⟨e, _⟩ | ⟨pb, po, pc2, e, _, _, hpb, hrw⟩⟩ := JK.isK (k := .i64) (M := 9223372036854775808) (E := 3) HJAr.out
          · have := congrArg List.length e; rw [List.length_map, HWL.out, List.length_nil] at this; omega
          · injection e with e1 e2 e3
            exact ⟨pb, po, e1, hpb, by have := hrw k (by rw [List.length_map, HWL.out]; exact hlt); rw [hpl] at this; exact this⟩
        obtain ⟨pb, po, rfl, hpb, hpcell⟩ := ha1
        clear hrow hpk hpk2 hpl hckk he2 he3
        have HP0 := hd hpcell
        clear hpcell
        go_wp2_with fail
        refine Calls.mono (HRO.out _) ?_
        rintro e w5 ⟨rfl, b5⟩
        have HB5 := hd (HBR.out.trans (b5.mono hsr))
        have hs5 := b5.size
        have HJP5 := HJPr.out.keepAll b5
        have HJB5 := hd (JK.keepAll (k := .u8) (M := 256) (E := 5) HJBr.out b5)
        have p0 := HJP5.at k _ 0 _ HROW.out rfl
        have p1 := HJP5.at k _ 1 _ HROW.out rfl
        have p2 := HJP5.at k _ 2 _ HROW.out rfl
        have p3 := HJP5.at k _ 3 _ HROW.out rfl
        have p4 := HJP5.at k _ 4 _ HROW.out rfl
        rw [Nat.add_zero] at p0
        have hp5 : w5.cell? ⟨pb, po + k, none⟩ = some (.int .i64 (pat : Int)) := (b5.cell (p := ⟨pb, po + k, none⟩) hpb).trans HP0.out
        have hg5 : g < w5.heap.size := by omega
        have hg6 : g ≠ w5.heap.size := by omega
        have hg7 : w5.heap.size ≠ g := by omega
        have hq5 : pb < w5.heap.size := by omega
        have hq6 : pb ≠ w5.heap.size := by omega
        have hq7 : w5.heap.size ≠ pb := by omega
        clear HJP5 b5 d0 d1 d2 d3 HRO HIr
        have HPP := hd (And.intro p0 (And.intro p1 (And.intro p2 (And.intro p3 (And.intro p4 hp5)))))
        go_wp2_with fail
        clear p0 p1 p2 p3 p4 hp5
        obtain ⟨W6, hW6⟩ : ∃ W6, W6 = w5.alloc (.cells #[.int .u64 ((k : Int) + 1), .int .i64 rk, .string rkey, .string rval] 32) := ⟨_, rfl⟩
        have hb6 : Below w5.heap.size w5 W6 := by rw [hW6]; exact (Below.refl _ _).alloc (Nat.le_refl _) _
        obtain ⟨B6, hB6⟩ : ∃ B6, B6 = w5.heap.size := ⟨_, rfl⟩
        have HR6 : Hid (Blk W6 B6 32 [.int .u64 ((k : Int) + 1), .int .i64 rk, .string rkey, .string rval]) := by rw [hW6, hB6]; exact Blk.new w5 _ _
        rw [← hW6, ← hB6]
        refine Calls.mono (HCK.out _ (jb_isB (JK.keepAll (k := .u8) (M := 256) (E := 5) HJB5.out hb6))) ?_
        rintro e w7 ⟨rfl, b7⟩
        have hb7 := hb6.trans (b7.mono hb6.size)
        have HR7 := HR6.out.keep b7
        obtain ⟨y0, y1, y2, y3, y4, y5⟩ := HPP.out
        have p0 : w7.cell? ⟨g, k * 5, none⟩ = some (.int .u64 ((k : Int) + 1)) := (hb7.cell (p := ⟨g, k * 5, none⟩) hg5).trans y0
        have p1 : w7.cell? ⟨g, k * 5 + 1, none⟩ = some (.int .i64 rk) := (hb7.cell (p := ⟨g, k * 5 + 1, none⟩) hg5).trans y1
        have p2 : w7.cell? ⟨g, k * 5 + 2, none⟩ = some (.int .i64 (pat : Int)) := (hb7.cell (p := ⟨g, k * 5 + 2, none⟩) hg5).trans y2
        have p4 : w7.cell? ⟨g, k * 5 + 4, none⟩ = some (.string rkey) := (hb7.cell (p := ⟨g, k * 5 + 4, none⟩) hg5).trans y4
        have p5 : w7.cell? ⟨pb, po + k, none⟩ = some (.int .i64 (pat : Int)) := (hb7.cell (p := ⟨pb, po + k, none⟩) hq5).trans y5
        have r0 := HR7.cell 0 _ rfl
        have r1 := HR7.cell 1 _ rfl
        have r2 := HR7.cell 2 _ rfl
        have HB7 := hd (HB5.out.trans (hb7.mono (by omega)))
        clear y0 y1 y2 y3 y4 y5 hb7 b7 hb6 HR7 HR6 HB5 HPP HCK hW6 hB6 HJB5 hg6 hg7 hq6 hq7
        go_wp2_with fail
        go_quiet (fail)
        go_wp2_with fail
        go_roundw
        case rel => exact ⟨k + 1, by omega, by go_num, by first | exact HB7.out | exact ⟨HB7.out.os, HB7.out.tape, HB7.out.output, HB7.out.size, HB7.out.block⟩⟩
        case measure => simp [intOf]; omega
      · obtain rfl : k = L.length := by omega
        have m0 := HMOr.out.cell 0 _ rfl
        have m1 := HMOr.out.cell 1 _ rfl
        have m2 := HMOr.out.cell 2 _ rfl
        have m3 := HMOr.out.cell 3 _ rfl
        have HRO : Hid (∀ W : World, Calls Try.prog 37 #[.agg #[.int .i64 m.k, .int .i64 m.y, .int .i64 m.v, .int .i64 m.n], .int .u64 77] W fun e w' => e = .returned (.agg #[.int .u64 77, .int .i64 (rcQ m.k m.y m.v 77).kind, .string (rcQ m.k m.y m.v 77).key, .string (rcQ m.k m.y m.v 77).val]) ∧ Below W.heap.size W w') := fun W => recordOf_eq m.k m.y m.v m.n 77 W HM.out.1 HM.out.2.1 HM.out.2.2.1
        obtain ⟨hy1, hy2, hy3, hy4⟩ := rcQ_may m.k m.y m.v (n := 77) (by omega) (by omega)
        have HFR : Hid (∀ W : World, Calls Try.prog 43 #[.agg #[.int .u64 77, .int .i64 (rcQ m.k m.y m.v 77).kind, .string (rcQ m.k m.y m.v 77).key, .string (rcQ m.k m.y m.v 77).val]] W fun e w' => ∃ u, e = .returned u ∧ JB w' W.heap.size u (en (ofR (rcQ m.k m.y m.v 77))) ∧ Below W.heap.size W w') := fun W => by
          have := framed_is (rcQ m.k m.y m.v 77) W hy2 hy3
          rw [hy1] at this
          exact this
        have hE2 : (en (ofR (rcQ m.k m.y m.v 77))).length ≤ 1500 := by
          have e1 := en_len (ofR (rcQ m.k m.y m.v 77))
          have e2 := wr_len (bd (ofR (rcQ m.k m.y m.v 77)))
          omega
        have hE1 := en_pos (ofR (rcQ m.k m.y m.v 77))
        have HLC : Hid ((locs 0 (bs ++ en (ofR (rcQ m.k m.y m.v 77)))).length = L.length + 1) := by
          show _ = _
          have hfit : Fit (frs L ++ [ofR (rcQ m.k m.y m.v 77)]) := fun f hf => by
            rcases List.mem_append.1 hf with hf | hf
            · exact frs_fit L (by omega) f hf
            · rw [List.mem_singleton.1 hf]; exact ⟨hy2, hy3⟩
          rw [HENS.out, ← ens_snoc]
          have := locs_ens hfit (r := []) byt_nil 0
          rw [List.append_nil, locs_nil, List.append_nil] at this
          rw [this]
          have h2 := congrArg List.length (plf_frames (frs L ++ [ofR (rcQ m.k m.y m.v 77)]) 0)
          rw [List.length_map, List.length_append, frs_len] at h2
          exact h2
        generalize (rcQ m.k m.y m.v 77).kind = rk at HRO HFR
        generalize (rcQ m.k m.y m.v 77).key = rkey at HRO HFR
        generalize (rcQ m.k m.y m.v 77).val = rval at HRO HFR
        generalize en (ofR (rcQ m.k m.y m.v 77)) = EN at HFR hE1 hE2 HLC
        clear hy1 hy2 hy3 hy4
        go_wp2_with fail
        refine Calls.mono (HRO.out _) ?_
        rintro e w5 ⟨rfl, b5⟩
        have HB5 := hd (HBR.out.trans (b5.mono hsr))
        have hs5 := b5.size
        have HJB5 := hd (JK.keepAll (k := .u8) (M := 256) (E := 5) HJBr.out b5)
        have HJH5 := hd (JK.keepAll (k := .u8) (M := 256) (E := 5) HJHr.out b5)
        clear b5 m0 m1 m2 m3 HRO
        go_wp2_with fail
        refine Calls.mono (HFR.out _) ?_
        rintro e w6 ⟨u6, rfl, j6, b6⟩
        obtain ⟨ea, ec, rfl, hec⟩ := JK.shape (k := .u8) (M := 256) (E := 5) j6
        have HB6 := hd (HB5.out.trans (b6.mono (by omega)))
        have hs6 := b6.size
        have HX6 := hd j6
        have HJB6 := hd (JK.keepAll (k := .u8) (M := 256) (E := 5) HJB5.out b6)
        have HJH6 := hd (JK.keepAll (k := .u8) (M := 256) (E := 5) HJH5.out b6)
        clear j6 b6 HFR HJB5 HJH5 HB5
        go_wp2_with fail
        refine Calls.mono (joined_is _ _ bs EN w6 (jb_isB HJB6.out) (jb_isB HX6.out) (by omega)) ?_
        rintro e w7 ⟨u7, rfl, j7, b7⟩
        obtain ⟨ca, cc, rfl, hcc⟩ := JK.shape (k := .u8) (M := 256) (E := 5) j7
        have HB7 := hd (HB6.out.trans (b7.mono (by omega)))
        have hs7 := b7.size
        have HC7 := hd j7
        have HJB7 := hd (JK.keepAll (k := .u8) (M := 256) (E := 5) HJB6.out b7)
        have HJH7 := hd (JK.keepAll (k := .u8) (M := 256) (E := 5) HJH6.out b7)
        rw [List.length_append] at HC7 hcc ⊢
        clear j7 b7 HX6 HJB6 HJH6 HB6
        have HPC : Hid (Calls Try.prog 40 #[.slice ca (bs.length + EN.length) cc] w7 fun e w' => e = .returned (.agg #[.int .i64 (((bs.length + EN.length : Nat)) : Int), .int .i64 ((L.length + 1 : Nat) : Int), .int .u32 (Crc.go 0 (bs ++ EN) : Int)]) ∧ Below w7.heap.size w7 w') := by
          have := print_is _ (bs ++ EN) w7 (jb_isB HC7.out)
          rw [HLC.out, List.length_append] at this
          exact this
        obtain ⟨cg2, hcg2⟩ : ∃ cg2, cg2 = Crc.go 0 (bs ++ EN) := ⟨_, rfl⟩
        rw [← hcg2] at HPC
        have HCG := hd hcg2
        clear hcg2
        go_wp2_with fail
        refine Calls.mono HPC.out ?_
        rintro e w8 ⟨rfl, b8⟩
        have HB8 := hd (HB7.out.trans (b8.mono (by omega)))
        have hs8 := b8.size
        have HC8 := hd (JK.keepAll (k := .u8) (M := 256) (E := 5) HC7.out b8)
        have HJB8 := hd (JK.keepAll (k := .u8) (M := 256) (E := 5) HJB7.out b8)
        have HJH8 := hd (JK.keepAll (k := .u8) (M := 256) (E := 5) HJH7.out b8)
        clear b8 HPC HC7 HJB7 HJH7 HB7
        go_wp2_with fail
        obtain ⟨W9, hW9⟩ : ∃ W9, W9 = w8.alloc (.cells #[.int .i64 ((bs.length : Int) + (EN.length : Int)), .int .i64 ((L.length : Int) + 1), .int .u32 (cg2 : Int)] 37) := ⟨_, rfl⟩
        have hb9 : Below w8.heap.size w8 W9 := by rw [hW9]; exact (Below.refl _ _).alloc (Nat.le_refl _) _
        obtain ⟨B9, hB9⟩ : ∃ B9, B9 = w8.heap.size := ⟨_, rfl⟩
        have HP9 : Hid (Blk W9 B9 37 [.int .i64 ((bs.length : Int) + (EN.length : Int)), .int .i64 ((L.length : Int) + 1), .int .u32 (cg2 : Int)]) := by rw [hW9, hB9]; exact Blk.new w8 _ _
        rw [← hW9, ← hB9]
        refine Calls.mono (HLD.out W9 xa xc (jb_isB (JK.keepAll (k := .u8) (M := 256) (E := 5) HJH8.out hb9)) _ _ cg2) ?_
        rintro e w10 ⟨hld, b10⟩
        unfold ldP at hld
        simp only at hld
        rcases hld with ⟨_, rfl⟩ | ⟨⟨hno, _⟩, _⟩
        case inr => exfalso; omega
        have hb10 := hb9.trans (b10.mono hb9.size)
        have HB10 := hd (HB8.out.trans (hb10.mono (by omega)))
        have hs10 := hb10.size
        have HC10 := hd (JK.keepAll (k := .u8) (M := 256) (E := 5) HC8.out hb10)
        have HJB10 := hd (JK.keepAll (k := .u8) (M := 256) (E := 5) HJB8.out hb10)
        have HJH10 := hd (JK.keepAll (k := .u8) (M := 256) (E := 5) HJH8.out hb10)
        have HP10 := HP9.out.keep b10
        have q0 := HP10.cell 0 _ rfl
        have q1 := HP10.cell 1 _ rfl
        have q2 := HP10.cell 2 _ rfl
        have hB10 := HP10.lt
        clear hb9 b10 hb10 HP9 HC8 HJB8 HJH8 HB8 hW9 hB9 HP10
        have HWRL : Hid (IntKind.i64.wrap ((L.length : Int) + 1) = (L.length : Int) + 1) := by
          have key : ∀ q : Fin 101, IntKind.i64.wrap (((q.1 : Nat) : Int) + 1) = ((q.1 : Nat) : Int) + 1 := by decide
          exact key ⟨L.length, by omega⟩
        have HSU : Hid (∀ (U : World) (g : Nat), Below w10.heap.size w10 U → g < U.heap.size → U.cell? ⟨g, 0, none⟩ = some (.slice ca (bs.length + EN.length) cc) → Calls Try.prog 44 #[.slice (some ⟨g, 0, none⟩) 1 1] U fun e w' => e = .returned (.int .u32 (cg2 : Int)) ∧ Below U.heap.size U w') := fun U g hU hg hc => by
          have := sum_atS U g _ (bs ++ EN) hc hg (jb_isB (JK.keepAll (k := .u8) (M := 256) (E := 5) HC10.out hU))
          rw [HCG.out]
          exact this
        go_wp2_with fail
        refine region_skip (fun i9 v9 ww => match i9 with
          | 0 => v9 = .int .i64 3
          | 1 => v9 = .bool false
          | 2 => v9 = .bool false
          | 3 => v9 = Value.slice none 0 0
          | 4 => v9 = .int .i64 0
          | 5 => v9 = .bool false
          | 6 => v9 = .bool false
          | 7 => v9 = .bool false
          | 8 => v9 = .pointer (some ⟨B9, 0, none⟩)
          | 9 => v9 = .int .i64 ((bs.length : Int) + (EN.length : Int))
          | 10 => v9 = Value.slice ca (bs.length + EN.length) cc
          | 11 => v9 = .int .i64 ((bs.length : Int) + (EN.length : Int))
          | 12 => v9 = .bool false
          | 13 => v9 = .bool false
          | 14 => v9 = .bool false
          | 15 => v9 = .pointer (some ⟨B9, 1, none⟩)
          | 16 => v9 = .int .i64 ((L.length : Int) + 1)
          | 17 => v9 = Value.slice va L.length vc
          | 18 => v9 = .int .i64 (L.length : Int)
          | 19 => v9 = .int .i64 ((L.length : Int) + 1)
          | 20 => v9 = .bool false
          | 21 => v9 = .bool false
          | 22 => v9 = .bool false
          | 23 => v9 = .pointer (some ⟨B9, 2, none⟩)
          | 24 => v9 = .int .u32 (cg2 : Int)
          | 25 => v9 = Value.slice ca (bs.length + EN.length) cc
          | 26 => ∃ g, v9 = .slice (some ⟨g, 0, none⟩) 1 1 ∧ g < ww.heap.size ∧ ww.cell? ⟨g, 0, none⟩ = some (.slice ca (bs.length + EN.length) cc)
          | 27 => v9 = .int .u32 (cg2 : Int)
          | 28 => v9 = .bool false
          | _ => v9 = .bool false) (fun w => Below w10.heap.size w10 w) hmx (by kernel_rfl) (by kernel_rfl) ((Below.refl _ _).drew) ?_ ?_ ?_
        · intro i9 v9 w8 w9 _ _ hb hG
          match i9, hG with
          | 0, h => exact h
          | 1, h => exact h
          | 2, h => exact h
          | 3, h => exact h
          | 4, h => exact h
          | 5, h => exact h
          | 6, h => exact h
          | 7, h => exact h
          | 8, h => exact h
          | 9, h => exact h
          | 10, h => exact h
          | 11, h => exact h
          | 12, h => exact h
          | 13, h => exact h
          | 14, h => exact h
          | 15, h => exact h
          | 16, h => exact h
          | 17, h => exact h
          | 18, h => exact h
          | 19, h => exact h
          | 20, h => exact h
          | 21, h => exact h
          | 22, h => exact h
          | 23, h => exact h
          | 24, h => exact h
          | 25, h => exact h
          | 26, h => obtain ⟨g, h1, h2, h3⟩ := h; exact ⟨g, h1, Nat.lt_of_lt_of_le h2 hb.size, (hb.cell (p := ⟨g, 0, none⟩) h2).trans h3⟩
          | 27, h => exact h
          | 28, h => exact h
          | n + 29, h => exact h
        · intro i9 o9 ho a9 w9 hW hdf hsz hout haf
          have ee0 := getq (show a9.tmps.getD 0 undef = Value.slice va L.length vc from hout 0 (notDst_spec (by kernel_rfl)))
          have ee20 := getq (show a9.tmps.getD 20 undef = Value.slice ca (bs.length + EN.length) cc from hout 20 (notDst_spec (by kernel_rfl)))
          have ee21 := getq (show a9.tmps.getD 21 undef = Value.pointer (some { block := B9, off := 0 }) from hout 21 (notDst_spec (by kernel_rfl)))
          have ee22 := getq (show a9.tmps.getD 22 undef = Value.slice none 0 0 from hout 22 (notDst_spec (by kernel_rfl)))
          have ee23 := getq (show a9.tmps.getD 23 undef = Value.int IntKind.i64 3 from hout 23 (notDst_spec (by kernel_rfl)))
          have hsz2 : a9.tmps.size = 207 := hsz
          clear hout hsz hdf
          match i9, ho, haf with
          | 0, ho, haf =>
            obtain rfl := Option.some.inj ho
            refine skip_good _ (wanted_none rfl) ?_
            clear haf ho hsz2
            intro K hK
            simp only [List.getElem_toArray, List.getElem_cons_zero] at hK ⊢
            go_simp
            exact hK _ _ ⟨Below.refl _ _, hW, rfl⟩
          | 1, ho, haf =>
            obtain rfl := Option.some.inj ho
            have f0 := getq (show a9.tmps.getD 148 undef = .int .i64 3 from haf ⟨0, .data⟩ (by simp) rfl)
            refine skip_good _ (wanted_none rfl) ?_
            clear haf ho hsz2
            intro K hK
            simp only [List.getElem_toArray, List.getElem_cons_succ, List.getElem_cons_zero] at hK ⊢
            go_simp
            exact hK _ _ ⟨Below.refl _ _, hW, rfl⟩
          | 2, ho, haf =>
            obtain rfl := Option.some.inj ho
            have f1 := getq (show a9.tmps.getD 149 undef = .bool false from haf ⟨1, .data⟩ (by simp) rfl)
            refine skip_good _ (wanted_none rfl) ?_
            clear haf ho hsz2
            intro K hK
            simp only [List.getElem_toArray, List.getElem_cons_succ, List.getElem_cons_zero] at hK ⊢
            go_simp
            exact hK _ _ ⟨Below.refl _ _, hW, rfl⟩
          | 3, ho, haf =>
            obtain rfl := Option.some.inj ho
            have gg : a9.tmps.getD 150 undef = .bool false := haf ⟨2, .guard⟩ (by simp) rfl
            refine skip_good _ (wanted_some rfl (yielded_of (d := 150) rfl (by omega) gg)) ?_
            clear haf ho hsz2 gg
            intro K hK
            simp only [List.getElem_toArray, List.getElem_cons_succ, List.getElem_cons_zero] at hK ⊢
            go_simp
            exact hK _ _ ⟨Below.refl _ _, hW, rfl⟩
          | 4, ho, haf =>
            obtain rfl := Option.some.inj ho
            have gg : a9.tmps.getD 150 undef = .bool false := haf ⟨2, .guard⟩ (by simp) rfl
            have f3 := getq (show a9.tmps.getD 151 undef = Value.slice none 0 0 from haf ⟨3, .data⟩ (by simp) rfl)
            refine skip_good _ (wanted_some rfl (yielded_of (d := 150) rfl (by omega) gg)) ?_
            clear haf ho hsz2 gg
            intro K hK
            simp only [List.getElem_toArray, List.getElem_cons_succ, List.getElem_cons_zero] at hK ⊢
            go_simp
            exact hK _ _ ⟨Below.refl _ _, hW, rfl⟩
          | 5, ho, haf =>
            obtain rfl := Option.some.inj ho
            have gg : a9.tmps.getD 150 undef = .bool false := haf ⟨2, .guard⟩ (by simp) rfl
            have f4 := getq (show a9.tmps.getD 152 undef = .int .i64 0 from haf ⟨4, .data⟩ (by simp) rfl)
            refine skip_good _ (wanted_some rfl (yielded_of (d := 150) rfl (by omega) gg)) ?_
            clear haf ho hsz2 gg
            intro K hK
            simp only [List.getElem_toArray, List.getElem_cons_succ, List.getElem_cons_zero] at hK ⊢
            go_simp
            exact hK _ _ ⟨Below.refl _ _, hW, rfl⟩
          | 6, ho, haf =>
            obtain rfl := Option.some.inj ho
            have f2 := getq (show a9.tmps.getD 150 undef = .bool false from haf ⟨2, .data⟩ (by simp) rfl)
            have f5 := getq (show a9.tmps.getD 153 undef = .bool false from haf ⟨5, .data⟩ (by simp) rfl)
            refine skip_good _ (wanted_none rfl) ?_
            clear haf ho hsz2
            intro K hK
            simp only [List.getElem_toArray, List.getElem_cons_succ, List.getElem_cons_zero] at hK ⊢
            go_simp
            exact hK _ _ ⟨Below.refl _ _, hW, rfl⟩
          | 7, ho, haf =>
            obtain rfl := Option.some.inj ho
            have f6 := getq (show a9.tmps.getD 154 undef = .bool false from haf ⟨6, .data⟩ (by simp) rfl)
            refine skip_good _ (wanted_none rfl) ?_
            clear haf ho hsz2
            intro K hK
            simp only [List.getElem_toArray, List.getElem_cons_succ, List.getElem_cons_zero] at hK ⊢
            go_simp
            exact hK _ _ ⟨Below.refl _ _, hW, rfl⟩
          | 8, ho, haf =>
            obtain rfl := Option.some.inj ho
            have gg : a9.tmps.getD 155 undef = .bool false := haf ⟨7, .guard⟩ (by simp) rfl
            refine skip_good _ (wanted_some rfl (yielded_of (d := 155) rfl (by omega) gg)) ?_
            clear haf ho hsz2 gg
            intro K hK
            simp only [List.getElem_toArray, List.getElem_cons_succ, List.getElem_cons_zero] at hK ⊢
            go_simp
            exact hK _ _ ⟨Below.refl _ _, hW, rfl⟩
          | 9, ho, haf =>
            obtain rfl := Option.some.inj ho
            have gg : a9.tmps.getD 155 undef = .bool false := haf ⟨7, .guard⟩ (by simp) rfl
            have f8 := getq (show a9.tmps.getD 156 undef = .pointer (some ⟨B9, 0, none⟩) from haf ⟨8, .data⟩ (by simp) rfl)
            refine skip_good _ (wanted_some rfl (yielded_of (d := 155) rfl (by omega) gg)) ?_
            clear haf ho hsz2 gg
            intro K hK
            simp only [List.getElem_toArray, List.getElem_cons_succ, List.getElem_cons_zero] at hK ⊢
            have qq := (hW.cell (p := ⟨B9, 0, none⟩) hB10).trans q0
            go_simp
            exact hK _ _ ⟨Below.refl _ _, hW, rfl⟩
          | 10, ho, haf =>
            obtain rfl := Option.some.inj ho
            have gg : a9.tmps.getD 155 undef = .bool false := haf ⟨7, .guard⟩ (by simp) rfl
            refine skip_good _ (wanted_some rfl (yielded_of (d := 155) rfl (by omega) gg)) ?_
            clear haf ho hsz2 gg
            intro K hK
            simp only [List.getElem_toArray, List.getElem_cons_succ, List.getElem_cons_zero] at hK ⊢
            go_simp
            exact hK _ _ ⟨Below.refl _ _, hW, rfl⟩
          | 11, ho, haf =>
            obtain rfl := Option.some.inj ho
            have gg : a9.tmps.getD 155 undef = .bool false := haf ⟨7, .guard⟩ (by simp) rfl
            have f10 := getq (show a9.tmps.getD 158 undef = Value.slice ca (bs.length + EN.length) cc from haf ⟨10, .data⟩ (by simp) rfl)
            refine skip_good _ (wanted_some rfl (yielded_of (d := 155) rfl (by omega) gg)) ?_
            clear haf ho hsz2 gg
            intro K hK
            simp only [List.getElem_toArray, List.getElem_cons_succ, List.getElem_cons_zero] at hK ⊢
            go_simp
            exact hK _ _ ⟨Below.refl _ _, hW, rfl⟩
          | 12, ho, haf =>
            obtain rfl := Option.some.inj ho
            have gg : a9.tmps.getD 155 undef = .bool false := haf ⟨7, .guard⟩ (by simp) rfl
            have f9 := getq (show a9.tmps.getD 157 undef = .int .i64 ((bs.length : Int) + (EN.length : Int)) from haf ⟨9, .data⟩ (by simp) rfl)
            have f11 := getq (show a9.tmps.getD 159 undef = .int .i64 ((bs.length : Int) + (EN.length : Int)) from haf ⟨11, .data⟩ (by simp) rfl)
            refine skip_good _ (wanted_some rfl (yielded_of (d := 155) rfl (by omega) gg)) ?_
            clear haf ho hsz2 gg
            intro K hK
            simp only [List.getElem_toArray, List.getElem_cons_succ, List.getElem_cons_zero] at hK ⊢
            go_simp
            exact hK _ _ ⟨Below.refl _ _, hW, rfl⟩
          | 13, ho, haf =>
            obtain rfl := Option.some.inj ho
            have f7 := getq (show a9.tmps.getD 155 undef = .bool false from haf ⟨7, .data⟩ (by simp) rfl)
            have f12 := getq (show a9.tmps.getD 160 undef = .bool false from haf ⟨12, .data⟩ (by simp) rfl)
            refine skip_good _ (wanted_none rfl) ?_
            clear haf ho hsz2
            intro K hK
            simp only [List.getElem_toArray, List.getElem_cons_succ, List.getElem_cons_zero] at hK ⊢
            go_simp
            exact hK _ _ ⟨Below.refl _ _, hW, rfl⟩
          | 14, ho, haf =>
            obtain rfl := Option.some.inj ho
            have f13 := getq (show a9.tmps.getD 161 undef = .bool false from haf ⟨13, .data⟩ (by simp) rfl)
            refine skip_good _ (wanted_none rfl) ?_
            clear haf ho hsz2
            intro K hK
            simp only [List.getElem_toArray, List.getElem_cons_succ, List.getElem_cons_zero] at hK ⊢
            go_simp
            exact hK _ _ ⟨Below.refl _ _, hW, rfl⟩
          | 15, ho, haf =>
            obtain rfl := Option.some.inj ho
            have gg : a9.tmps.getD 162 undef = .bool false := haf ⟨14, .guard⟩ (by simp) rfl
            refine skip_good _ (wanted_some rfl (yielded_of (d := 162) rfl (by omega) gg)) ?_
            clear haf ho hsz2 gg
            intro K hK
            simp only [List.getElem_toArray, List.getElem_cons_succ, List.getElem_cons_zero] at hK ⊢
            go_simp
            exact hK _ _ ⟨Below.refl _ _, hW, rfl⟩
          | 16, ho, haf =>
            obtain rfl := Option.some.inj ho
            have gg : a9.tmps.getD 162 undef = .bool false := haf ⟨14, .guard⟩ (by simp) rfl
            have f15 := getq (show a9.tmps.getD 163 undef = .pointer (some ⟨B9, 1, none⟩) from haf ⟨15, .data⟩ (by simp) rfl)
            refine skip_good _ (wanted_some rfl (yielded_of (d := 162) rfl (by omega) gg)) ?_
            clear haf ho hsz2 gg
            intro K hK
            simp only [List.getElem_toArray, List.getElem_cons_succ, List.getElem_cons_zero] at hK ⊢
            have qq := (hW.cell (p := ⟨B9, 1, none⟩) hB10).trans q1
            go_simp
            exact hK _ _ ⟨Below.refl _ _, hW, rfl⟩
          | 17, ho, haf =>
            obtain rfl := Option.some.inj ho
            have gg : a9.tmps.getD 162 undef = .bool false := haf ⟨14, .guard⟩ (by simp) rfl
            refine skip_good _ (wanted_some rfl (yielded_of (d := 162) rfl (by omega) gg)) ?_
            clear haf ho hsz2 gg
            intro K hK
            simp only [List.getElem_toArray, List.getElem_cons_succ, List.getElem_cons_zero] at hK ⊢
            go_simp
            exact hK _ _ ⟨Below.refl _ _, hW, rfl⟩
          | 18, ho, haf =>
            obtain rfl := Option.some.inj ho
            have gg : a9.tmps.getD 162 undef = .bool false := haf ⟨14, .guard⟩ (by simp) rfl
            have f17 := getq (show a9.tmps.getD 165 undef = Value.slice va L.length vc from haf ⟨17, .data⟩ (by simp) rfl)
            refine skip_good _ (wanted_some rfl (yielded_of (d := 162) rfl (by omega) gg)) ?_
            clear haf ho hsz2 gg
            intro K hK
            simp only [List.getElem_toArray, List.getElem_cons_succ, List.getElem_cons_zero] at hK ⊢
            go_simp
            exact hK _ _ ⟨Below.refl _ _, hW, rfl⟩
          | 19, ho, haf =>
            obtain rfl := Option.some.inj ho
            have gg : a9.tmps.getD 162 undef = .bool false := haf ⟨14, .guard⟩ (by simp) rfl
            have f18 := getq (show a9.tmps.getD 166 undef = .int .i64 (L.length : Int) from haf ⟨18, .data⟩ (by simp) rfl)
            refine skip_good _ (wanted_some rfl (yielded_of (d := 162) rfl (by omega) gg)) ?_
            clear haf ho hsz2 gg
            intro K hK
            simp only [List.getElem_toArray, List.getElem_cons_succ, List.getElem_cons_zero] at hK ⊢
            go_simp
            rw [HWRL.out]
            exact hK _ _ ⟨Below.refl _ _, hW, rfl⟩
          | 20, ho, haf =>
            obtain rfl := Option.some.inj ho
            have gg : a9.tmps.getD 162 undef = .bool false := haf ⟨14, .guard⟩ (by simp) rfl
            have f16 := getq (show a9.tmps.getD 164 undef = .int .i64 ((L.length : Int) + 1) from haf ⟨16, .data⟩ (by simp) rfl)
            have f19 := getq (show a9.tmps.getD 167 undef = .int .i64 ((L.length : Int) + 1) from haf ⟨19, .data⟩ (by simp) rfl)
            refine skip_good _ (wanted_some rfl (yielded_of (d := 162) rfl (by omega) gg)) ?_
            clear haf ho hsz2 gg
            intro K hK
            simp only [List.getElem_toArray, List.getElem_cons_succ, List.getElem_cons_zero] at hK ⊢
            go_simp
            exact hK _ _ ⟨Below.refl _ _, hW, rfl⟩
          | 21, ho, haf =>
            obtain rfl := Option.some.inj ho
            have f14 := getq (show a9.tmps.getD 162 undef = .bool false from haf ⟨14, .data⟩ (by simp) rfl)
            have f20 := getq (show a9.tmps.getD 168 undef = .bool false from haf ⟨20, .data⟩ (by simp) rfl)
            refine skip_good _ (wanted_none rfl) ?_
            clear haf ho hsz2
            intro K hK
            simp only [List.getElem_toArray, List.getElem_cons_succ, List.getElem_cons_zero] at hK ⊢
            go_simp
            exact hK _ _ ⟨Below.refl _ _, hW, rfl⟩
          | 22, ho, haf =>
            obtain rfl := Option.some.inj ho
            have f21 := getq (show a9.tmps.getD 169 undef = .bool false from haf ⟨21, .data⟩ (by simp) rfl)
            refine skip_good _ (wanted_none rfl) ?_
            clear haf ho hsz2
            intro K hK
            simp only [List.getElem_toArray, List.getElem_cons_succ, List.getElem_cons_zero] at hK ⊢
            go_simp
            exact hK _ _ ⟨Below.refl _ _, hW, rfl⟩
          | 23, ho, haf =>
            obtain rfl := Option.some.inj ho
            have gg : a9.tmps.getD 170 undef = .bool false := haf ⟨22, .guard⟩ (by simp) rfl
            refine skip_good _ (wanted_some rfl (yielded_of (d := 170) rfl (by omega) gg)) ?_
            clear haf ho hsz2 gg
            intro K hK
            simp only [List.getElem_toArray, List.getElem_cons_succ, List.getElem_cons_zero] at hK ⊢
            go_simp
            exact hK _ _ ⟨Below.refl _ _, hW, rfl⟩
          | 24, ho, haf =>
            obtain rfl := Option.some.inj ho
            have gg : a9.tmps.getD 170 undef = .bool false := haf ⟨22, .guard⟩ (by simp) rfl
            have f23 := getq (show a9.tmps.getD 171 undef = .pointer (some ⟨B9, 2, none⟩) from haf ⟨23, .data⟩ (by simp) rfl)
            refine skip_good _ (wanted_some rfl (yielded_of (d := 170) rfl (by omega) gg)) ?_
            clear haf ho hsz2 gg
            intro K hK
            simp only [List.getElem_toArray, List.getElem_cons_succ, List.getElem_cons_zero] at hK ⊢
            have qq := (hW.cell (p := ⟨B9, 2, none⟩) hB10).trans q2
            go_simp
            exact hK _ _ ⟨Below.refl _ _, hW, rfl⟩
          | 25, ho, haf =>
            obtain rfl := Option.some.inj ho
            have gg : a9.tmps.getD 170 undef = .bool false := haf ⟨22, .guard⟩ (by simp) rfl
            refine skip_good _ (wanted_some rfl (yielded_of (d := 170) rfl (by omega) gg)) ?_
            clear haf ho hsz2 gg
            intro K hK
            simp only [List.getElem_toArray, List.getElem_cons_succ, List.getElem_cons_zero] at hK ⊢
            go_simp
            exact hK _ _ ⟨Below.refl _ _, hW, rfl⟩
          | 26, ho, haf =>
            obtain rfl := Option.some.inj ho
            have gg : a9.tmps.getD 170 undef = .bool false := haf ⟨22, .guard⟩ (by simp) rfl
            have f25 := getq (show a9.tmps.getD 173 undef = Value.slice ca (bs.length + EN.length) cc from haf ⟨25, .data⟩ (by simp) rfl)
            refine skip_good _ (wanted_some rfl (yielded_of (d := 170) rfl (by omega) gg)) ?_
            clear haf ho hsz2 gg
            intro K hK
            simp only [List.getElem_toArray, List.getElem_cons_succ, List.getElem_cons_zero] at hK ⊢
            go_simp
            exact hK _ _ ⟨(Below.refl _ _).alloc (Nat.le_refl _) _, hW.alloc hW.size _, ⟨w9.heap.size, rfl, by simp, (Blk.new w9 22 [.slice ca (bs.length + EN.length) cc]).cell 0 _ rfl⟩⟩
          | 27, ho, haf =>
            obtain rfl := Option.some.inj ho
            have gg : a9.tmps.getD 170 undef = .bool false := haf ⟨22, .guard⟩ (by simp) rfl
            obtain ⟨g26, hg26, hg27, hg28⟩ := haf ⟨26, .data⟩ (by simp) rfl
            have f26 := getq (show a9.tmps.getD 174 undef = .slice (some ⟨g26, 0, none⟩) 1 1 from hg26)
            clear hg26
            refine skip_good _ (wanted_some rfl (yielded_of (d := 170) rfl (by omega) gg)) ?_
            clear haf ho hsz2 gg
            intro K hK
            simp only [List.getElem_toArray, List.getElem_cons_succ, List.getElem_cons_zero] at hK ⊢
            go_simp
            refine Calls.mono (HSU.out w9 g26 hW hg27 hg28) ?_
            rintro e9 w8 ⟨rfl, hb9⟩
            exact hK _ _ ⟨hb9, hW.trans (hb9.mono hW.size), rfl⟩
          | 28, ho, haf =>
            obtain rfl := Option.some.inj ho
            have gg : a9.tmps.getD 170 undef = .bool false := haf ⟨22, .guard⟩ (by simp) rfl
            have f24 := getq (show a9.tmps.getD 172 undef = .int .u32 (cg2 : Int) from haf ⟨24, .data⟩ (by simp) rfl)
            have f27 := getq (show a9.tmps.getD 175 undef = .int .u32 (cg2 : Int) from haf ⟨27, .data⟩ (by simp) rfl)
            refine skip_good _ (wanted_some rfl (yielded_of (d := 170) rfl (by omega) gg)) ?_
            clear haf ho hsz2 gg
            intro K hK
            simp only [List.getElem_toArray, List.getElem_cons_succ, List.getElem_cons_zero] at hK ⊢
            go_simp
            exact hK _ _ ⟨Below.refl _ _, hW, rfl⟩
          | 29, ho, haf =>
            obtain rfl := Option.some.inj ho
            have f22 := getq (show a9.tmps.getD 170 undef = .bool false from haf ⟨22, .data⟩ (by simp) rfl)
            have f28 := getq (show a9.tmps.getD 176 undef = .bool false from haf ⟨28, .data⟩ (by simp) rfl)
            refine skip_good _ (wanted_none rfl) ?_
            clear haf ho hsz2
            intro K hK
            simp only [List.getElem_toArray, List.getElem_cons_succ, List.getElem_cons_zero] at hK ⊢
            go_simp
            exact hK _ _ ⟨Below.refl _ _, hW, rfl⟩
          | n + 30, ho, haf => simp at ho
        · intro aa w9 hW hdf hsz hout hall
          obtain ⟨g26, hg26, _, _⟩ := hall 26 (by decide)
          have hat : aa.tmps = #[Value.slice va L.length vc, Value.int IntKind.i64 at_, Value.int IntKind.i64 tu, Value.agg #[Value.int IntKind.i64 m.k, Value.int IntKind.i64 m.y, Value.int IntKind.i64 m.v, Value.int IntKind.i64 m.n], undef, undef, undef, Value.pointer (some { block := N, off := 0 }), u8, Value.slice ba bs.length bc, Value.slice pa L.length pc, Value.int IntKind.i64 (nn : Int), Value.bool true, Value.slice xa hb.length xc, Value.int IntKind.i64 0, Value.slice qa L.length qc, Value.int IntKind.i64 1, Value.int IntKind.i64 (L.length : Int), u18, u19, Value.slice ca (bs.length + EN.length) cc, Value.pointer (some { block := B9, off := 0 }), Value.slice none 0 0, Value.int IntKind.i64 3, undef, undef, undef, u27, u28, u29, u30, u31, Value.tuple #[Value.slice ba bs.length bc, Value.slice pa L.length pc, Value.int IntKind.i64 (nn : Int), Value.bool true], Value.slice va L.length vc, Value.tuple #[Value.slice ba bs.length bc, Value.slice pa L.length pc, Value.int IntKind.i64 (nn : Int), Value.bool true], Value.slice ba bs.length bc, Value.slice pa L.length pc, Value.int IntKind.i64 (nn : Int), Value.bool true, Value.tuple #[Value.slice xa hb.length xc, Value.int IntKind.i64 0], Value.slice ba bs.length bc, Value.tuple #[Value.slice xa hb.length xc, Value.int IntKind.i64 0], Value.slice xa hb.length xc, Value.int IntKind.i64 0, Value.bool true, Value.bool false, Value.bool false, Value.int IntKind.i64 0, Value.bool false, Value.bool false, Value.bool false, Value.slice xa hb.length xc, Value.int IntKind.i64 ↑hb.length, Value.bool false, Value.bool false, Value.tuple #[Value.slice qa L.length qc, Value.int IntKind.i64 1], Value.slice xa hb.length xc, Value.slice ba bs.length bc, Value.agg #[Value.int IntKind.i64 (bs.length : Int), Value.int IntKind.i64 (L.length : Int), Value.int IntKind.u32 ↑cg], Value.tuple #[Value.slice qa L.length qc, Value.int IntKind.i64 1], Value.slice qa L.length qc, Value.int IntKind.i64 1, Value.int IntKind.i64 1, Value.bool false, Value.bool false, Value.slice qa L.length qc, Value.int IntKind.i64 (L.length : Int), Value.slice va L.length vc, Value.int IntKind.i64 (L.length : Int), Value.bool false, Value.bool false, Value.int IntKind.i64 (L.length : Int), Value.slice qa L.length qc, Value.int IntKind.i64 (L.length : Int), Value.bool false, u75, u76, u77, u78, u79, u80, u81, u82, u83, u84, u85, u86, u87, u88, u89, u90, u91, u92, u93, u94, u95, u96, u97, u98, u99, u100, u101, u102, u103, u104, u105, u106, u107, u108, u109, u110, u111, u112, u113, u114, u115, u116, u117, u118, u119, u120, u121, u122, u123, u124, u125, u126, u127, u128, u129, u130, u131, u132, u133, u134, Value.slice ba bs.length bc, Value.agg #[Value.int IntKind.i64 m.k, Value.int IntKind.i64 m.y, Value.int IntKind.i64 m.v, Value.int IntKind.i64 m.n], Value.agg #[Value.int IntKind.u64 77, Value.int IntKind.i64 rk, Value.string rkey, Value.string rval], Value.slice ea EN.length ec, Value.slice ca (bs.length + EN.length) cc, Value.slice ca (bs.length + EN.length) cc, Value.agg #[Value.int IntKind.i64 ((bs.length : Int) + (EN.length : Int)), Value.int IntKind.i64 ((L.length : Int) + 1), Value.int IntKind.u32 (cg2 : Int)], Value.tuple #[Value.slice none 0 0, Value.int IntKind.i64 3], Value.slice xa hb.length xc, Value.agg #[Value.int IntKind.i64 ((bs.length : Int) + (EN.length : Int)), Value.int IntKind.i64 ((L.length : Int) + 1), Value.int IntKind.u32 (cg2 : Int)], Value.tuple #[Value.slice none 0 0, Value.int IntKind.i64 3], Value.slice none 0 0, Value.int IntKind.i64 3, .int .i64 3, .bool false, .bool false, Value.slice none 0 0, .int .i64 0, .bool false, .bool false, .bool false, .pointer (some ⟨B9, 0, none⟩), .int .i64 ((bs.length : Int) + (EN.length : Int)), Value.slice ca (bs.length + EN.length) cc, .int .i64 ((bs.length : Int) + (EN.length : Int)), .bool false, .bool false, .bool false, .pointer (some ⟨B9, 1, none⟩), .int .i64 ((L.length : Int) + 1), Value.slice va L.length vc, .int .i64 (L.length : Int), .int .i64 ((L.length : Int) + 1), .bool false, .bool false, .bool false, .pointer (some ⟨B9, 2, none⟩), .int .u32 (cg2 : Int), Value.slice ca (bs.length + EN.length) cc, .slice (some ⟨g26, 0, none⟩) 1 1, .int .u32 (cg2 : Int), .bool false, .bool false, undef, undef, undef, undef, undef, undef, undef, undef, undef, undef, undef, undef, undef, undef, undef, undef, undef, undef, undef, undef, undef, undef, undef, undef, undef, undef, undef, undef, undef] := by
            refine arr_one (hsz.trans rfl) fun kk hkk => ?_
            match kk, hkk with
            | 0, _ => exact hout 0 (notDst_spec (by kernel_rfl))
            | 1, _ => exact hout 1 (notDst_spec (by kernel_rfl))
            | 2, _ => exact hout 2 (notDst_spec (by kernel_rfl))
            | 3, _ => exact hout 3 (notDst_spec (by kernel_rfl))
            | 4, _ => exact hout 4 (notDst_spec (by kernel_rfl))
            | 5, _ => exact hout 5 (notDst_spec (by kernel_rfl))
            | 6, _ => exact hout 6 (notDst_spec (by kernel_rfl))
            | 7, _ => exact hout 7 (notDst_spec (by kernel_rfl))
            | 8, _ => exact hout 8 (notDst_spec (by kernel_rfl))
            | 9, _ => exact hout 9 (notDst_spec (by kernel_rfl))
            | 10, _ => exact hout 10 (notDst_spec (by kernel_rfl))
            | 11, _ => exact hout 11 (notDst_spec (by kernel_rfl))
            | 12, _ => exact hout 12 (notDst_spec (by kernel_rfl))
            | 13, _ => exact hout 13 (notDst_spec (by kernel_rfl))
            | 14, _ => exact hout 14 (notDst_spec (by kernel_rfl))
            | 15, _ => exact hout 15 (notDst_spec (by kernel_rfl))
            | 16, _ => exact hout 16 (notDst_spec (by kernel_rfl))
            | 17, _ => exact hout 17 (notDst_spec (by kernel_rfl))
            | 18, _ => exact hout 18 (notDst_spec (by kernel_rfl))
            | 19, _ => exact hout 19 (notDst_spec (by kernel_rfl))
            | 20, _ => exact hout 20 (notDst_spec (by kernel_rfl))
            | 21, _ => exact hout 21 (notDst_spec (by kernel_rfl))
            | 22, _ => exact hout 22 (notDst_spec (by kernel_rfl))
            | 23, _ => exact hout 23 (notDst_spec (by kernel_rfl))
            | 24, _ => exact hout 24 (notDst_spec (by kernel_rfl))
            | 25, _ => exact hout 25 (notDst_spec (by kernel_rfl))
            | 26, _ => exact hout 26 (notDst_spec (by kernel_rfl))
            | 27, _ => exact hout 27 (notDst_spec (by kernel_rfl))
            | 28, _ => exact hout 28 (notDst_spec (by kernel_rfl))
            | 29, _ => exact hout 29 (notDst_spec (by kernel_rfl))
            | 30, _ => exact hout 30 (notDst_spec (by kernel_rfl))
            | 31, _ => exact hout 31 (notDst_spec (by kernel_rfl))
            | 32, _ => exact hout 32 (notDst_spec (by kernel_rfl))
            | 33, _ => exact hout 33 (notDst_spec (by kernel_rfl))
            | 34, _ => exact hout 34 (notDst_spec (by kernel_rfl))
            | 35, _ => exact hout 35 (notDst_spec (by kernel_rfl))
            | 36, _ => exact hout 36 (notDst_spec (by kernel_rfl))
            | 37, _ => exact hout 37 (notDst_spec (by kernel_rfl))
            | 38, _ => exact hout 38 (notDst_spec (by kernel_rfl))
            | 39, _ => exact hout 39 (notDst_spec (by kernel_rfl))
            | 40, _ => exact hout 40 (notDst_spec (by kernel_rfl))
            | 41, _ => exact hout 41 (notDst_spec (by kernel_rfl))
            | 42, _ => exact hout 42 (notDst_spec (by kernel_rfl))
            | 43, _ => exact hout 43 (notDst_spec (by kernel_rfl))
            | 44, _ => exact hout 44 (notDst_spec (by kernel_rfl))
            | 45, _ => exact hout 45 (notDst_spec (by kernel_rfl))
            | 46, _ => exact hout 46 (notDst_spec (by kernel_rfl))
            | 47, _ => exact hout 47 (notDst_spec (by kernel_rfl))
            | 48, _ => exact hout 48 (notDst_spec (by kernel_rfl))
            | 49, _ => exact hout 49 (notDst_spec (by kernel_rfl))
            | 50, _ => exact hout 50 (notDst_spec (by kernel_rfl))
            | 51, _ => exact hout 51 (notDst_spec (by kernel_rfl))
            | 52, _ => exact hout 52 (notDst_spec (by kernel_rfl))
            | 53, _ => exact hout 53 (notDst_spec (by kernel_rfl))
            | 54, _ => exact hout 54 (notDst_spec (by kernel_rfl))
            | 55, _ => exact hout 55 (notDst_spec (by kernel_rfl))
            | 56, _ => exact hout 56 (notDst_spec (by kernel_rfl))
            | 57, _ => exact hout 57 (notDst_spec (by kernel_rfl))
            | 58, _ => exact hout 58 (notDst_spec (by kernel_rfl))
            | 59, _ => exact hout 59 (notDst_spec (by kernel_rfl))
            | 60, _ => exact hout 60 (notDst_spec (by kernel_rfl))
            | 61, _ => exact hout 61 (notDst_spec (by kernel_rfl))
            | 62, _ => exact hout 62 (notDst_spec (by kernel_rfl))
            | 63, _ => exact hout 63 (notDst_spec (by kernel_rfl))
            | 64, _ => exact hout 64 (notDst_spec (by kernel_rfl))
            | 65, _ => exact hout 65 (notDst_spec (by kernel_rfl))
            | 66, _ => exact hout 66 (notDst_spec (by kernel_rfl))
            | 67, _ => exact hout 67 (notDst_spec (by kernel_rfl))
            | 68, _ => exact hout 68 (notDst_spec (by kernel_rfl))
            | 69, _ => exact hout 69 (notDst_spec (by kernel_rfl))
            | 70, _ => exact hout 70 (notDst_spec (by kernel_rfl))
            | 71, _ => exact hout 71 (notDst_spec (by kernel_rfl))
            | 72, _ => exact hout 72 (notDst_spec (by kernel_rfl))
            | 73, _ => exact hout 73 (notDst_spec (by kernel_rfl))
            | 74, _ => exact hout 74 (notDst_spec (by kernel_rfl))
            | 75, _ => exact hout 75 (notDst_spec (by kernel_rfl))
            | 76, _ => exact hout 76 (notDst_spec (by kernel_rfl))
            | 77, _ => exact hout 77 (notDst_spec (by kernel_rfl))
            | 78, _ => exact hout 78 (notDst_spec (by kernel_rfl))
            | 79, _ => exact hout 79 (notDst_spec (by kernel_rfl))
            | 80, _ => exact hout 80 (notDst_spec (by kernel_rfl))
            | 81, _ => exact hout 81 (notDst_spec (by kernel_rfl))
            | 82, _ => exact hout 82 (notDst_spec (by kernel_rfl))
            | 83, _ => exact hout 83 (notDst_spec (by kernel_rfl))
            | 84, _ => exact hout 84 (notDst_spec (by kernel_rfl))
            | 85, _ => exact hout 85 (notDst_spec (by kernel_rfl))
            | 86, _ => exact hout 86 (notDst_spec (by kernel_rfl))
            | 87, _ => exact hout 87 (notDst_spec (by kernel_rfl))
            | 88, _ => exact hout 88 (notDst_spec (by kernel_rfl))
            | 89, _ => exact hout 89 (notDst_spec (by kernel_rfl))
            | 90, _ => exact hout 90 (notDst_spec (by kernel_rfl))
            | 91, _ => exact hout 91 (notDst_spec (by kernel_rfl))
            | 92, _ => exact hout 92 (notDst_spec (by kernel_rfl))
            | 93, _ => exact hout 93 (notDst_spec (by kernel_rfl))
            | 94, _ => exact hout 94 (notDst_spec (by kernel_rfl))
            | 95, _ => exact hout 95 (notDst_spec (by kernel_rfl))
            | 96, _ => exact hout 96 (notDst_spec (by kernel_rfl))
            | 97, _ => exact hout 97 (notDst_spec (by kernel_rfl))
            | 98, _ => exact hout 98 (notDst_spec (by kernel_rfl))
            | 99, _ => exact hout 99 (notDst_spec (by kernel_rfl))
            | 100, _ => exact hout 100 (notDst_spec (by kernel_rfl))
            | 101, _ => exact hout 101 (notDst_spec (by kernel_rfl))
            | 102, _ => exact hout 102 (notDst_spec (by kernel_rfl))
            | 103, _ => exact hout 103 (notDst_spec (by kernel_rfl))
            | 104, _ => exact hout 104 (notDst_spec (by kernel_rfl))
            | 105, _ => exact hout 105 (notDst_spec (by kernel_rfl))
            | 106, _ => exact hout 106 (notDst_spec (by kernel_rfl))
            | 107, _ => exact hout 107 (notDst_spec (by kernel_rfl))
            | 108, _ => exact hout 108 (notDst_spec (by kernel_rfl))
            | 109, _ => exact hout 109 (notDst_spec (by kernel_rfl))
            | 110, _ => exact hout 110 (notDst_spec (by kernel_rfl))
            | 111, _ => exact hout 111 (notDst_spec (by kernel_rfl))
            | 112, _ => exact hout 112 (notDst_spec (by kernel_rfl))
            | 113, _ => exact hout 113 (notDst_spec (by kernel_rfl))
            | 114, _ => exact hout 114 (notDst_spec (by kernel_rfl))
            | 115, _ => exact hout 115 (notDst_spec (by kernel_rfl))
            | 116, _ => exact hout 116 (notDst_spec (by kernel_rfl))
            | 117, _ => exact hout 117 (notDst_spec (by kernel_rfl))
            | 118, _ => exact hout 118 (notDst_spec (by kernel_rfl))
            | 119, _ => exact hout 119 (notDst_spec (by kernel_rfl))
            | 120, _ => exact hout 120 (notDst_spec (by kernel_rfl))
            | 121, _ => exact hout 121 (notDst_spec (by kernel_rfl))
            | 122, _ => exact hout 122 (notDst_spec (by kernel_rfl))
            | 123, _ => exact hout 123 (notDst_spec (by kernel_rfl))
            | 124, _ => exact hout 124 (notDst_spec (by kernel_rfl))
            | 125, _ => exact hout 125 (notDst_spec (by kernel_rfl))
            | 126, _ => exact hout 126 (notDst_spec (by kernel_rfl))
            | 127, _ => exact hout 127 (notDst_spec (by kernel_rfl))
            | 128, _ => exact hout 128 (notDst_spec (by kernel_rfl))
            | 129, _ => exact hout 129 (notDst_spec (by kernel_rfl))
            | 130, _ => exact hout 130 (notDst_spec (by kernel_rfl))
            | 131, _ => exact hout 131 (notDst_spec (by kernel_rfl))
            | 132, _ => exact hout 132 (notDst_spec (by kernel_rfl))
            | 133, _ => exact hout 133 (notDst_spec (by kernel_rfl))
            | 134, _ => exact hout 134 (notDst_spec (by kernel_rfl))
            | 135, _ => exact hout 135 (notDst_spec (by kernel_rfl))
            | 136, _ => exact hout 136 (notDst_spec (by kernel_rfl))
            | 137, _ => exact hout 137 (notDst_spec (by kernel_rfl))
            | 138, _ => exact hout 138 (notDst_spec (by kernel_rfl))
            | 139, _ => exact hout 139 (notDst_spec (by kernel_rfl))
            | 140, _ => exact hout 140 (notDst_spec (by kernel_rfl))
            | 141, _ => exact hout 141 (notDst_spec (by kernel_rfl))
            | 142, _ => exact hout 142 (notDst_spec (by kernel_rfl))
            | 143, _ => exact hout 143 (notDst_spec (by kernel_rfl))
            | 144, _ => exact hout 144 (notDst_spec (by kernel_rfl))
            | 145, _ => exact hout 145 (notDst_spec (by kernel_rfl))
            | 146, _ => exact hout 146 (notDst_spec (by kernel_rfl))
            | 147, _ => exact hout 147 (notDst_spec (by kernel_rfl))
            | 148, _ => exact hall 0 (by decide)
            | 149, _ => exact hall 1 (by decide)
            | 150, _ => exact hall 2 (by decide)
            | 151, _ => exact hall 3 (by decide)
            | 152, _ => exact hall 4 (by decide)
            | 153, _ => exact hall 5 (by decide)
            | 154, _ => exact hall 6 (by decide)
            | 155, _ => exact hall 7 (by decide)
            | 156, _ => exact hall 8 (by decide)
            | 157, _ => exact hall 9 (by decide)
            | 158, _ => exact hall 10 (by decide)
            | 159, _ => exact hall 11 (by decide)
            | 160, _ => exact hall 12 (by decide)
            | 161, _ => exact hall 13 (by decide)
            | 162, _ => exact hall 14 (by decide)
            | 163, _ => exact hall 15 (by decide)
            | 164, _ => exact hall 16 (by decide)
            | 165, _ => exact hall 17 (by decide)
            | 166, _ => exact hall 18 (by decide)
            | 167, _ => exact hall 19 (by decide)
            | 168, _ => exact hall 20 (by decide)
            | 169, _ => exact hall 21 (by decide)
            | 170, _ => exact hall 22 (by decide)
            | 171, _ => exact hall 23 (by decide)
            | 172, _ => exact hall 24 (by decide)
            | 173, _ => exact hall 25 (by decide)
            | 174, _ => exact hg26
            | 175, _ => exact hall 27 (by decide)
            | 176, _ => exact hall 28 (by decide)
            | 177, _ => exact hall 29 (by decide)
            | 178, _ => exact hout 178 (notDst_spec (by kernel_rfl))
            | 179, _ => exact hout 179 (notDst_spec (by kernel_rfl))
            | 180, _ => exact hout 180 (notDst_spec (by kernel_rfl))
            | 181, _ => exact hout 181 (notDst_spec (by kernel_rfl))
            | 182, _ => exact hout 182 (notDst_spec (by kernel_rfl))
            | 183, _ => exact hout 183 (notDst_spec (by kernel_rfl))
            | 184, _ => exact hout 184 (notDst_spec (by kernel_rfl))
            | 185, _ => exact hout 185 (notDst_spec (by kernel_rfl))
            | 186, _ => exact hout 186 (notDst_spec (by kernel_rfl))
            | 187, _ => exact hout 187 (notDst_spec (by kernel_rfl))
            | 188, _ => exact hout 188 (notDst_spec (by kernel_rfl))
            | 189, _ => exact hout 189 (notDst_spec (by kernel_rfl))
            | 190, _ => exact hout 190 (notDst_spec (by kernel_rfl))
            | 191, _ => exact hout 191 (notDst_spec (by kernel_rfl))
            | 192, _ => exact hout 192 (notDst_spec (by kernel_rfl))
            | 193, _ => exact hout 193 (notDst_spec (by kernel_rfl))
            | 194, _ => exact hout 194 (notDst_spec (by kernel_rfl))
            | 195, _ => exact hout 195 (notDst_spec (by kernel_rfl))
            | 196, _ => exact hout 196 (notDst_spec (by kernel_rfl))
            | 197, _ => exact hout 197 (notDst_spec (by kernel_rfl))
            | 198, _ => exact hout 198 (notDst_spec (by kernel_rfl))
            | 199, _ => exact hout 199 (notDst_spec (by kernel_rfl))
            | 200, _ => exact hout 200 (notDst_spec (by kernel_rfl))
            | 201, _ => exact hout 201 (notDst_spec (by kernel_rfl))
            | 202, _ => exact hout 202 (notDst_spec (by kernel_rfl))
            | 203, _ => exact hout 203 (notDst_spec (by kernel_rfl))
            | 204, _ => exact hout 204 (notDst_spec (by kernel_rfl))
            | 205, _ => exact hout 205 (notDst_spec (by kernel_rfl))
            | 206, _ => exact hout 206 (notDst_spec (by kernel_rfl))
            | n + 207, h => exact absurd h (by simp)
          obtain ⟨tt, dd⟩ := aa
          simp only at hat hdf
          subst hat hdf
          clear hsz hout hall hg26
          have HB11 := hd (HB10.out.trans (hW.mono (by omega)))
          have hs11 := hW.size
          have HJB11 := hd (JK.keepAll (k := .u8) (M := 256) (E := 5) HJB10.out hW)
          have HJH11 := hd (JK.keepAll (k := .u8) (M := 256) (E := 5) HJH10.out hW)
          clear hW HB10 HJB10 HJH10 HC10 HSU q0 q1 q2 hB10
          go_wp2_with fail
          refine Calls.mono (joined_is _ (.slice none 0 0) hb [] w9 (jb_isB HJH11.out) (isB_nil _) (by simp; omega)) ?_
          rintro e w12 ⟨u12, rfl, j12, b12⟩
          rw [List.append_nil] at j12
          obtain ⟨ya, yc, rfl, hyc⟩ := JK.shape (k := .u8) (M := 256) (E := 5) j12
          have HB12 := hd (HB11.out.trans (b12.mono (by omega)))
          have hs12 := b12.size
          have HJB12 := hd (JK.keepAll (k := .u8) (M := 256) (E := 5) HJB11.out b12)
          obtain ⟨gy, hya, hgy, hgy2⟩ : ∃ gy, ya = some ⟨gy, 0, none⟩ ∧ gy < w12.heap.size ∧ w9.heap.size ≤ gy := by
            obtain ⟨_, _, ⟨e, e0⟩ | ⟨g', cap', cur, e, hbs, hh, _⟩⟩ := j12
            · injection e with e1 e2 e3; omega
            · injection e with e1 e2 e3
              exact ⟨g', e1, (Array.getElem?_eq_some_iff.1 hh).1, hbs⟩
          subst hya
          have HY := hd j12
          have hpk := pkN_lt at_ (n := hb.length) (by omega)
          have hpd := pkN_lt tu (n := 255) (by omega)
          have HPA : Hid (∀ x, Calls Try.prog 45 #[.int .i64 at_, .int .i64 (hb.length : Int)] x fun e w' => e = .returned (.int .i64 (pkN at_ hb.length : Int)) ∧ w' = x) := fun x => tpick_eq at_ hb.length x (by omega) (by omega) HA.out
          have HPD : Hid (∀ x, Calls Try.prog 45 #[.int .i64 tu, .int .i64 255] x fun e w' => e = .returned (.int .i64 (pkN tu 255 : Int)) ∧ w' = x) := fun x => tpick_eq tu 255 x (by omega) (by omega) HT.out
          have HND := HTU.out (pkN at_ hb.length) (pkN tu 255 + 1) hpk (by omega) (by omega)
          generalize pkN at_ hb.length = pp at HPA hpk HND
          generalize pkN tu 255 = dd at HPD hpd HND
          have HNDH := hd HND
          have HBN := hd (JK.blk_lt (k := .u8) (M := 256) (E := 5) HJB11.out)
          clear HND j12 b12 HB11 HJB11 HJH11
          have hyb := getD_lt HHB.out pp
          have hcell : w12.cell? ⟨gy, pp, none⟩ = some (.int .u8 ((hb.getD pp 0 : Nat) : Int)) := by
            obtain ⟨_, _, ⟨e, _⟩ | ⟨b', o', c', e, _, _, hb', hrow⟩⟩ := jb_isB HY.out
            · rw [e] at hpk; simp at hpk
            · injection e with e1 e2 e3
              injection e1 with e1
              injection e1 with e1 e4
              subst e1 e4
              have := hrow pp hpk
              rwa [Nat.zero_add] at this
          have hfz : w12.frozen? ⟨gy, pp, none⟩ = false := by
            obtain ⟨_, _, ⟨e, e0⟩ | ⟨g', cap', cur, e, hbs, hh, _⟩⟩ := HY.out
            · cases e
            · injection e with e1 e2 e3
              injection e1 with e1
              injection e1 with e1 e4
              subst e1
              simp [World.frozen?, hh]
          have HXB := hd (xor_byt hyb (show dd + 1 < 256 by omega))
          obtain ⟨yb, hyb2⟩ : ∃ yb, yb = hb.getD pp 0 := ⟨_, rfl⟩
          rw [← hyb2] at hcell hyb HXB HNDH
          have HW9 : Hid (IntKind.i64.wrap (1 + (dd : Int)) = 1 + (dd : Int)) := by
            have key : ∀ q : Fin 255, IntKind.i64.wrap (1 + ((q.1 : Nat) : Int)) = 1 + ((q.1 : Nat) : Int) := by decide
            exact key ⟨dd, hpd⟩
          have HW10 : Hid (IntKind.u8.wrap (1 + (dd : Int)) = ((dd + 1 : Nat) : Int)) := by
            have key : ∀ q : Fin 255, IntKind.u8.wrap (1 + ((q.1 : Nat) : Int)) = ((q.1 + 1 : Nat) : Int) := by decide
            exact key ⟨dd, hpd⟩
          have hw11 := u8_xor_nat yb (dd + 1) hyb (by omega)
          obtain ⟨d1, hd1⟩ : ∃ d1, d1 = dd + 1 := ⟨_, rfl⟩
          rw [← hd1] at hw11 HXB HNDH HW10
          obtain ⟨x1, hx1⟩ : ∃ x1, x1 = yb ^^^ d1 := ⟨_, rfl⟩
          rw [← hx1] at hw11 HXB HNDH
          have HW11 := hd hw11
          clear hw11 hd1 hx1 hyb2 hyb
          go_wp2_with fail
          refine region_end (fun i => match i with
            | 0 => Value.slice (some ⟨gy, 0, none⟩) hb.length yc
            | 1 => Value.int IntKind.i64 at_
            | 2 => Value.slice (some ⟨gy, 0, none⟩) hb.length yc
            | 3 => .int .i64 (hb.length : Int)
            | 4 => .int .i64 (pp : Int)
            | 5 => .pointer (some ⟨gy, pp, none⟩)
            | 6 => .int .u8 (yb : Int)
            | 7 => Value.int IntKind.i64 tu
            | 8 => .int .i64 (dd : Int)
            | 9 => .int .i64 (1 + (dd : Int))
            | 10 => .int .u8 (d1 : Int)
            | 11 => .int .u8 (x1 : Int)
            | 12 => .pointer (some ⟨gy, pp, none⟩)
            | 13 => undef
            | _ => undef) 13 hmx (by kernel_rfl) (by kernel_rfl) (by kernel_rfl) (by kernel_rfl) ?_ ?_
          · intro i o hiE ho a hout haf
            have ee1 := getq (show a.tmps.getD 1 undef = Value.int IntKind.i64 at_ from hout 1 (notDst_spec (by kernel_rfl)))
            have ee2 := getq (show a.tmps.getD 2 undef = Value.int IntKind.i64 tu from hout 2 (notDst_spec (by kernel_rfl)))
            have ee24 := getq (show a.tmps.getD 24 undef = Value.slice (some ⟨gy, 0, none⟩) hb.length yc from hout 24 (notDst_spec (by kernel_rfl)))
            clear hout
            match i, hiE, ho, haf with
            | 0, hiE, ho, haf =>
              obtain rfl := Option.some.inj ho
              refine step_c (w' := w12.drew) rfl fun K hK => ?_
              simp only [List.getElem_toArray, List.getElem_cons_zero] at hK ⊢
              clear haf ho hiE
              go_simp
              exact hK
            | 1, hiE, ho, haf =>
              obtain rfl := Option.some.inj ho
              refine step_c (w' := w12.drew) rfl fun K hK => ?_
              simp only [List.getElem_toArray, List.getElem_cons_succ, List.getElem_cons_zero] at hK ⊢
              clear haf ho hiE
              go_simp
              exact hK
            | 2, hiE, ho, haf =>
              obtain rfl := Option.some.inj ho
              refine step_c (w' := w12.drew) rfl fun K hK => ?_
              simp only [List.getElem_toArray, List.getElem_cons_succ, List.getElem_cons_zero] at hK ⊢
              clear haf ho hiE
              go_simp
              exact hK
            | 3, hiE, ho, haf =>
              obtain rfl := Option.some.inj ho
              have f2 := getq (show a.tmps.getD 182 undef = Value.slice (some ⟨gy, 0, none⟩) hb.length yc from haf ⟨2, .data⟩ (by simp) rfl 182 rfl)
              refine step_c (w' := w12.drew) rfl fun K hK => ?_
              simp only [List.getElem_toArray, List.getElem_cons_succ, List.getElem_cons_zero] at hK ⊢
              clear haf ho hiE
              go_simp
              exact hK
            | 4, hiE, ho, haf =>
              obtain rfl := Option.some.inj ho
              have f1 := getq (show a.tmps.getD 181 undef = Value.int IntKind.i64 at_ from haf ⟨1, .data⟩ (by simp) rfl 181 rfl)
              have f3 := getq (show a.tmps.getD 183 undef = .int .i64 (hb.length : Int) from haf ⟨3, .data⟩ (by simp) rfl 183 rfl)
              refine step_c (w' := w12.drew) rfl fun K hK => ?_
              simp only [List.getElem_toArray, List.getElem_cons_succ, List.getElem_cons_zero] at hK ⊢
              clear haf ho hiE
              go_simp
              refine Calls.mono (HPA.out _) ?_
              rintro e9 w8 ⟨rfl, rfl⟩
              exact hK
            | 5, hiE, ho, haf =>
              obtain rfl := Option.some.inj ho
              have f0 := getq (show a.tmps.getD 180 undef = Value.slice (some ⟨gy, 0, none⟩) hb.length yc from haf ⟨0, .data⟩ (by simp) rfl 180 rfl)
              have f4 := getq (show a.tmps.getD 184 undef = .int .i64 (pp : Int) from haf ⟨4, .data⟩ (by simp) rfl 184 rfl)
              refine step_c (w' := w12.drew) rfl fun K hK => ?_
              simp only [List.getElem_toArray, List.getElem_cons_succ, List.getElem_cons_zero] at hK ⊢
              clear haf ho hiE
              go_simp
              exact hK
            | 6, hiE, ho, haf =>
              obtain rfl := Option.some.inj ho
              have f5 := getq (show a.tmps.getD 185 undef = .pointer (some ⟨gy, pp, none⟩) from haf ⟨5, .data⟩ (by simp) rfl 185 rfl)
              refine step_c (w' := w12.drew) rfl fun K hK => ?_
              simp only [List.getElem_toArray, List.getElem_cons_succ, List.getElem_cons_zero] at hK ⊢
              clear haf ho hiE
              go_simp
              exact hK
            | 7, hiE, ho, haf =>
              obtain rfl := Option.some.inj ho
              refine step_c (w' := w12.drew) rfl fun K hK => ?_
              simp only [List.getElem_toArray, List.getElem_cons_succ, List.getElem_cons_zero] at hK ⊢
              clear haf ho hiE
              go_simp
              exact hK
            | 8, hiE, ho, haf =>
              obtain rfl := Option.some.inj ho
              have f7 := getq (show a.tmps.getD 187 undef = Value.int IntKind.i64 tu from haf ⟨7, .data⟩ (by simp) rfl 187 rfl)
              refine step_c (w' := w12.drew) rfl fun K hK => ?_
              simp only [List.getElem_toArray, List.getElem_cons_succ, List.getElem_cons_zero] at hK ⊢
              clear haf ho hiE
              go_simp
              refine Calls.mono (HPD.out _) ?_
              rintro e9 w8 ⟨rfl, rfl⟩
              exact hK
            | 9, hiE, ho, haf =>
              obtain rfl := Option.some.inj ho
              have f8 := getq (show a.tmps.getD 188 undef = .int .i64 (dd : Int) from haf ⟨8, .data⟩ (by simp) rfl 188 rfl)
              refine step_c (w' := w12.drew) rfl fun K hK => ?_
              simp only [List.getElem_toArray, List.getElem_cons_succ, List.getElem_cons_zero] at hK ⊢
              clear haf ho hiE
              go_simp
              rw [HW9.out]
              exact hK
            | 10, hiE, ho, haf =>
              obtain rfl := Option.some.inj ho
              have f9 := getq (show a.tmps.getD 189 undef = .int .i64 (1 + (dd : Int)) from haf ⟨9, .data⟩ (by simp) rfl 189 rfl)
              refine step_c (w' := w12.drew) rfl fun K hK => ?_
              simp only [List.getElem_toArray, List.getElem_cons_succ, List.getElem_cons_zero] at hK ⊢
              clear haf ho hiE
              go_simp
              rw [HW10.out]
              exact hK
            | 11, hiE, ho, haf =>
              obtain rfl := Option.some.inj ho
              have f6 := getq (show a.tmps.getD 186 undef = .int .u8 (yb : Int) from haf ⟨6, .data⟩ (by simp) rfl 186 rfl)
              have f10 := getq (show a.tmps.getD 190 undef = .int .u8 (d1 : Int) from haf ⟨10, .data⟩ (by simp) rfl 190 rfl)
              refine step_c (w' := w12.drew) rfl fun K hK => ?_
              simp only [List.getElem_toArray, List.getElem_cons_succ, List.getElem_cons_zero] at hK ⊢
              clear haf ho hiE
              go_simp
              rw [HW11.out]
              exact hK
            | 12, hiE, ho, haf =>
              obtain rfl := Option.some.inj ho
              have f0 := getq (show a.tmps.getD 180 undef = Value.slice (some ⟨gy, 0, none⟩) hb.length yc from haf ⟨0, .data⟩ (by simp) rfl 180 rfl)
              have f4 := getq (show a.tmps.getD 184 undef = .int .i64 (pp : Int) from haf ⟨4, .data⟩ (by simp) rfl 184 rfl)
              refine step_c (w' := w12.drew) rfl fun K hK => ?_
              simp only [List.getElem_toArray, List.getElem_cons_succ, List.getElem_cons_zero] at hK ⊢
              clear haf ho hiE
              go_simp
              exact hK
            | 13, hiE, ho, haf => exact absurd rfl hiE
            | n + 14, _, ho, _ => simp at ho
          · intro o ho aa hdf hsz hout hval hown
            obtain rfl := Option.some.inj ho
            have hat : aa.tmps = #[Value.slice va L.length vc, Value.int IntKind.i64 at_, Value.int IntKind.i64 tu, Value.agg #[Value.int IntKind.i64 m.k, Value.int IntKind.i64 m.y, Value.int IntKind.i64 m.v, Value.int IntKind.i64 m.n], undef, undef, undef, Value.pointer (some { block := N, off := 0 }), u8, Value.slice ba bs.length bc, Value.slice pa L.length pc, Value.int IntKind.i64 (nn : Int), Value.bool true, Value.slice xa hb.length xc, Value.int IntKind.i64 0, Value.slice qa L.length qc, Value.int IntKind.i64 1, Value.int IntKind.i64 (L.length : Int), u18, u19, Value.slice ca (bs.length + EN.length) cc, Value.pointer (some { block := B9, off := 0 }), Value.slice none 0 0, Value.int IntKind.i64 3, Value.slice (some ⟨gy, 0, none⟩) hb.length yc, undef, undef, u27, u28, u29, u30, u31, Value.tuple #[Value.slice ba bs.length bc, Value.slice pa L.length pc, Value.int IntKind.i64 (nn : Int), Value.bool true], Value.slice va L.length vc, Value.tuple #[Value.slice ba bs.length bc, Value.slice pa L.length pc, Value.int IntKind.i64 (nn : Int), Value.bool true], Value.slice ba bs.length bc, Value.slice pa L.length pc, Value.int IntKind.i64 (nn : Int), Value.bool true, Value.tuple #[Value.slice xa hb.length xc, Value.int IntKind.i64 0], Value.slice ba bs.length bc, Value.tuple #[Value.slice xa hb.length xc, Value.int IntKind.i64 0], Value.slice xa hb.length xc, Value.int IntKind.i64 0, Value.bool true, Value.bool false, Value.bool false, Value.int IntKind.i64 0, Value.bool false, Value.bool false, Value.bool false, Value.slice xa hb.length xc, Value.int IntKind.i64 ↑hb.length, Value.bool false, Value.bool false, Value.tuple #[Value.slice qa L.length qc, Value.int IntKind.i64 1], Value.slice xa hb.length xc, Value.slice ba bs.length bc, Value.agg #[Value.int IntKind.i64 (bs.length : Int), Value.int IntKind.i64 (L.length : Int), Value.int IntKind.u32 ↑cg], Value.tuple #[Value.slice qa L.length qc, Value.int IntKind.i64 1], Value.slice qa L.length qc, Value.int IntKind.i64 1, Value.int IntKind.i64 1, Value.bool false, Value.bool false, Value.slice qa L.length qc, Value.int IntKind.i64 (L.length : Int), Value.slice va L.length vc, Value.int IntKind.i64 (L.length : Int), Value.bool false, Value.bool false, Value.int IntKind.i64 (L.length : Int), Value.slice qa L.length qc, Value.int IntKind.i64 (L.length : Int), Value.bool false, u75, u76, u77, u78, u79, u80, u81, u82, u83, u84, u85, u86, u87, u88, u89, u90, u91, u92, u93, u94, u95, u96, u97, u98, u99, u100, u101, u102, u103, u104, u105, u106, u107, u108, u109, u110, u111, u112, u113, u114, u115, u116, u117, u118, u119, u120, u121, u122, u123, u124, u125, u126, u127, u128, u129, u130, u131, u132, u133, u134, Value.slice ba bs.length bc, Value.agg #[Value.int IntKind.i64 m.k, Value.int IntKind.i64 m.y, Value.int IntKind.i64 m.v, Value.int IntKind.i64 m.n], Value.agg #[Value.int IntKind.u64 77, Value.int IntKind.i64 rk, Value.string rkey, Value.string rval], Value.slice ea EN.length ec, Value.slice ca (bs.length + EN.length) cc, Value.slice ca (bs.length + EN.length) cc, Value.agg #[Value.int IntKind.i64 ((bs.length : Int) + (EN.length : Int)), Value.int IntKind.i64 ((L.length : Int) + 1), Value.int IntKind.u32 (cg2 : Int)], Value.tuple #[Value.slice none 0 0, Value.int IntKind.i64 3], Value.slice xa hb.length xc, Value.agg #[Value.int IntKind.i64 ((bs.length : Int) + (EN.length : Int)), Value.int IntKind.i64 ((L.length : Int) + 1), Value.int IntKind.u32 (cg2 : Int)], Value.tuple #[Value.slice none 0 0, Value.int IntKind.i64 3], Value.slice none 0 0, Value.int IntKind.i64 3, Value.int IntKind.i64 3, Value.bool false, Value.bool false, Value.slice none 0 0, Value.int IntKind.i64 0, Value.bool false, Value.bool false, Value.bool false, Value.pointer (some { block := B9, off := 0 }), Value.int IntKind.i64 ((bs.length : Int) + (EN.length : Int)), Value.slice ca (bs.length + EN.length) cc, Value.int IntKind.i64 ((bs.length : Int) + (EN.length : Int)), Value.bool false, Value.bool false, Value.bool false, Value.pointer (some { block := B9, off := 1 }), Value.int IntKind.i64 ((L.length : Int) + 1), Value.slice va L.length vc, Value.int IntKind.i64 (L.length : Int), Value.int IntKind.i64 ((L.length : Int) + 1), Value.bool false, Value.bool false, Value.bool false, Value.pointer (some { block := B9, off := 2 }), Value.int IntKind.u32 (cg2 : Int), Value.slice ca (bs.length + EN.length) cc, Value.slice (some { block := g26, off := 0 }) 1 1, Value.int IntKind.u32 (cg2 : Int), Value.bool false, Value.bool false, Value.slice xa hb.length xc, Value.slice (some ⟨gy, 0, none⟩) hb.length yc, Value.slice (some ⟨gy, 0, none⟩) hb.length yc, Value.int IntKind.i64 at_, Value.slice (some ⟨gy, 0, none⟩) hb.length yc, .int .i64 (hb.length : Int), .int .i64 (pp : Int), .pointer (some ⟨gy, pp, none⟩), .int .u8 (yb : Int), Value.int IntKind.i64 tu, .int .i64 (dd : Int), .int .i64 (1 + (dd : Int)), .int .u8 (d1 : Int), .int .u8 (x1 : Int), .pointer (some ⟨gy, pp, none⟩), undef, undef, undef, undef, undef, undef, undef, undef, undef, undef, undef, undef, undef, undef] := by
              refine arr_one (hsz.trans rfl) fun kk hkk => ?_
              match kk, hkk with
              | 0, _ => exact hout 0 (notDst_spec (by kernel_rfl))
              | 1, _ => exact hout 1 (notDst_spec (by kernel_rfl))
              | 2, _ => exact hout 2 (notDst_spec (by kernel_rfl))
              | 3, _ => exact hout 3 (notDst_spec (by kernel_rfl))
              | 4, _ => exact hout 4 (notDst_spec (by kernel_rfl))
              | 5, _ => exact hout 5 (notDst_spec (by kernel_rfl))
              | 6, _ => exact hout 6 (notDst_spec (by kernel_rfl))
              | 7, _ => exact hout 7 (notDst_spec (by kernel_rfl))
              | 8, _ => exact hout 8 (notDst_spec (by kernel_rfl))
              | 9, _ => exact hout 9 (notDst_spec (by kernel_rfl))
              | 10, _ => exact hout 10 (notDst_spec (by kernel_rfl))
              | 11, _ => exact hout 11 (notDst_spec (by kernel_rfl))
              | 12, _ => exact hout 12 (notDst_spec (by kernel_rfl))
              | 13, _ => exact hout 13 (notDst_spec (by kernel_rfl))
              | 14, _ => exact hout 14 (notDst_spec (by kernel_rfl))
              | 15, _ => exact hout 15 (notDst_spec (by kernel_rfl))
              | 16, _ => exact hout 16 (notDst_spec (by kernel_rfl))
              | 17, _ => exact hout 17 (notDst_spec (by kernel_rfl))
              | 18, _ => exact hout 18 (notDst_spec (by kernel_rfl))
              | 19, _ => exact hout 19 (notDst_spec (by kernel_rfl))
              | 20, _ => exact hout 20 (notDst_spec (by kernel_rfl))
              | 21, _ => exact hout 21 (notDst_spec (by kernel_rfl))
              | 22, _ => exact hout 22 (notDst_spec (by kernel_rfl))
              | 23, _ => exact hout 23 (notDst_spec (by kernel_rfl))
              | 24, _ => exact hout 24 (notDst_spec (by kernel_rfl))
              | 25, _ => exact hout 25 (notDst_spec (by kernel_rfl))
              | 26, _ => exact hout 26 (notDst_spec (by kernel_rfl))
              | 27, _ => exact hout 27 (notDst_spec (by kernel_rfl))
              | 28, _ => exact hout 28 (notDst_spec (by kernel_rfl))
              | 29, _ => exact hout 29 (notDst_spec (by kernel_rfl))
              | 30, _ => exact hout 30 (notDst_spec (by kernel_rfl))
              | 31, _ => exact hout 31 (notDst_spec (by kernel_rfl))
              | 32, _ => exact hout 32 (notDst_spec (by kernel_rfl))
              | 33, _ => exact hout 33 (notDst_spec (by kernel_rfl))
              | 34, _ => exact hout 34 (notDst_spec (by kernel_rfl))
              | 35, _ => exact hout 35 (notDst_spec (by kernel_rfl))
              | 36, _ => exact hout 36 (notDst_spec (by kernel_rfl))
              | 37, _ => exact hout 37 (notDst_spec (by kernel_rfl))
              | 38, _ => exact hout 38 (notDst_spec (by kernel_rfl))
              | 39, _ => exact hout 39 (notDst_spec (by kernel_rfl))
              | 40, _ => exact hout 40 (notDst_spec (by kernel_rfl))
              | 41, _ => exact hout 41 (notDst_spec (by kernel_rfl))
              | 42, _ => exact hout 42 (notDst_spec (by kernel_rfl))
              | 43, _ => exact hout 43 (notDst_spec (by kernel_rfl))
              | 44, _ => exact hout 44 (notDst_spec (by kernel_rfl))
              | 45, _ => exact hout 45 (notDst_spec (by kernel_rfl))
              | 46, _ => exact hout 46 (notDst_spec (by kernel_rfl))
              | 47, _ => exact hout 47 (notDst_spec (by kernel_rfl))
              | 48, _ => exact hout 48 (notDst_spec (by kernel_rfl))
              | 49, _ => exact hout 49 (notDst_spec (by kernel_rfl))
              | 50, _ => exact hout 50 (notDst_spec (by kernel_rfl))
              | 51, _ => exact hout 51 (notDst_spec (by kernel_rfl))
              | 52, _ => exact hout 52 (notDst_spec (by kernel_rfl))
              | 53, _ => exact hout 53 (notDst_spec (by kernel_rfl))
              | 54, _ => exact hout 54 (notDst_spec (by kernel_rfl))
              | 55, _ => exact hout 55 (notDst_spec (by kernel_rfl))
              | 56, _ => exact hout 56 (notDst_spec (by kernel_rfl))
              | 57, _ => exact hout 57 (notDst_spec (by kernel_rfl))
              | 58, _ => exact hout 58 (notDst_spec (by kernel_rfl))
              | 59, _ => exact hout 59 (notDst_spec (by kernel_rfl))
              | 60, _ => exact hout 60 (notDst_spec (by kernel_rfl))
              | 61, _ => exact hout 61 (notDst_spec (by kernel_rfl))
              | 62, _ => exact hout 62 (notDst_spec (by kernel_rfl))
              | 63, _ => exact hout 63 (notDst_spec (by kernel_rfl))
              | 64, _ => exact hout 64 (notDst_spec (by kernel_rfl))
              | 65, _ => exact hout 65 (notDst_spec (by kernel_rfl))
              | 66, _ => exact hout 66 (notDst_spec (by kernel_rfl))
              | 67, _ => exact hout 67 (notDst_spec (by kernel_rfl))
              | 68, _ => exact hout 68 (notDst_spec (by kernel_rfl))
              | 69, _ => exact hout 69 (notDst_spec (by kernel_rfl))
              | 70, _ => exact hout 70 (notDst_spec (by kernel_rfl))
              | 71, _ => exact hout 71 (notDst_spec (by kernel_rfl))
              | 72, _ => exact hout 72 (notDst_spec (by kernel_rfl))
              | 73, _ => exact hout 73 (notDst_spec (by kernel_rfl))
              | 74, _ => exact hout 74 (notDst_spec (by kernel_rfl))
              | 75, _ => exact hout 75 (notDst_spec (by kernel_rfl))
              | 76, _ => exact hout 76 (notDst_spec (by kernel_rfl))
              | 77, _ => exact hout 77 (notDst_spec (by kernel_rfl))
              | 78, _ => exact hout 78 (notDst_spec (by kernel_rfl))
              | 79, _ => exact hout 79 (notDst_spec (by kernel_rfl))
              | 80, _ => exact hout 80 (notDst_spec (by kernel_rfl))
              | 81, _ => exact hout 81 (notDst_spec (by kernel_rfl))
              | 82, _ => exact hout 82 (notDst_spec (by kernel_rfl))
              | 83, _ => exact hout 83 (notDst_spec (by kernel_rfl))
              | 84, _ => exact hout 84 (notDst_spec (by kernel_rfl))
              | 85, _ => exact hout 85 (notDst_spec (by kernel_rfl))
              | 86, _ => exact hout 86 (notDst_spec (by kernel_rfl))
              | 87, _ => exact hout 87 (notDst_spec (by kernel_rfl))
              | 88, _ => exact hout 88 (notDst_spec (by kernel_rfl))
              | 89, _ => exact hout 89 (notDst_spec (by kernel_rfl))
              | 90, _ => exact hout 90 (notDst_spec (by kernel_rfl))
              | 91, _ => exact hout 91 (notDst_spec (by kernel_rfl))
              | 92, _ => exact hout 92 (notDst_spec (by kernel_rfl))
              | 93, _ => exact hout 93 (notDst_spec (by kernel_rfl))
              | 94, _ => exact hout 94 (notDst_spec (by kernel_rfl))
              | 95, _ => exact hout 95 (notDst_spec (by kernel_rfl))
              | 96, _ => exact hout 96 (notDst_spec (by kernel_rfl))
              | 97, _ => exact hout 97 (notDst_spec (by kernel_rfl))
              | 98, _ => exact hout 98 (notDst_spec (by kernel_rfl))
              | 99, _ => exact hout 99 (notDst_spec (by kernel_rfl))
              | 100, _ => exact hout 100 (notDst_spec (by kernel_rfl))
              | 101, _ => exact hout 101 (notDst_spec (by kernel_rfl))
              | 102, _ => exact hout 102 (notDst_spec (by kernel_rfl))
              | 103, _ => exact hout 103 (notDst_spec (by kernel_rfl))
              | 104, _ => exact hout 104 (notDst_spec (by kernel_rfl))
              | 105, _ => exact hout 105 (notDst_spec (by kernel_rfl))
              | 106, _ => exact hout 106 (notDst_spec (by kernel_rfl))
              | 107, _ => exact hout 107 (notDst_spec (by kernel_rfl))
              | 108, _ => exact hout 108 (notDst_spec (by kernel_rfl))
              | 109, _ => exact hout 109 (notDst_spec (by kernel_rfl))
              | 110, _ => exact hout 110 (notDst_spec (by kernel_rfl))
              | 111, _ => exact hout 111 (notDst_spec (by kernel_rfl))
              | 112, _ => exact hout 112 (notDst_spec (by kernel_rfl))
              | 113, _ => exact hout 113 (notDst_spec (by kernel_rfl))
              | 114, _ => exact hout 114 (notDst_spec (by kernel_rfl))
              | 115, _ => exact hout 115 (notDst_spec (by kernel_rfl))
              | 116, _ => exact hout 116 (notDst_spec (by kernel_rfl))
              | 117, _ => exact hout 117 (notDst_spec (by kernel_rfl))
              | 118, _ => exact hout 118 (notDst_spec (by kernel_rfl))
              | 119, _ => exact hout 119 (notDst_spec (by kernel_rfl))
              | 120, _ => exact hout 120 (notDst_spec (by kernel_rfl))
              | 121, _ => exact hout 121 (notDst_spec (by kernel_rfl))
              | 122, _ => exact hout 122 (notDst_spec (by kernel_rfl))
              | 123, _ => exact hout 123 (notDst_spec (by kernel_rfl))
              | 124, _ => exact hout 124 (notDst_spec (by kernel_rfl))
              | 125, _ => exact hout 125 (notDst_spec (by kernel_rfl))
              | 126, _ => exact hout 126 (notDst_spec (by kernel_rfl))
              | 127, _ => exact hout 127 (notDst_spec (by kernel_rfl))
              | 128, _ => exact hout 128 (notDst_spec (by kernel_rfl))
              | 129, _ => exact hout 129 (notDst_spec (by kernel_rfl))
              | 130, _ => exact hout 130 (notDst_spec (by kernel_rfl))
              | 131, _ => exact hout 131 (notDst_spec (by kernel_rfl))
              | 132, _ => exact hout 132 (notDst_spec (by kernel_rfl))
              | 133, _ => exact hout 133 (notDst_spec (by kernel_rfl))
              | 134, _ => exact hout 134 (notDst_spec (by kernel_rfl))
              | 135, _ => exact hout 135 (notDst_spec (by kernel_rfl))
              | 136, _ => exact hout 136 (notDst_spec (by kernel_rfl))
              | 137, _ => exact hout 137 (notDst_spec (by kernel_rfl))
              | 138, _ => exact hout 138 (notDst_spec (by kernel_rfl))
              | 139, _ => exact hout 139 (notDst_spec (by kernel_rfl))
              | 140, _ => exact hout 140 (notDst_spec (by kernel_rfl))
              | 141, _ => exact hout 141 (notDst_spec (by kernel_rfl))
              | 142, _ => exact hout 142 (notDst_spec (by kernel_rfl))
              | 143, _ => exact hout 143 (notDst_spec (by kernel_rfl))
              | 144, _ => exact hout 144 (notDst_spec (by kernel_rfl))
              | 145, _ => exact hout 145 (notDst_spec (by kernel_rfl))
              | 146, _ => exact hout 146 (notDst_spec (by kernel_rfl))
              | 147, _ => exact hout 147 (notDst_spec (by kernel_rfl))
              | 148, _ => exact hout 148 (notDst_spec (by kernel_rfl))
              | 149, _ => exact hout 149 (notDst_spec (by kernel_rfl))
              | 150, _ => exact hout 150 (notDst_spec (by kernel_rfl))
              | 151, _ => exact hout 151 (notDst_spec (by kernel_rfl))
              | 152, _ => exact hout 152 (notDst_spec (by kernel_rfl))
              | 153, _ => exact hout 153 (notDst_spec (by kernel_rfl))
              | 154, _ => exact hout 154 (notDst_spec (by kernel_rfl))
              | 155, _ => exact hout 155 (notDst_spec (by kernel_rfl))
              | 156, _ => exact hout 156 (notDst_spec (by kernel_rfl))
              | 157, _ => exact hout 157 (notDst_spec (by kernel_rfl))
              | 158, _ => exact hout 158 (notDst_spec (by kernel_rfl))
              | 159, _ => exact hout 159 (notDst_spec (by kernel_rfl))
              | 160, _ => exact hout 160 (notDst_spec (by kernel_rfl))
              | 161, _ => exact hout 161 (notDst_spec (by kernel_rfl))
              | 162, _ => exact hout 162 (notDst_spec (by kernel_rfl))
              | 163, _ => exact hout 163 (notDst_spec (by kernel_rfl))
              | 164, _ => exact hout 164 (notDst_spec (by kernel_rfl))
              | 165, _ => exact hout 165 (notDst_spec (by kernel_rfl))
              | 166, _ => exact hout 166 (notDst_spec (by kernel_rfl))
              | 167, _ => exact hout 167 (notDst_spec (by kernel_rfl))
              | 168, _ => exact hout 168 (notDst_spec (by kernel_rfl))
              | 169, _ => exact hout 169 (notDst_spec (by kernel_rfl))
              | 170, _ => exact hout 170 (notDst_spec (by kernel_rfl))
              | 171, _ => exact hout 171 (notDst_spec (by kernel_rfl))
              | 172, _ => exact hout 172 (notDst_spec (by kernel_rfl))
              | 173, _ => exact hout 173 (notDst_spec (by kernel_rfl))
              | 174, _ => exact hout 174 (notDst_spec (by kernel_rfl))
              | 175, _ => exact hout 175 (notDst_spec (by kernel_rfl))
              | 176, _ => exact hout 176 (notDst_spec (by kernel_rfl))
              | 177, _ => exact hout 177 (notDst_spec (by kernel_rfl))
              | 178, _ => exact hout 178 (notDst_spec (by kernel_rfl))
              | 179, _ => exact hout 179 (notDst_spec (by kernel_rfl))
              | 180, _ => exact hval 0 180 (by decide) (by decide) rfl
              | 181, _ => exact hval 1 181 (by decide) (by decide) rfl
              | 182, _ => exact hval 2 182 (by decide) (by decide) rfl
              | 183, _ => exact hval 3 183 (by decide) (by decide) rfl
              | 184, _ => exact hval 4 184 (by decide) (by decide) rfl
              | 185, _ => exact hval 5 185 (by decide) (by decide) rfl
              | 186, _ => exact hval 6 186 (by decide) (by decide) rfl
              | 187, _ => exact hval 7 187 (by decide) (by decide) rfl
              | 188, _ => exact hval 8 188 (by decide) (by decide) rfl
              | 189, _ => exact hval 9 189 (by decide) (by decide) rfl
              | 190, _ => exact hval 10 190 (by decide) (by decide) rfl
              | 191, _ => exact hval 11 191 (by decide) (by decide) rfl
              | 192, _ => exact hval 12 192 (by decide) (by decide) rfl
              | 193, _ => exact hout 193 (notDst_spec (by kernel_rfl))
              | 194, _ => exact hout 194 (notDst_spec (by kernel_rfl))
              | 195, _ => exact hout 195 (notDst_spec (by kernel_rfl))
              | 196, _ => exact hout 196 (notDst_spec (by kernel_rfl))
              | 197, _ => exact hout 197 (notDst_spec (by kernel_rfl))
              | 198, _ => exact hout 198 (notDst_spec (by kernel_rfl))
              | 199, _ => exact hout 199 (notDst_spec (by kernel_rfl))
              | 200, _ => exact hout 200 (notDst_spec (by kernel_rfl))
              | 201, _ => exact hout 201 (notDst_spec (by kernel_rfl))
              | 202, _ => exact hout 202 (notDst_spec (by kernel_rfl))
              | 203, _ => exact hout 203 (notDst_spec (by kernel_rfl))
              | 204, _ => exact hout 204 (notDst_spec (by kernel_rfl))
              | 205, _ => exact hout 205 (notDst_spec (by kernel_rfl))
              | 206, _ => exact hout 206 (notDst_spec (by kernel_rfl))
              | n + 207, h => exact absurd h (by simp)
            obtain ⟨tt, dd⟩ := aa
            simp only at hat hdf
            subst hat hdf
            clear hsz hout hval hown ho
            simp only [List.getElem_toArray, List.getElem_cons_succ, List.getElem_cons_zero]
            go_simp
            go_wp2_with fail
            obtain ⟨W13, hW13⟩ : ∃ W13, W13 = (w12.setCell ⟨gy, pp, none⟩ (.int .u8 (x1 : Int))).drew := ⟨_, rfl⟩
            have HJB13 : Hid (JB W13 W.heap.size (.slice ba bs.length bc) bs) := by
              rw [hW13]
              exact JK.drew (k := .u8) (M := 256) (E := 5) (JK.setO (k := .u8) (M := 256) (E := 5) HJB12.out (p := ⟨gy, pp, none⟩) (fun g hg => by have := HBN.out g hg; show g ≠ gy; omega) _)
            have HY13 : Hid (JB W13 w9.heap.size (.slice (some ⟨gy, 0, none⟩) hb.length yc) (hb.set pp x1)) := by
              rw [hW13]
              exact JK.drew (k := .u8) (M := 256) (E := 5) (JB.set HY.out rfl HXB.out)
            have HB13 : Hid (Below w4.heap.size w4 W13) := by
              rw [hW13]
              exact (HB12.out.setCell (p := ⟨gy, pp, none⟩) (by show w4.heap.size ≤ gy; omega) _).drew
            rw [← hW13]
            clear hW13 HB12 HJB12 HY
            refine Calls.mono (HPRI.out _ (jb_isB HJB13.out)) ?_
            rintro e w14 ⟨rfl, b14⟩
            have HB14 := hd (HB13.out.trans (b14.mono HB13.out.size))
            have HY14 := hd (JK.keepAll (k := .u8) (M := 256) (E := 5) HY13.out b14)
            have HLD2 : Hid (Calls Try.prog 32 #[.slice (some ⟨gy, 0, none⟩) hb.length yc, .agg #[.int .i64 (bs.length : Int), .int .i64 (L.length : Int), .int .u32 (cg : Int)]] w14 fun e w' => e = .returned (.tuple #[.slice none 0 0, .int .i64 4]) ∧ Below w14.heap.size w14 w') := by
              have := load_is _ (hb.set pp x1) (bs.length : Int) (L.length : Int) cg w14 (jb_isB HY14.out)
              rw [HNDH.out] at this
              exact this
            clear b14 HB13 HY13 HJB13
            go_wp2_with fail
            refine Calls.mono HLD2.out ?_
            rintro e w15 ⟨rfl, b15⟩
            have HB15 := hd (HB14.out.trans (b15.mono HB14.out.size))
            clear b15 HB14 HLD2
            go_wp2_with fail
            have HFIN : Hid (Below w.heap.size w w15) := HBW.out.trans ((HB4.out.trans (HB15.out.mono HB4.out.size)).mono HBW.out.size)
            go_ret
            refine ⟨rfl, ?_⟩
            rw [HN.out]
            first
              | exact HFIN.out
              | exact ⟨HFIN.out.os, HFIN.out.tape, HFIN.out.output, HFIN.out.size, HFIN.out.block⟩
end Vt
end Go.Proofs.Ytlddogigbodilaa
