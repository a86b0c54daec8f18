/-
  PROVED: for all texts b of bulk at most 1048576 the Go law ScanCover answers true and changes nothing that came in: extents cover every byte once; a frame is read at a frame's first byte alone.
-/
import Derived.Test.YtbcibgjphjlffaaSc6
import Derived.Test.YtbcibgjphjlffaaSc7
import Derived.JoinedCond
namespace Go.Proofs.Ytbcibgjphjlffaa
open Go.ChangeShapes Go.WideShapes Go.ChangeAt Go.RowKit Go.Shelf
namespace Sco
open Vt
theorem tiles_cons {l : List Nat} {at_ : Nat} {pj : Bool} {x : Ex} {r : List Ex} (h : Tiles l at_ pj (x :: r)) : ∃ (j : Bool) (n : Nat), x = (j, (at_ : Int), (n : Int)) ∧ 1 ≤ n ∧ at_ + n ≤ l.length ∧ (j = true → pj = false) ∧
      (∀ k, at_ ≤ k → k < at_ + n → ((dcd (l.drop k)).2.2 = 0 ↔ (j = false ∧ k = at_))) ∧ (j = false → (dcd (l.drop at_)).2.1 = n) ∧ Tiles l (at_ + n) j r := by
  obtain ⟨n, h1, h2, h3⟩ := h
  exact ⟨x.1, n, Prod.ext rfl (Prod.ext h1 h2), h3⟩
set_option maxRecDepth 100000 in
set_option maxHeartbeats 4000000 in
theorem walkB (v : Value) (l : List Nat) (w : World) (hI : IsB w v l) (hm : l.length ≤ 1048576) :
    Calls Try.prog 5 #[v] w fun e w' => e = .returned (.bool true) ∧ Below w.heap.size w w' := by
  obtain ⟨a, c, rfl⟩ := hI.shape
  have HI := hd hI
  have HTI := hd (tiles hI.1)
  clear hI
  go_enter Try.func5, Try.ntmps5
  go_wp2_with fail
  refine Calls.mono (extents_is _ l w HI.out (by omega)) ?_
  rintro e w1 ⟨u1, rfl, j1, b1⟩
  obtain ⟨E, hE⟩ : ∃ E, E = exts l := ⟨_, rfl⟩
  rw [← hE] at j1 HTI
  clear hE
  obtain ⟨a1, c1, rfl, hc1⟩ := j1.shape
  have hEl := j1.len_le
  rw [List.length_map] at hc1 hEl ⊢
  rw [List.length_map] at j1
  have J1 := hd j1
  have B1 := hd b1
  clear j1 b1
  go_wp2_with fail
  refine Calls.mono (works_is w1) ?_
  rintro e w2 ⟨rfl, b2⟩
  have J2 := hd (J1.out.keepAll b2)
  have B2 := hd (B1.out.trans (b2.mono B1.out.size))
  clear b2 J1 B1
  go_wp2_with fail
  go_loopw [5, 6] (fun p i wr => ∃ (k at_ : Nat) (pj : Bool), k ≤ E.length ∧ i = .int .i64 (k : Int) ∧ p = .int .i64 (at_ : Int) ∧ at_ ≤ l.length ∧ Tiles l at_ pj (E.drop k) ∧ (k = 0 ∨ 0 < k ∧ ∃ y, E[k - 1]? = some y ∧ y.1 = pj) ∧ Below w2.heap.size w2 wr) (fun _ i _ => E.length - (intOf i).toNat)
  case atStart => exact ⟨0, 0, false, by omega, rfl, rfl, by omega, HTI.out, .inl rfl, Below.refl _ _⟩
  case round =>
    obtain ⟨k, at_, pj, hk, rfl, rfl, hat, hT, hpj, hbr⟩ := hrel
    have HT := hd hT
    clear hT
    by_cases hlt : k < E.length
    · obtain ⟨x, hx⟩ : ∃ x, E[k]? = some x := ⟨E[k], List.getElem?_eq_getElem hlt⟩
      have hdr : E.drop k = x :: E.drop (k + 1) := by rw [List.drop_eq_getElem_cons hlt]; congr 1; rw [List.getElem?_eq_getElem hlt] at hx; injection hx
      rw [hdr] at HT
      obtain ⟨j, n, rfl, hn1, hn2, hjp, hfr, hfl, hT2⟩ := tiles_cons HT.out
      have HT2 := hd hT2
      have HFR := hd hfr
      have HFL := hd hfl
      clear HT hT2 hfr hfl hdr
      have jr := J2.out.keepAll hbr
      obtain ⟨g, c1', hv, hgc, hgm⟩ := jr.nn (by intro e; have := congrArg List.length e; rw [List.length_map] at this; simp at this; rw [this] at hlt; simp at hlt)
      injection hv with hv1 hv2 hv3
      subst hv1 hv3
      have hgl : g < w2.heap.size := J2.out.blk_lt g rfl
      have hxm : (E.map exv)[k]? = some [.bool j, .int .i64 (at_ : Int), .int .i64 (n : Int)] := by rw [List.getElem?_map, hx]; rfl
      have r0 : wr.cell? ⟨g, k * 3, none⟩ = some (.bool j) := jr.at k _ 0 _ hxm rfl
      have r1 : wr.cell? ⟨g, k * 3 + 1, none⟩ = some (.int .i64 (at_ : Int)) := jr.at k _ 1 _ hxm rfl
      have r2 : wr.cell? ⟨g, k * 3 + 2, none⟩ = some (.int .i64 (n : Int)) := jr.at k _ 2 _ hxm rfl
      have HBR := hd hbr
      have hsr := hbr.size
      unfold maxLen at hgm hEl
      clear jr hxm hbr hv2
      have hgr : g < wr.heap.size := by omega
      have hgr2 : ¬ g = wr.heap.size := by omega
      have hgr3 : ¬ wr.heap.size = g := by omega
      have q1 : decide ((n : Int) < 1) = false := by rw [decide_eq_false_iff_not]; omega
      have q2 : decide ((l.length : Int) - (at_ : Int) < (n : Int)) = false := by rw [decide_eq_false_iff_not]; omega
      cases j with
      | true =>
        have hpf := hjp rfl
        subst hpf
        clear hjp
        rcases hpj with rfl | ⟨hk0, y, hy, hyf⟩
        · simp only [Nat.zero_mul, Nat.zero_add] at r0 r1 r2
          go_wp2_with fail
          obtain ⟨X, hX⟩ : ∃ X, X = wr.heap.size := ⟨_, rfl⟩
          obtain ⟨Wx, hWx⟩ : ∃ Wx, Wx = wr.alloc (.cells #[.bool true, .int .i64 (at_ : Int), .int .i64 (n : Int)] 56) := ⟨_, rfl⟩
          have hsx : Wx.heap.size = X + 1 := by rw [hWx, hX]; simp
          have BKX : Hid (Blk Wx X 56 [.bool true, .int .i64 (at_ : Int), .int .i64 (n : Int)]) := by rw [hWx, hX]; exact Blk.new wr _ _
          have HBX : Hid (Below w2.heap.size w2 Wx) := by rw [hWx]; exact HBR.out.alloc hsr _
          rw [← hWx, ← hX]
          have HWx := hd hWx
          have HX := hd hX
          clear hWx hX r0 r1 r2 hgr hgr2 hgr3
          go_loopw [8] (fun i wq => ∃ q : Nat, at_ ≤ q ∧ q ≤ at_ + n ∧ i = .int .i64 (q : Int) ∧ Below Wx.heap.size Wx wq) (fun i _ => at_ + n - (intOf i).toNat)
          case atStart => exact ⟨at_, by omega, by omega, rfl, Below.refl _ _⟩
          case round =>
            obtain ⟨q, hq1, hq2, rfl, hbq⟩ := hrel
            have bkq := BKX.out.keep hbq
            have x0 : wr.cell? ⟨X, 0, none⟩ = some (.bool true) := bkq.cell 0 _ rfl
            have x1 : wr.cell? ⟨X, 1, none⟩ = some (.int .i64 (at_ : Int)) := bkq.cell 1 _ rfl
            have x2 : wr.cell? ⟨X, 2, none⟩ = some (.int .i64 (n : Int)) := bkq.cell 2 _ rfl
            have hsq := hbq.size
            have HBQ := hd hbq
            clear bkq hbq
            by_cases hlq : q < at_ + n
            · have hdec : decF l (q : Int) = dcd (l.drop q) := by unfold decF; rw [if_neg (by omega), Int.toNat_natCast]
              have HIQ := hd (HI.out.below ((B2.out.trans (HBX.out.mono B2.out.size)).trans (HBQ.out.mono (by have := HBX.out.size; have := B2.out.size; omega))))
              have HC := hd (decode_all _ l (q : Int) wr HIQ.out)
              rw [hdec] at HC
              clear hdec
              have hef := (HFR.out q hq1 hlq)
              have he : (dcd (l.drop q)).2.2 ≠ 0 := fun h => (by have := hef.1 h; cases this.1)
              obtain ⟨k1, k2⟩ := dcd_err he
              obtain ⟨f, m2, er, hdd⟩ : ∃ f m2 er, dcd (l.drop q) = (f, m2, er) := ⟨_, _, _, rfl⟩
              rw [hdd] at he k1 k2 HC
              simp only at he k1 k2
              subst k1 k2
              rw [dval_zf] at HC
              have he2 : ((er : Int) == 0) = false := by rw [beq_eq_false_iff_ne]; omega
              clear hdd hef
              go_wp2_with fail
              refine Calls.mono HC.out ?_
              rintro e w5 ⟨rfl, hb5⟩
              have y0 : w5.cell? ⟨X, 0, none⟩ = some (.bool true) := (hb5.cell (p := ⟨X, 0, none⟩) (by show X < wr.heap.size; omega)).trans x0
              have y1 : w5.cell? ⟨X, 1, none⟩ = some (.int .i64 (at_ : Int)) := (hb5.cell (p := ⟨X, 1, none⟩) (by show X < wr.heap.size; omega)).trans x1
              have y2 : w5.cell? ⟨X, 2, none⟩ = some (.int .i64 (n : Int)) := (hb5.cell (p := ⟨X, 2, none⟩) (by show X < wr.heap.size; omega)).trans x2
              have hs5 := hb5.size
              have z1 : X < w5.heap.size := by omega
              have z2 : ¬ X = w5.heap.size := by omega
              have z3 : ¬ w5.heap.size = X := by omega
              have HB5 := hd hb5
              clear HC hb5 x0 x1 x2
              go_wp2_with fail
              go_roundw
              case rel => first | exact ⟨q + 1, by omega, by omega, by go_num, (HBQ.out.trans (HB5.out.mono hsq)).alloc (by omega) _⟩ | ((repeat apply Exists.intro); exact ⟨⟨q + 1, by omega, by omega, by go_num, (HBQ.out.trans (HB5.out.mono hsq)).alloc (by omega) _⟩, rfl⟩)
              case measure => simp [intOf]; omega
            · obtain rfl : q = at_ + n := by omega
              go_wp2_with fail
              go_roundw
              case rel => exact ⟨0 + 1, at_ + n, true, by omega, by go_num, by go_num, by omega, HT2.out, .inr ⟨by omega, _, by rw [Nat.add_sub_cancel]; exact hx, rfl⟩, HBX.out.trans (HBQ.out.mono (by have := HBX.out.size; omega))⟩
              case measure => simp [intOf]; omega
        · obtain ⟨m, hkm⟩ : ∃ m, k = m + 1 := ⟨k - 1, by omega⟩
          have hk1 : (k : Int) - 1 = (m : Int) := by omega
          have hk2 : 0 < k := hk0
          rw [hkm, Nat.add_sub_cancel] at hy
          clear hkm
          have r3 : wr.cell? ⟨g, m * 3, none⟩ = some (.bool false) := by
            rw [← hyf]
            exact (J2.out.keepAll HBR.out).at m _ 0 _ (by rw [List.getElem?_map, hy]; rfl) rfl
          go_wp2_with fail
          obtain ⟨X, hX⟩ : ∃ X, X = wr.heap.size := ⟨_, rfl⟩
          obtain ⟨Wx, hWx⟩ : ∃ Wx, Wx = wr.alloc (.cells #[.bool true, .int .i64 (at_ : Int), .int .i64 (n : Int)] 56) := ⟨_, rfl⟩
          have hsx : Wx.heap.size = X + 1 := by rw [hWx, hX]; simp
          have BKX : Hid (Blk Wx X 56 [.bool true, .int .i64 (at_ : Int), .int .i64 (n : Int)]) := by rw [hWx, hX]; exact Blk.new wr _ _
          have HBX : Hid (Below w2.heap.size w2 Wx) := by rw [hWx]; exact HBR.out.alloc hsr _
          rw [← hWx, ← hX]
          have HWx := hd hWx
          have HX := hd hX
          clear hWx hX r0 r1 r2 r3 hk1 hk2 hgr hgr2 hgr3
          go_loopw [8] (fun i wq => ∃ q : Nat, at_ ≤ q ∧ q ≤ at_ + n ∧ i = .int .i64 (q : Int) ∧ Below Wx.heap.size Wx wq) (fun i _ => at_ + n - (intOf i).toNat)
          case atStart => exact ⟨at_, by omega, by omega, rfl, Below.refl _ _⟩
          case round =>
            obtain ⟨q, hq1, hq2, rfl, hbq⟩ := hrel
            have bkq := BKX.out.keep hbq
            have x0 : wr.cell? ⟨X, 0, none⟩ = some (.bool true) := bkq.cell 0 _ rfl
            have x1 : wr.cell? ⟨X, 1, none⟩ = some (.int .i64 (at_ : Int)) := bkq.cell 1 _ rfl
            have x2 : wr.cell? ⟨X, 2, none⟩ = some (.int .i64 (n : Int)) := bkq.cell 2 _ rfl
            have hsq := hbq.size
            have HBQ := hd hbq
            clear bkq hbq
            by_cases hlq : q < at_ + n
            · have hdec : decF l (q : Int) = dcd (l.drop q) := by unfold decF; rw [if_neg (by omega), Int.toNat_natCast]
              have HIQ := hd (HI.out.below ((B2.out.trans (HBX.out.mono B2.out.size)).trans (HBQ.out.mono (by have := HBX.out.size; have := B2.out.size; omega))))
              have HC := hd (decode_all _ l (q : Int) wr HIQ.out)
              rw [hdec] at HC
              clear hdec
              have hef := (HFR.out q hq1 hlq)
              have he : (dcd (l.drop q)).2.2 ≠ 0 := fun h => (by have := hef.1 h; cases this.1)
              obtain ⟨k1, k2⟩ := dcd_err he
              obtain ⟨f, m2, er, hdd⟩ : ∃ f m2 er, dcd (l.drop q) = (f, m2, er) := ⟨_, _, _, rfl⟩
              rw [hdd] at he k1 k2 HC
              simp only at he k1 k2
              subst k1 k2
              rw [dval_zf] at HC
              have he2 : ((er : Int) == 0) = false := by rw [beq_eq_false_iff_ne]; omega
              clear hdd hef
              go_wp2_with fail
              refine Calls.mono HC.out ?_
              rintro e w5 ⟨rfl, hb5⟩
              have y0 : w5.cell? ⟨X, 0, none⟩ = some (.bool true) := (hb5.cell (p := ⟨X, 0, none⟩) (by show X < wr.heap.size; omega)).trans x0
              have y1 : w5.cell? ⟨X, 1, none⟩ = some (.int .i64 (at_ : Int)) := (hb5.cell (p := ⟨X, 1, none⟩) (by show X < wr.heap.size; omega)).trans x1
              have y2 : w5.cell? ⟨X, 2, none⟩ = some (.int .i64 (n : Int)) := (hb5.cell (p := ⟨X, 2, none⟩) (by show X < wr.heap.size; omega)).trans x2
              have hs5 := hb5.size
              have z1 : X < w5.heap.size := by omega
              have z2 : ¬ X = w5.heap.size := by omega
              have z3 : ¬ w5.heap.size = X := by omega
              have HB5 := hd hb5
              clear HC hb5 x0 x1 x2
              go_wp2_with fail
              go_roundw
              case rel => first | exact ⟨q + 1, by omega, by omega, by go_num, (HBQ.out.trans (HB5.out.mono hsq)).alloc (by omega) _⟩ | ((repeat apply Exists.intro); exact ⟨⟨q + 1, by omega, by omega, by go_num, (HBQ.out.trans (HB5.out.mono hsq)).alloc (by omega) _⟩, rfl⟩)
              case measure => simp [intOf]; omega
            · obtain rfl : q = at_ + n := by omega
              go_wp2_with fail
              go_roundw
              case rel => exact ⟨k + 1, at_ + n, true, by omega, by go_num, by go_num, by omega, HT2.out, .inr ⟨by omega, _, by rw [Nat.add_sub_cancel]; exact hx, rfl⟩, HBX.out.trans (HBQ.out.mono (by have := HBX.out.size; omega))⟩
              case measure => simp [intOf]; omega
      | false =>
        go_wp2_with fail
        obtain ⟨X, hX⟩ : ∃ X, X = wr.heap.size := ⟨_, rfl⟩
        obtain ⟨Wx, hWx⟩ : ∃ Wx, Wx = wr.alloc (.cells #[.bool false, .int .i64 (at_ : Int), .int .i64 (n : Int)] 56) := ⟨_, rfl⟩
        have hsx : Wx.heap.size = X + 1 := by rw [hWx, hX]; simp
        have BKX : Hid (Blk Wx X 56 [.bool false, .int .i64 (at_ : Int), .int .i64 (n : Int)]) := by rw [hWx, hX]; exact Blk.new wr _ _
        have HBX : Hid (Below w2.heap.size w2 Wx) := by rw [hWx]; exact HBR.out.alloc hsr _
        rw [← hWx, ← hX]
        have HWx := hd hWx
        have HX := hd hX
        clear hWx hX r0 r1 r2 hgr hgr2 hgr3
        go_loopw [8] (fun i wq => ∃ q : Nat, at_ ≤ q ∧ q ≤ at_ + n ∧ i = .int .i64 (q : Int) ∧ Below Wx.heap.size Wx wq) (fun i _ => at_ + n - (intOf i).toNat)
        case atStart => exact ⟨at_, by omega, by omega, rfl, Below.refl _ _⟩
        case round =>
          obtain ⟨q, hq1, hq2, rfl, hbq⟩ := hrel
          have bkq := BKX.out.keep hbq
          have x0 : wr.cell? ⟨X, 0, none⟩ = some (.bool false) := bkq.cell 0 _ rfl
          have x1 : wr.cell? ⟨X, 1, none⟩ = some (.int .i64 (at_ : Int)) := bkq.cell 1 _ rfl
          have x2 : wr.cell? ⟨X, 2, none⟩ = some (.int .i64 (n : Int)) := bkq.cell 2 _ rfl
          have hsq := hbq.size
          have HBQ := hd hbq
          clear bkq hbq
          by_cases hlq : q < at_ + n
          · have hdec : decF l (q : Int) = dcd (l.drop q) := by unfold decF; rw [if_neg (by omega), Int.toNat_natCast]
            have HIQ := hd (HI.out.below ((B2.out.trans (HBX.out.mono B2.out.size)).trans (HBQ.out.mono (by have := HBX.out.size; have := B2.out.size; omega))))
            have HC := hd (decode_all _ l (q : Int) wr HIQ.out)
            rw [hdec] at HC
            clear hdec
            by_cases hqa : at_ = q
            · subst hqa
              have hok : (dcd (l.drop at_)).2.2 = 0 := (HFR.out at_ (by omega) (by omega)).2 (by simp)
              have hlen := HFL.out (by simp)
              obtain ⟨f, m2, er, hdd⟩ : ∃ f m2 er, dcd (l.drop at_) = (f, m2, er) := ⟨_, _, _, rfl⟩
              rw [hdd] at hok hlen HC
              simp only at hok hlen
              subst hok hlen
              obtain ⟨kk, ⟨rl, rk, rkey, rval⟩, ⟨pl, pk, pa, pn, pkey⟩, ⟨ec, eb, ef, es⟩⟩ := f
              have HDV : Hid (dval (⟨kk, ⟨rl, rk, rkey, rval⟩, ⟨pl, pk, pa, pn, pkey⟩, ⟨ec, eb, ef, es⟩⟩, m2, 0) = .tuple #[.agg #[.int .i64 kk, .int .u64 (rl : Int), .int .i64 rk, .string rkey, .string rval, .int .u64 (pl : Int), .int .i64 pk, .int .i64 pa, .int .i64 pn, .string pkey, .int .i64 ec, .int .i64 eb, .int .i64 ef, .int .u32 (es : Int)], .int .i64 (m2 : Int), .int .i64 0]) := rfl
              rw [HDV.out] at HC
              clear hdd HDV
              go_wp2_with fail
              refine Calls.mono HC.out ?_
              rintro e w5 ⟨rfl, hb5⟩
              have y0 : w5.cell? ⟨X, 0, none⟩ = some (.bool false) := (hb5.cell (p := ⟨X, 0, none⟩) (by show X < wr.heap.size; omega)).trans x0
              have y1 : w5.cell? ⟨X, 1, none⟩ = some (.int .i64 (at_ : Int)) := (hb5.cell (p := ⟨X, 1, none⟩) (by show X < wr.heap.size; omega)).trans x1
              have y2 : w5.cell? ⟨X, 2, none⟩ = some (.int .i64 (m2 : Int)) := (hb5.cell (p := ⟨X, 2, none⟩) (by show X < wr.heap.size; omega)).trans x2
              have hs5 := hb5.size
              have z1 : X < w5.heap.size := by omega
              have z2 : ¬ X = w5.heap.size := by omega
              have z3 : ¬ w5.heap.size = X := by omega
              have HB5 := hd hb5
              clear HC hb5 x0 x1 x2
              go_wp2_with fail
              go_roundw
              case rel => first | exact ⟨at_ + 1, by omega, by omega, by go_num, (HBQ.out.trans (HB5.out.mono hsq)).alloc (by omega) _⟩ | ((repeat apply Exists.intro); exact ⟨⟨at_ + 1, by omega, by omega, by go_num, (HBQ.out.trans (HB5.out.mono hsq)).alloc (by omega) _⟩, rfl⟩)
              case measure => simp [intOf]; omega
            · have hqb : ((q : Int) == (at_ : Int)) = false := by rw [beq_eq_false_iff_ne]; omega
              have hef := (HFR.out q hq1 hlq)
              have he : (dcd (l.drop q)).2.2 ≠ 0 := fun h => hqa (hef.1 h).2.symm
              obtain ⟨k1, k2⟩ := dcd_err he
              obtain ⟨f, m2, er, hdd⟩ : ∃ f m2 er, dcd (l.drop q) = (f, m2, er) := ⟨_, _, _, rfl⟩
              rw [hdd] at he k1 k2 HC
              simp only at he k1 k2
              subst k1 k2
              rw [dval_zf] at HC
              have he2 : ((er : Int) == 0) = false := by rw [beq_eq_false_iff_ne]; omega
              clear hdd hef
              go_wp2_with fail
              refine Calls.mono HC.out ?_
              rintro e w5 ⟨rfl, hb5⟩
              have y0 : w5.cell? ⟨X, 0, none⟩ = some (.bool false) := (hb5.cell (p := ⟨X, 0, none⟩) (by show X < wr.heap.size; omega)).trans x0
              have y1 : w5.cell? ⟨X, 1, none⟩ = some (.int .i64 (at_ : Int)) := (hb5.cell (p := ⟨X, 1, none⟩) (by show X < wr.heap.size; omega)).trans x1
              have y2 : w5.cell? ⟨X, 2, none⟩ = some (.int .i64 (n : Int)) := (hb5.cell (p := ⟨X, 2, none⟩) (by show X < wr.heap.size; omega)).trans x2
              have hs5 := hb5.size
              have z1 : X < w5.heap.size := by omega
              have z2 : ¬ X = w5.heap.size := by omega
              have z3 : ¬ w5.heap.size = X := by omega
              have HB5 := hd hb5
              clear HC hb5 x0 x1 x2
              go_wp2_with fail
              go_roundw
              case rel => first | exact ⟨q + 1, by omega, by omega, by go_num, (HBQ.out.trans (HB5.out.mono hsq)).alloc (by omega) _⟩ | ((repeat apply Exists.intro); exact ⟨⟨q + 1, by omega, by omega, by go_num, (HBQ.out.trans (HB5.out.mono hsq)).alloc (by omega) _⟩, rfl⟩)
              case measure => simp [intOf]; omega
          · obtain rfl : q = at_ + n := by omega
            go_wp2_with fail
            go_roundw
            case rel => exact ⟨k + 1, at_ + n, false, by omega, by go_num, by go_num, by omega, HT2.out, .inr ⟨by omega, _, by rw [Nat.add_sub_cancel]; exact hx, rfl⟩, HBX.out.trans (HBQ.out.mono (by have := HBX.out.size; omega))⟩
            case measure => simp [intOf]; omega
    · obtain rfl : k = E.length := by omega
      rw [List.drop_length] at HT
      have hat2 : at_ = l.length := HT.out
      subst hat2
      clear HT
      go_wp2_with fail
      go_ret
      exact ⟨rfl, B2.out.trans (hbr.mono B2.out.size)⟩
theorem walk (a0 : Option Addr) (len0 cap0 : Nat) (z0 : List Int) (w : World) (w0 : IsRow .u8 w a0 len0 cap0 z0) (hm : len0 ≤ 1048576) :
    Calls Try.prog 5 #[.slice a0 len0 cap0] w fun e w' => e = .returned (.bool true) ∧ Below w.heap.size w w' := by
  obtain ⟨l, hl, hI⟩ := w0.isB
  exact walkB _ l w hI (by omega)
/-- numbers weigh one each -/
theorem lits_bulk {H : Type} (k : IntKind) (zs : List Int) : zs.length ≤ Rows.uptoBulkAll (lits (H := H) k zs) := by
  induction zs with
  | nil => exact Nat.zero_le _
  | cons z r ih =>
    rw [show lits (H := H) k (z :: r) = .lit (.int k z) :: lits k r from rfl]
    simp only [Rows.uptoBulkAll, Rows.uptoBulk, List.length_cons]
    omega
set_option linter.unusedVariables false
set_option maxRecDepth 100000 in
theorem lifted (os : Os) (started : os.Started) (H : Type) (enc : TypeId × Value → H) (F : Stop.Interp) :
    ReturnsInHanded {} Try.checked os 5 .any ((Rows.OpenSpec.upto Rows.scanCoverSpec).pre6 enc Try.prog Try.f5 Rows.scanCoverUptoRow.domain false) (((Rows.OpenSpec.upto Rows.scanCoverSpec).at F).post enc Try.prog Try.f5 false true false false) := by
  refine returnsInHanded_of_cond (C := Try.checked) (s := Rows.OpenSpec.upto Rows.scanCoverSpec) (k := Rows.uptoSmall) rfl own started (by kernel_rfl) Try.func5
    (OpenSpec.witness (enc := enc) (C := Try.checked) (s := Rows.OpenSpec.upto Rows.scanCoverSpec) (k := Rows.uptoSmall) rfl false ⟨#[], #[.slice none 0 0], []⟩ 8 (by kernel_rfl) (by kernel_rfl) (by kernel_rfl)
      (x := ([.nil], [], [])) (by kernel_rfl) rfl (by kernel_rfl)) ?_
  intro W base args ds gs before hval0 hW _ hk0 _
  have hk : Rows.uptoBulkAll (ds ++ gs) ≤ 1048576 := of_decide_eq_true hk0
  clear hk0
  have hval : ∀ (j : Nat) t v, Try.f5.params[j]? = some t → args[j]? = some v → Value.okWide Try.prog W .any base t v := hval0
  have hW' := hW
  obtain ⟨p, q, hA0, hV, rfl, hfz, hnd⟩ := hW
  have hA : DataW.TrodAll enc Try.prog W 0 (fun _ => true) true Try.f5.params.toList args.toList ds p := hA0
  rw [Try.params5] at hA hval
  obtain ⟨v0, vs0, d0, ds0, p0, q0, hargs, rfl, rfl, h0, r0⟩ := trodAll_cons hA
  obtain ⟨rfl, rfl, rfl⟩ := trodAll_nil r0
  obtain rfl : args = #[v0] := by cases args; simp_all
  obtain ⟨rfl, rfl⟩ := trodVars_none hV
  have opens_u8 : ∀ (v : Value) (d : DataW H) (pl : List MemPlace) (a : Option Addr) (len cap : Nat), v = .slice a len cap → DataW.Trod enc Try.prog W 0 (fun _ => true) true 22 v d pl → ∃ zs, IsRow .u8 W a len cap zs ∧ len ≤ Rows.uptoBulk d := by
    rintro v d pl a len cap rfl ⟨fuel, hf⟩
    rcases open_ints Try.underlying22 Try.underlying5 (by kernel_rfl) hf with ⟨hcs, _⟩ | ⟨x, l, c, zs, hcs, _, hl, hm, hz, hx, hcell, hwz⟩
    · simp [Value.cells] at hcs
      obtain ⟨rfl, rfl, rfl⟩ := hcs
      exact ⟨[], .inl ⟨rfl, rfl, rfl, rfl⟩, by omega⟩
    · simp [Value.cells] at hcs
      obtain ⟨rfl, rfl, rfl⟩ := hcs
      have hz2 : zs.length = cap := by simpa using hz
      simp only [Prod.mk.injEq] at hx
      refine ⟨zs, .inr ⟨_, rfl, hl, hm, hz2, hcell, hwz⟩, ?_⟩
      rw [hx.1]
      have h1 := lits_bulk (H := H) .u8 (zs.take len)
      rw [List.length_take] at h1
      simp only [Rows.uptoBulk]
      omega
  obtain ⟨a0, len0, cap0, rfl⟩ := okWide_slice Try.underlying22 (hval 0 22 v0 rfl rfl)
  have k0 := h0
  have lt0 : ∀ x ∈ p0, x.block < W.heap.size := by obtain ⟨m, hm⟩ := k0; exact DataW.trod_lt m _ _ _ hm
  obtain ⟨z0, w0, b0⟩ := opens_u8 _ d0 p0 a0 len0 cap0 rfl h0
  have hm : len0 ≤ 1048576 := by
    simp only [List.cons_append, Rows.uptoBulkAll] at hk
    omega
  clear hA0 hval0
  refine (walk a0 len0 cap0 z0 W w0 hm).mono fun e W' ⟨he, bel⟩ => ?_
  subst he
  exact ⟨_, rfl, _, _, _, [], _, [], hW', trodAll_mk1 (shut_bool Try.underlying4 _), (trodAll_cons_mk (Below.trod laidOut (by kernel_rfl) (of_decide_eq_true (by kernel_rfl)) k0 bel lt0) trodAll_mk0), rfl, bel.frame _, fun h => by cases h⟩
theorem over : Rows.ScanCoverUptoSaid :=
  OpenClaim.holds_of_cond 5 Try.f5 rfl rfl rfl rfl rfl rfl rfl ⟨rfl, rfl, rfl, rfl, rfl⟩ rfl rfl rfl rfl rfl (by kernel_rfl) Try.func5 (by kernel_rfl)
    (of_decide_eq_true (by kernel_rfl)) (by unfold Func.isWrapper; first | (rw [if_pos (by decide +kernel)]; kernel_rfl) | (rw [if_neg (by decide +kernel)]; exact ⟨rfl, rfl⟩))
    (fun os started H enc _ F => lifted os started H enc F)
end Sco

theorem scanCover_upto : Rows.ScanCoverUptoSaid := Sco.over
#print axioms scanCover_upto
end Go.Proofs.Ytbcibgjphjlffaa
