/-
  THE REFERENCE OF LAYER 9: Print says what the program's says.
  THE WALKS OF the laws' own room and whole, and of the document's own Next.
  THE LAW's print (stage 9): Print is as the document says; what is handed in stays.
-/
import Derived.Test.YtcldcompflgbpaaMbm
import Derived.Test.YtcldcompflgbpaaMbn
import Derived.Test.YtcldcompflgbpaaMan
import Derived.Laws.CopyOwn
namespace Go.Proofs.Ytcldcompflgbpaa
open Go.RowKit Go.Shelf
namespace Vt
attribute [local go_sem] Oper.semAt_some
set_option maxRecDepth 100000 in
set_option maxHeartbeats 2000000 in
theorem r9_print (v : Value) (l : List Nat) (w : World) (hI : IsB w v l) (hl : l.length ≤ 16777216) :
    Calls Try.prog 37 #[v] w fun e w' => e = .returned (.agg (prv l.length (locs 0 l).length (Crc.go 0 l))) ∧ Below w.heap.size w w' := by
  obtain ⟨a, c, rfl⟩ := hI.shape
  have HI := hd hI
  clear hI
  have hmx : Try.prog.follows .mixedOrders = true := by kernel_rfl
  go_enter Try.func37, Try.ntmps37
  go_wp2_with fail
  refine Calls.mono (r5_all _ l _ (HI.out.below ((Below.refl _ _).alloc (Nat.le_refl _) _)) hl) ?_
  rintro e w1 ⟨u, rfl, hj, hb⟩
  obtain ⟨au, cu, rfl, hcu⟩ := hj.shape
  rw [List.length_map] at hcu ⊢
  have HB1 := hd (below_alloc1 hb)
  have HR1 := hd ((Blk.new w 52 [.int .i64 0, .int .i64 0, .int .u32 0]).keep hb)
  have HSU := hd (r1_sum _ l w1 (HI.out.below HB1.out) (by omega))
  clear hb hj
  go_wp2_with fail
  refine Calls.mono HSU.out ?_
  rintro e w2 ⟨rfl, hw2⟩
  subst hw2
  have y0 := HR1.out.cell 0 _ rfl
  have y1 := HR1.out.cell 1 _ rfl
  have y2 := HR1.out.cell 2 _ rfl
  have z0 := HR1.out.frozen 0
  have z1 := HR1.out.frozen 1
  have z2 := HR1.out.frozen 2
  clear HSU
  go_wp2_with fail
  have k2 := ((HR1.out.set (j := 0) (.int .i64 (l.length : Int))).set (j := 1) (.int .i64 ((locs 0 l).length : Int))).set (j := 2) (.int .u32 ((Crc.go 0 l : Nat) : Int))
  refine bodyPost_ret (results_cell_row rfl _ _ w.heap.size 52 #[.int .i64 (l.length : Int), .int .i64 ((locs 0 l).length : Int), .int .u32 ((Crc.go 0 l : Nat) : Int)] (0, 0) _ rfl k2 Try.underlying52 rfl (by kernel_rfl)) rfl ?_
  exact ⟨rfl, ((HB1.out.setCell (p := ⟨w.heap.size, 0, none⟩) (Nat.le_refl _) _).setCell (p := ⟨w.heap.size, 1, none⟩) (Nat.le_refl _) _).setCell (p := ⟨w.heap.size, 2, none⟩) (Nat.le_refl _) _⟩
end Vt
end Go.Proofs.Ytcldcompflgbpaa
namespace Go.Proofs.Ytcldcompflgbpaa
open Go.RowKit
namespace Vt
/-- the bytes with the eight marked places behind them -/
def mk8 (l : List Nat) : List Nat := l ++ List.replicate 8 238
theorem mk8_len (l : List Nat) : (mk8 l).length = l.length + 8 := by simp [mk8]
theorem mk8_byt {l : List Nat} (h : Byt l) : Byt (mk8 l) := byt_app h (by intro x hx; have := List.eq_of_mem_replicate hx; omega)
theorem mk8_lo {l : List Nat} {j : Nat} (h : j < l.length) : (mk8 l).getD j 0 = l.getD j 0 := getD_app_left h
theorem mk8_hi {l : List Nat} {j : Nat} (h : l.length ≤ j) (h2 : j < l.length + 8) : (mk8 l).getD j 0 = 238 := by
  unfold mk8
  rw [List.getD_eq_getElem?_getD, List.getElem?_append_right h, List.getElem?_replicate, if_pos (by omega)]; rfl
/-- a full row of the call's own is its block -/
theorem JB.block {w : World} {base g n : Nat} {l : List Nat} (h : JB w base (.slice (some ⟨g, 0, none⟩) n n) l) (hn : n = l.length) : w.heap[g]? = some (.cells (bs l).toArray 5 (0, 0)) := by
  subst hn
  obtain ⟨h1, h0, ⟨e, _⟩ | ⟨g', cap', cur, e, hbs, hh, hl, hm, hc, ht⟩⟩ := h
  · cases e
  · injection e with e1 e2 e3
    injection e1 with e1
    injection e1 with e1
    subst e1 e3
    rw [hh]
    congr 2
    have hcs : cur.toList.length = l.length := by rw [Array.length_toList, hc, Nat.mul_one]
    rw [Nat.mul_one, List.take_of_length_le (by omega)] at ht
    rw [← ht]
theorem jb_block {w : World} {base g n : Nat} {l : List Nat} (hb : Byt l) (hn : n = l.length) (hm : l.length ≤ maxLen) (hg : base ≤ g) (h : w.heap[g]? = some (.cells (bs l).toArray 5 (0, 0))) : JB w base (.slice (some ⟨g, 0, none⟩) n n) l := by
  subst hn
  refine ⟨hb, by rw [bs_len, Nat.mul_one], .inr ⟨g, l.length, (bs l).toArray, rfl, hg, h, Nat.le_refl _, hm, by simp [bs_len], ?_⟩⟩
  rw [Nat.mul_one]
  exact List.take_of_length_le (by simp [bs_len])
theorem splice_bs (l : List Nat) (n : Nat) : splice (bs (List.replicate (l.length + n) 0)) 0 (bs l) = bs (l ++ List.replicate n 0) := by
  unfold splice
  rw [List.take_zero, List.nil_append, Nat.zero_add, bs_len, ← bs_app]
  congr 1
  unfold bs
  rw [← List.map_drop, List.drop_replicate, show l.length + n - l.length = n by omega]
theorem fill8 {l : List Nat} {j : Nat} (h : j < 8) : (l ++ (List.replicate j 238 ++ List.replicate (8 - j) 0)).set (l.length + j) 238 = l ++ (List.replicate (j + 1) 238 ++ List.replicate (8 - (j + 1)) 0) := by
  rw [List.set_append_right _ _ (by omega), show l.length + j - l.length = j by omega, List.set_append_right _ _ (by simp), List.length_replicate, Nat.sub_self]
  congr 1
  rw [show 8 - j = (8 - (j + 1)) + 1 by omega, List.replicate_succ, List.set_cons_zero, List.replicate_succ', List.append_assoc]; rfl
theorem room_made {w : World} {base g n : Nat} (h : w.ownsRow base 5 1 (.slice (some ⟨g, 0, none⟩) n n) n (madeCells (Value.int .u8 0).cells (n * 1)).toList) : w.heap[g]? = some (.cells (bs (List.replicate n 0)).toArray 5 (0, 0)) := by
  rw [made8] at h
  exact JB.block (base := base) (n := n) ⟨by intro x hx; have := List.eq_of_mem_replicate hx; omega, by rw [List.length_replicate]; exact h⟩ (by simp)
theorem room_copy {w w1 : World} {a : Option Addr} {c : Nat} {l : List Nat} (ty : TypeId) (hm : l.length ≤ 140737488355328) (hI : IsB w (.slice a l.length c) l) (hB : Below w.heap.size w w1) (hg : w1.heap[w.heap.size]? = some (.cells (bs (List.replicate (l.length + 8) 0)).toArray 5 (0, 0))) :
    ∃ w2, (Builtin.copy_ #[22, 22] ty #[.slice (some ⟨w.heap.size, 0, none⟩) (l.length + 8) (l.length + 8), .slice a l.length c]).run Try.prog w1 = .ok (goInt l.length) w2 ∧ JB w2 w.heap.size (.slice (some ⟨w.heap.size, 0, none⟩) (l.length + 8) (l.length + 8)) (l ++ List.replicate 8 0) ∧ Below w.heap.size w w2 := by
  obtain ⟨i0, hi, hz0, hz1, hz2⟩ := info_parts info_u8
  have hs1 : (Try.prog.info? 5).map (·.size) = some 1 := by rw [hi]; simp [hz1]
  have hby : Byt (l ++ List.replicate 8 0) := byt_app hI.1 (by intro x hx; have := List.eq_of_mem_replicate hx; omega)
  have hfin : ∀ w2 : World, w2.heap[w.heap.size]? = some (.cells (bs (l ++ List.replicate 8 0)).toArray 5 (0, 0)) → JB w2 w.heap.size (.slice (some ⟨w.heap.size, 0, none⟩) (l.length + 8) (l.length + 8)) (l ++ List.replicate 8 0) := fun w2 h =>
    jb_block hby (by simp) (by simp [maxLen]; omega) (Nat.le_refl _) h
  by_cases h0 : l.length = 0
  · obtain rfl : l = [] := List.length_eq_zero_iff.1 h0
    exact ⟨w1, run_copy_none w1 _ _ ty 5 _ _ _ _ _ _ Try.underlying22 hs1 (by simp), hfin w1 hg, hB⟩
  · obtain ⟨_, _, ⟨rfl, _⟩ | ⟨bb, oo, cc, e, _, _, hbb, hrow⟩⟩ := hI
    · simp at h0
    · injection e with e1 e2 e3
      subst e1
      have hrun := run_copy_row (P := Try.prog) w1 22 22 ty 5 w.heap.size 0 (l.length + 8) (l.length + 8) ⟨bb, oo, none⟩ l.length c _ 5 (bs l) Try.underlying22 hs1 hg (by rw [bs_len]; exact (Nat.min_eq_left (by omega)).symm) (news_of_row fun j hj => (hB.cell hbb).trans (hrow j hj)) (by simp [bs_len]) (bs_one l)
      rw [bs_len] at hrun
      refine ⟨_, hrun, hfin _ ?_, below_setRow hB (Nat.le_refl _) _⟩
      rw [setRow_heap _ _ _ _ _ _ hg]
      have := splice_bs l 8
      unfold splice at this
      rw [bs_len] at this
      simp only [List.append_assoc]
      rw [this]
/-- what was lent, as a slice that reads as l -/
theorem lent_isB {w : World} {g cap : Nat} {l : List Nat} (h : Buf w g cap (mk8 l)) : IsB w (.slice (some ⟨g, 0, none⟩) l.length cap) l := by
  have h1 := (h.isB rfl).take l.length (by rw [mk8_len]; omega)
  have e : (mk8 l).take l.length = l := List.take_left' rfl
  rwa [e] at h1
end Vt
end Go.Proofs.Ytcldcompflgbpaa
namespace Go.Proofs.Ytcldcompflgbpaa
open Go.RowKit Go.Shelf
namespace Vt
attribute [local go_sem] Oper.semAt_some
theorem eq_prv (n k s : Nat) (w : World) : (Op.equalIn 10000 52 (.agg (prv n k s)) (.agg (prv n k s))).run Try.prog w = .ok true w := by
  unfold prv
  simp [go_sem, Op.eqFields]
theorem eql_prv (n k s : Nat) (w : World) : (binOp .eql 52 (.agg (prv n k s)) (.agg (prv n k s))).run Try.prog w = .ok (.bool true) w := by
  rw [run_eql_struct, eq_prv]; rfl
set_option maxRecDepth 100000 in
set_option maxHeartbeats 2000000 in
theorem lprint_is (v : Value) (l : List Nat) (w : World) (hI : IsB w v l) (hm : l.length ≤ 10000000) :
    Calls Try.prog 8 #[v] w fun e w' => e = .returned (.bool true) ∧ Below w.heap.size w w' := by
  obtain ⟨i0, hi, hz0, hz1, hz2⟩ := info_parts info_u8
  have HI := hd hI
  obtain ⟨a, c, rfl⟩ := hI.shape
  have hmx : Try.prog.follows .mixedOrders = true := by kernel_rfl
  clear hI
  go_enter Try.func8, Try.ntmps8
  go_wp2_with (at_make; refine wpList_make_full _ rfl _ _ 22 rfl w.heap.size 5 i0 (.int .u8 0) 1 Try.underlying22 hi hz0 hz1 .i64 .i64 ((l.length : Int) + 8) ((l.length : Int) + 8) (l.length + 8) rfl rfl rfl rfl (by rw [hz2]; omega) (by unfold maxLen; omega) (Nat.le_refl _) ?_; intro w1 hown hgrow)
  have HB1 : Hid (Below w.heap.size w w1) := (Below.refl _ _).grown hgrow (Nat.le_refl _) (fun k hk => by cases hk)
  obtain ⟨w2, hrun, hj2, hb2⟩ := room_copy 3 (by omega) HI.out HB1.out (room_made hown)
  rw [hrun]
  have HJ2 := hd hj2
  have HB2 := hd hb2
  clear hown hgrow hrun HB1 hj2 hb2 hi hz0 hz1 hz2
  simp only [Result.andThen]
  rw [Oper.upon_value]
  go_wp2_with fail
  go_loopw [4] (fun i wr => ∃ j : Nat, j ≤ 8 ∧ i = .int .i64 ((l.length + j : Nat) : Int) ∧ JB wr w.heap.size (.slice (some ⟨w.heap.size, 0, none⟩) (l.length + 8) (l.length + 8)) (l ++ (List.replicate j 238 ++ List.replicate (8 - j) 0)) ∧ Below w.heap.size w wr) (fun i _ => l.length + 8 - (intOf i).toNat)
  case atStart => exact ⟨0, by omega, rfl, HJ2.out, HB2.out⟩
  case round =>
    clear HJ2 HB2
    obtain ⟨j, hj, rfl, hO, hB⟩ := hrel
    have HO := hd hO
    have HB := hd hB
    clear hO hB
    by_cases hlt : j < 8
    · obtain ⟨p, hp⟩ : ∃ p, p = l.length + j := ⟨_, rfl⟩
      have hll : l.length + 8 = (l ++ (List.replicate j 238 ++ List.replicate (8 - j) 0)).length := by simp; omega
      have hcell := HO.out.buf.cell (j := p) (by omega)
      have hfro := HO.out.buf.2.2.2.2.2 p (by omega)
      have HS := hd (HO.out.set (j := p) (y := 238) hll (by omega))
      rw [hp, fill8 hlt, ← hp] at HS
      have HP := hd hp
      have hp8 : p < l.length + 8 := by omega
      rw [← hp]
      clear hll hp
      go_wp2_with fail
      go_roundw
      case rel => exact ⟨j + 1, by omega, by have := HP.out; congr 1; omega, HS.out, HB.out.setCell (Nat.le_refl _) _⟩
      case measure => simp [intOf]; omega
    · obtain rfl : j = 8 := by omega
      have hh : l ++ (List.replicate 8 238 ++ List.replicate (8 - 8) 0) = mk8 l := by simp [mk8]
      rw [hh] at HO
      clear hh
      have hNw : w.heap.size < wr.heap.size := HO.out.lt.1
      have HU := hd HO.out.buf
      have HPR := hd (print_is _ l wr (lent_isB HU.out))
      have HRP := hd (fun w' (h : Below w.heap.size w w') => r9_print _ l w' (HI.out.below h) (by omega))
      have heq := eql_prv l.length (locs 0 l).length (Crc.go 0 l)
      obtain ⟨K, hK⟩ : ∃ K, K = (locs 0 l).length := ⟨_, rfl⟩
      obtain ⟨S, hS⟩ : ∃ S, S = Crc.go 0 l := ⟨_, rfl⟩
      rw [← hK, ← hS] at HPR HRP heq
      simp only [prv] at HPR HRP heq
      have HEQ := hd heq
      clear hK hS heq
      go_wp2_with fail
      refine Calls.mono HPR.out ?_
      rintro e w3 ⟨rfl, hb3⟩
      have HB3 := hd (HB.out.trans (hb3.mono HB.out.size))
      have HU3 := hd (HU.out.below hNw hb3)
      have hN3 : w.heap.size < w3.heap.size := Nat.lt_of_lt_of_le hNw hb3.size
      clear hb3 HPR HB HU HO
      go_wp2_with fail
      have HP3 := hd (Blk.new w3 52 [.int .i64 (l.length : Int), .int .i64 (K : Int), .int .u32 (S : Int)])
      refine Calls.mono (HRP.out _ (HB3.out.alloc (by omega) _)) ?_
      rintro e w4 ⟨rfl, hb4⟩
      have hb4' := below_alloc1 hb4
      have HB4 := hd (HB3.out.trans (hb4'.mono HB3.out.size))
      have HU4 := hd (HU3.out.below hN3 hb4')
      have HP4 := hd (HP3.out.keep hb4)
      have hs34 : w3.heap.size < w4.heap.size := by have := hb4.size; rw [World.size_alloc] at this; omega
      clear hb4 hb4' HB3 HU3 HP3 HRP
      go_wp2_with fail
      obtain ⟨Wa, hWa⟩ : ∃ Wa, Wa = w4.alloc (.cells #[.int .i64 (l.length : Int), .int .i64 (K : Int), .int .u32 (S : Int)] 52) := ⟨_, rfl⟩
      rw [← hWa]
      have hba : Below w4.heap.size w4 Wa := by rw [hWa]; exact (Below.refl _ _).alloc (Nat.le_refl _) _
      have HBa := hd (HB4.out.trans (hba.mono HB4.out.size))
      have HUa := hd (HU4.out.below (by omega) hba)
      have HPa := hd (HP4.out.keep hba)
      have HQa : Hid (Blk Wa w4.heap.size 52 [.int .i64 (l.length : Int), .int .i64 (K : Int), .int .u32 (S : Int)]) := hd (by rw [hWa]; exact Blk.new w4 _ _)
      clear hba hWa HB4 HU4 HP4
      go_loopw [7, 8] (fun o i wr => ∃ (j : Nat) (F : List Nat), j ≤ l.length + 8 ∧ i = .int .i64 (j : Int) ∧ o = .bool true ∧ F.length = l.length + 8 ∧ Buf wr w.heap.size (l.length + 8) F ∧ (∀ i, j ≤ i → F.getD i 0 = (mk8 l).getD i 0) ∧ Blk wr w3.heap.size 52 [.int .i64 (l.length : Int), .int .i64 (K : Int), .int .u32 (S : Int)] ∧ Blk wr w4.heap.size 52 [.int .i64 (l.length : Int), .int .i64 (K : Int), .int .u32 (S : Int)] ∧ Below w.heap.size w wr) (fun _ i _ => l.length + 8 - (intOf i).toNat)
      case atStart => exact ⟨0, mk8 l, by omega, rfl, rfl, mk8_len l, HUa.out, fun _ _ => rfl, HPa.out, HQa.out, HBa.out⟩
      case round =>
        obtain ⟨j, F, hj8, rfl, rfl, hF, hU, hat, hp, hq, hB⟩ := hrel
        have HU := hd hU
        have HAT := hd hat
        have HP := hd hp
        have HQ := hd hq
        have HB := hd hB
        have HFL := hd hF
        clear hU hat hp hq hB HUa HPa HQa HBa
        by_cases hlt8 : j < l.length + 8
        · have hcell := HU.out.cell (j := j) (by omega)
          have hfro := HU.out.2.2.2.2.2 j (by omega)
          rw [HAT.out j (Nat.le_refl _)] at hcell
          have HS := hd (HU.out.set (j := j) (y := 0) (by omega) (by decide))
          have HAT2 : Hid (∀ i, j + 1 ≤ i → (F.set j 0).getD i 0 = (mk8 l).getD i 0) := fun i hi => by
            rw [← HAT.out i (by omega), List.getD_eq_getElem?_getD, List.getD_eq_getElem?_getD, List.getElem?_set_ne (by omega)]
          have HLS : Hid ((F.set j 0).length = l.length + 8) := hd (by rw [List.length_set]; exact HFL.out)
          by_cases hlo : j < l.length
          · rw [mk8_lo hlo] at hcell
            obtain ⟨bb, oo, rfl⟩ : ∃ bb oo, a = some ⟨bb, oo, none⟩ := by
              obtain ⟨_, _, ⟨q, _⟩ | ⟨b', off', c', e, _⟩⟩ := HI.out
              · rw [q] at hlo; simp at hlo
              · injection e with e1; exact ⟨b', off', e1⟩
            have hb2 := (HI.out.below HB.out).row j hlo
            have hl1 : ((j : Nat) : Int) < (l.length : Int) := by omega
            generalize l.getD j 0 = x at *
            clear hF
            go_wp2_with fail
            go_quiet (fail)
            go_wp2_with fail
            go_roundw
            case rel => exact ⟨j + 1, F.set j 0, by omega, by go_num, rfl, HLS.out, (show Buf (wr.drewN nq) w.heap.size (l.length + 8) F from HU.out).set (by rw [HFL.out]; omega) (by decide), HAT2.out, (show Blk (wr.drewN nq) w3.heap.size 52 [.int .i64 (l.length : Int), .int .i64 (K : Int), .int .u32 (S : Int)] from HP.out).other (p := ⟨w.heap.size, j, none⟩) (by show w.heap.size ≠ w3.heap.size; omega) _, (show Blk (wr.drewN nq) w4.heap.size 52 [.int .i64 (l.length : Int), .int .i64 (K : Int), .int .u32 (S : Int)] from HQ.out).other (p := ⟨w.heap.size, j, none⟩) (by show w.heap.size ≠ w4.heap.size; omega) _, (below_drewN HB.out nq).setCell (p := ⟨w.heap.size, j, none⟩) (Nat.le_refl _) _⟩
            case measure => simp [intOf]; omega
          · rw [mk8_hi (by omega) hlt8] at hcell
            have hl1 : ¬ ((j : Nat) : Int) < (l.length : Int) := by omega
            have hl2 : (l.length : Int) ≤ (j : Int) := by omega
            clear hF
            go_wp2_with fail
            go_quiet (fail)
            go_wp2_with fail
            go_roundw
            case rel => exact ⟨j + 1, F.set j 0, by omega, by go_num, rfl, HLS.out, (show Buf (wr.drewN nq) w.heap.size (l.length + 8) F from HU.out).set (by rw [HFL.out]; omega) (by decide), HAT2.out, (show Blk (wr.drewN nq) w3.heap.size 52 [.int .i64 (l.length : Int), .int .i64 (K : Int), .int .u32 (S : Int)] from HP.out).other (p := ⟨w.heap.size, j, none⟩) (by show w.heap.size ≠ w3.heap.size; omega) _, (show Blk (wr.drewN nq) w4.heap.size 52 [.int .i64 (l.length : Int), .int .i64 (K : Int), .int .u32 (S : Int)] from HQ.out).other (p := ⟨w.heap.size, j, none⟩) (by show w.heap.size ≠ w4.heap.size; omega) _, (below_drewN HB.out nq).setCell (p := ⟨w.heap.size, j, none⟩) (Nat.le_refl _) _⟩
            case measure => simp [intOf]; omega
        · obtain rfl : j = l.length + 8 := by omega
          have heq := HEQ.out
          have c0 := HP.out.cell 0 _ rfl
          have c1 := HP.out.cell 1 _ rfl
          have c2 := HP.out.cell 2 _ rfl
          have d0 := HQ.out.cell 0 _ rfl
          have d1 := HQ.out.cell 1 _ rfl
          have d2 := HQ.out.cell 2 _ rfl
          clear hF
          go_wp2_with fail
          go_ret
          exact ⟨rfl, HB.out⟩
end Vt
end Go.Proofs.Ytcldcompflgbpaa
