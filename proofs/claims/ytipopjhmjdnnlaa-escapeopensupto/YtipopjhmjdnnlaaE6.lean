/-
  THE WALKS OF the laws' own room and whole, and of the document's own Next.
-/
import Derived.Test.YtipopjhmjdnnlaaE5
import Derived.Laws.CopyOwn
namespace Go.Proofs.Ytipopjhmjdnnlaa
open Go.RowKit
namespace Vt
/-- the bytes with the eight marked places behind them -/
def mk8 (l : List Nat) : List Nat := l ++ List.replicate 8 238
theorem mk8_len (l : List Nat) : (mk8 l).length = l.length + 8 := by simp [mk8]
theorem mk8_byt {l : List Nat} (h : Byt l) : Byt (mk8 l) := byt_app h (by intro x hx; have := List.eq_of_mem_replicate hx; omega)
theorem mk8_lo {l : List Nat} {j : Nat} (h : j < l.length) : (mk8 l).getD j 0 = l.getD j 0 := getD_app_left h
theorem mk8_hi {l : List Nat} {j : Nat} (h : l.length ≤ j) (h2 : j < l.length + 8) : (mk8 l).getD j 0 = 238 := by
  unfold mk8
  rw [List.getD_eq_getElem?_getD, List.getElem?_append_right h, List.getElem?_replicate, if_pos (by omega)]; rfl
/-- a full row of the call's own is its block -/
theorem JB.block {w : World} {base g n : Nat} {l : List Nat} (h : JB w base (.slice (some ⟨g, 0, none⟩) n n) l) (hn : n = l.length) : w.heap[g]? = some (.cells (bs l).toArray 5 (0, 0)) := by
  subst hn
  obtain ⟨h1, h0, ⟨e, _⟩ | ⟨g', cap', cur, e, hbs, hh, hl, hm, hc, ht⟩⟩ := h
  · cases e
  · injection e with e1 e2 e3
    injection e1 with e1
    injection e1 with e1
    subst e1 e3
    rw [hh]
    congr 2
    have hcs : cur.toList.length = l.length := by rw [Array.length_toList, hc, Nat.mul_one]
    rw [Nat.mul_one, List.take_of_length_le (by omega)] at ht
    rw [← ht]
theorem jb_block {w : World} {base g n : Nat} {l : List Nat} (hb : Byt l) (hn : n = l.length) (hm : l.length ≤ maxLen) (hg : base ≤ g) (h : w.heap[g]? = some (.cells (bs l).toArray 5 (0, 0))) : JB w base (.slice (some ⟨g, 0, none⟩) n n) l := by
  subst hn
  refine ⟨hb, by rw [bs_len, Nat.mul_one], .inr ⟨g, l.length, (bs l).toArray, rfl, hg, h, Nat.le_refl _, hm, by simp [bs_len], ?_⟩⟩
  rw [Nat.mul_one]
  exact List.take_of_length_le (by simp [bs_len])
theorem splice_bs (l : List Nat) (n : Nat) : splice (bs (List.replicate (l.length + n) 0)) 0 (bs l) = bs (l ++ List.replicate n 0) := by
  unfold splice
  rw [List.take_zero, List.nil_append, Nat.zero_add, bs_len, ← bs_app]
  congr 1
  unfold bs
  rw [← List.map_drop, List.drop_replicate, show l.length + n - l.length = n by omega]
theorem fill8 {l : List Nat} {j : Nat} (h : j < 8) : (l ++ (List.replicate j 238 ++ List.replicate (8 - j) 0)).set (l.length + j) 238 = l ++ (List.replicate (j + 1) 238 ++ List.replicate (8 - (j + 1)) 0) := by
  rw [List.set_append_right _ _ (by omega), show l.length + j - l.length = j by omega, List.set_append_right _ _ (by simp), List.length_replicate, Nat.sub_self]
  congr 1
  rw [show 8 - j = (8 - (j + 1)) + 1 by omega, List.replicate_succ, List.set_cons_zero, List.replicate_succ', List.append_assoc]; rfl
theorem room_made {w : World} {base g n : Nat} (h : w.ownsRow base 5 1 (.slice (some ⟨g, 0, none⟩) n n) n (madeCells (Value.int .u8 0).cells (n * 1)).toList) : w.heap[g]? = some (.cells (bs (List.replicate n 0)).toArray 5 (0, 0)) := by
  rw [made8] at h
  exact JB.block (base := base) (n := n) ⟨by intro x hx; have := List.eq_of_mem_replicate hx; omega, by rw [List.length_replicate]; exact h⟩ (by simp)
theorem room_copy {w w1 : World} {a : Option Addr} {c : Nat} {l : List Nat} (ty : TypeId) (hm : l.length ≤ 140737488355328) (hI : IsB w (.slice a l.length c) l) (hB : Below w.heap.size w w1) (hg : w1.heap[w.heap.size]? = some (.cells (bs (List.replicate (l.length + 8) 0)).toArray 5 (0, 0))) :
    ∃ w2, (Builtin.copy_ #[22, 22] ty #[.slice (some ⟨w.heap.size, 0, none⟩) (l.length + 8) (l.length + 8), .slice a l.length c]).run Try.prog w1 = .ok (goInt l.length) w2 ∧ JB w2 w.heap.size (.slice (some ⟨w.heap.size, 0, none⟩) (l.length + 8) (l.length + 8)) (l ++ List.replicate 8 0) ∧ Below w.heap.size w w2 := by
  obtain ⟨i0, hi, hz0, hz1, hz2⟩ := info_parts info_u8
  have hs1 : (Try.prog.info? 5).map (·.size) = some 1 := by rw [hi]; simp [hz1]
  have hby : Byt (l ++ List.replicate 8 0) := byt_app hI.1 (by intro x hx; have := List.eq_of_mem_replicate hx; omega)
  have hfin : ∀ w2 : World, w2.heap[w.heap.size]? = some (.cells (bs (l ++ List.replicate 8 0)).toArray 5 (0, 0)) → JB w2 w.heap.size (.slice (some ⟨w.heap.size, 0, none⟩) (l.length + 8) (l.length + 8)) (l ++ List.replicate 8 0) := fun w2 h =>
    jb_block hby (by simp) (by simp [maxLen]; omega) (Nat.le_refl _) h
  by_cases h0 : l.length = 0
  · obtain rfl : l = [] := List.length_eq_zero_iff.1 h0
    exact ⟨w1, run_copy_none w1 _ _ ty 5 _ _ _ _ _ _ Try.underlying22 hs1 (by simp), hfin w1 hg, hB⟩
  · obtain ⟨_, _, ⟨rfl, _⟩ | ⟨bb, oo, cc, e, _, _, hbb, hrow⟩⟩ := hI
    · simp at h0
    · injection e with e1 e2 e3
      subst e1
      have hrun := run_copy_row (P := Try.prog) w1 22 22 ty 5 w.heap.size 0 (l.length + 8) (l.length + 8) ⟨bb, oo, none⟩ l.length c _ 5 (bs l) Try.underlying22 hs1 hg (by rw [bs_len]; exact (Nat.min_eq_left (by omega)).symm) (news_of_row fun j hj => (hB.cell hbb).trans (hrow j hj)) (by simp [bs_len]) (bs_one l)
      rw [bs_len] at hrun
      refine ⟨_, hrun, hfin _ ?_, below_setRow hB (Nat.le_refl _) _⟩
      rw [setRow_heap _ _ _ _ _ _ hg]
      have := splice_bs l 8
      unfold splice at this
      rw [bs_len] at this
      simp only [List.append_assoc]
      rw [this]
set_option maxRecDepth 100000 in
set_option maxHeartbeats 400000 in
theorem room_is (v : Value) (l : List Nat) (w : World) (hI : IsB w v l) (hm : l.length ≤ 140737488355328) :
    Calls Try.prog 9 #[v] w fun e w' => e = .returned (.slice (some ⟨w.heap.size, 0, none⟩) (l.length + 8) (l.length + 8)) ∧ JB w' w.heap.size (.slice (some ⟨w.heap.size, 0, none⟩) (l.length + 8) (l.length + 8)) (mk8 l) ∧ Below w.heap.size w w' := by
  obtain ⟨i0, hi, hz0, hz1, hz2⟩ := info_parts info_u8
  have HI := hd hI
  obtain ⟨a, c, rfl⟩ := hI.shape
  clear hI
  go_enter Try.func9, Try.ntmps9
  go_wp2_with (at_make; refine wpList_make_full _ rfl _ _ 22 rfl w.heap.size 5 i0 (.int .u8 0) 1 Try.underlying22 hi hz0 hz1 .i64 .i64 ((l.length : Int) + 8) ((l.length : Int) + 8) (l.length + 8) rfl rfl rfl rfl (by rw [hz2]; omega) (by unfold maxLen; omega) (Nat.le_refl _) ?_; intro w1 hown hgrow)
  have HB1 : Hid (Below w.heap.size w w1) := (Below.refl _ _).grown hgrow (Nat.le_refl _) (fun k hk => by cases hk)
  obtain ⟨w2, hrun, hj2, hb2⟩ := room_copy 3 hm HI.out HB1.out (room_made hown)
  rw [hrun]
  have HJ2 := hd hj2
  have HB2 := hd hb2
  clear hown hgrow hrun HB1 hj2 hb2
  simp only [Result.andThen]
  rw [Oper.upon_value]
  go_wp2_with fail
  go_loopw [4] (fun i wr => ∃ j : Nat, j ≤ 8 ∧ i = .int .i64 ((l.length + j : Nat) : Int) ∧ JB wr w.heap.size (.slice (some ⟨w.heap.size, 0, none⟩) (l.length + 8) (l.length + 8)) (l ++ (List.replicate j 238 ++ List.replicate (8 - j) 0)) ∧ Below w.heap.size w wr) (fun i _ => l.length + 8 - (intOf i).toNat)
  case atStart => exact ⟨0, by omega, rfl, HJ2.out, HB2.out⟩
  case round =>
    clear HJ2 HB2
    obtain ⟨j, hj, rfl, hO, hB⟩ := hrel
    have HO := hd hO
    have HB := hd hB
    clear hO hB
    by_cases hlt : j < 8
    · obtain ⟨p, hp⟩ : ∃ p, p = l.length + j := ⟨_, rfl⟩
      have hll : l.length + 8 = (l ++ (List.replicate j 238 ++ List.replicate (8 - j) 0)).length := by simp; omega
      have hcell := HO.out.buf.cell (j := p) (by omega)
      have hfro := HO.out.buf.2.2.2.2.2 p (by omega)
      have HS := hd (HO.out.set (j := p) (y := 238) hll (by omega))
      rw [hp, fill8 hlt, ← hp] at HS
      have HP := hd hp
      have hp8 : p < l.length + 8 := by omega
      rw [← hp]
      clear hll hp
      go_wp2_with fail
      go_roundw
      case rel => exact ⟨j + 1, by omega, by have := HP.out; congr 1; omega, HS.out, HB.out.setCell (Nat.le_refl _) _⟩
      case measure => simp [intOf]; omega
    · obtain rfl : j = 8 := by omega
      have hh : l ++ (List.replicate 8 238 ++ List.replicate (8 - 8) 0) = mk8 l := by simp [mk8]
      rw [hh] at HO
      clear hh
      go_wp2_with fail
      go_ret
      exact ⟨rfl, HO.out, HB.out⟩
/-- what was lent, as a slice that reads as l -/
theorem lent_isB {w : World} {g cap : Nat} {l : List Nat} (h : Buf w g cap (mk8 l)) : IsB w (.slice (some ⟨g, 0, none⟩) l.length cap) l := by
  have h1 := (h.isB rfl).take l.length (by rw [mk8_len]; omega)
  have e : (mk8 l).take l.length = l := List.take_left' rfl
  rwa [e] at h1
set_option maxRecDepth 100000 in
set_option maxHeartbeats 1000000 in
theorem whole_is (g cap : Nat) (v : Value) (l : List Nat) (w : World) (hG : Buf w g cap (mk8 l)) (hI : IsB w v l) :
    Calls Try.prog 13 #[.slice (some ⟨g, 0, none⟩) (l.length + 8) cap, v] w fun e w' => e = .returned (.bool true) ∧ ∃ n, w' = w.drewN n := by
  have HG := hd hG
  have HI := hd hI
  have hcap : l.length + 8 ≤ cap := by have := hG.1; rw [mk8_len] at this; exact this
  have hcm := hG.2.1
  unfold maxLen at hcm
  obtain ⟨a, c, rfl⟩ := hI.shape
  clear hG hI
  go_enter Try.func13, Try.ntmps13
  go_wp2_with fail
  go_loopw [4, 5] (fun o i wr => ∃ k n : Nat, k ≤ l.length + 8 ∧ o = .bool false ∧ i = .int .i64 (k : Int) ∧ wr = w.drewN n) (fun _ i _ => l.length + 8 - (intOf i).toNat)
  case atStart => exact ⟨0, 0, by omega, rfl, rfl, rfl⟩
  case round =>
    obtain ⟨k, n, hk, rfl, rfl, hwr⟩ := hrel
    have HWR := hd hwr
    by_cases hlt : k < l.length + 8
    · have cg : wr.cell? ⟨g, k, none⟩ = some (.int .u8 (((mk8 l).getD k 0 : Nat) : Int)) := by rw [hwr]; exact HG.out.cell (j := k) (by rw [mk8_len]; exact hlt)
      by_cases hin : k < l.length
      · rw [mk8_lo hin] at cg
        obtain ⟨_, _, ⟨rfl, _⟩ | ⟨bb, oo, cc, e, hlc, _, hbb, hrow⟩⟩ := HI.out
        · simp at hin
        · injection e with e1 e2 e3
          subst e1 e3
          have cb : wr.cell? ⟨bb, oo + k, none⟩ = some (.int .u8 ((l.getD k 0 : Nat) : Int)) := by rw [hwr]; exact hrow k hin
          generalize l.getD k 0 = p at cg cb
          clear hrow hwr
          have hin4 : ¬ l.length ≤ k := by omega
          go_wp2_with fail
          go_quiet (fail)
          go_wp2_with fail
          go_roundw
          case rel =>
            obtain ⟨q2, h2⟩ := drewN2 w n nq
            exact ⟨k + 1, q2, by omega, rfl, by go_num, by rw [HWR.out]; exact h2⟩
          case measure => simp [intOf]; omega
      · rw [mk8_hi (by omega) hlt] at cg
        have hin2 : ¬ ((k : Nat) : Int) < (l.length : Int) := by omega
        have hin3 : (l.length : Int) ≤ (k : Int) := by omega
        clear hwr
        go_wp2_with fail
        go_quiet (fail)
        go_wp2_with fail
        go_roundw
        case rel =>
          obtain ⟨q2, h2⟩ := drewN2 w n nq
          exact ⟨k + 1, q2, by omega, rfl, by go_num, by rw [HWR.out]; exact h2⟩
        case measure => simp [intOf]; omega
    · obtain rfl : k = l.length + 8 := by omega
      go_wp2_with fail
      go_ret
      exact ⟨by simp, n, by first | exact HWR.out | rfl⟩
end Vt
end Go.Proofs.Ytipopjhmjdnnlaa
