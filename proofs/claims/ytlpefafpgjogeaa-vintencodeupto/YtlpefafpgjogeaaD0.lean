/-
  THE WALKS OF the laws' own lent, kept and turned: bytes that are lent, with marked places behind them.
-/
import Derived.Test.YtlpefafpgjogeaaV7
namespace Go.Proofs.Ytlpefafpgjogeaa
open Go.RowKit
namespace Vt
/-- the bytes with the eight marked places behind them -/
def mk8 (l : List Nat) : List Nat := l ++ List.replicate 8 238
theorem mk8_len (l : List Nat) : (mk8 l).length = l.length + 8 := by simp [mk8]
theorem mk8_byt {l : List Nat} (h : Byt l) : Byt (mk8 l) := byt_app h (by intro x hx; have := List.eq_of_mem_replicate hx; omega)
theorem mk8_lo {l : List Nat} {j : Nat} (h : j < l.length) : (mk8 l).getD j 0 = l.getD j 0 := getD_app_left h
theorem mk8_hi {l : List Nat} {j : Nat} (h : l.length ≤ j) (h2 : j < l.length + 8) : (mk8 l).getD j 0 = 238 := by
  unfold mk8
  rw [List.getD_eq_getElem?_getD, List.getElem?_append_right h, List.getElem?_replicate, if_pos (by omega)]; rfl
theorem fill_step {F : List Nat} {j : Nat} (h : j < F.length) : (F.take j ++ List.replicate (F.length - j) 0).set j (F.getD j 0) = F.take (j + 1) ++ List.replicate (F.length - (j + 1)) 0 := by
  have e : F.length - j = (F.length - (j + 1)) + 1 := by omega
  rw [e, List.replicate_succ, List.set_append_right _ _ (by rw [List.length_take]; omega), List.length_take, show j - min j F.length = 0 by omega, List.set_cons_zero, take_succ_getD h, List.append_assoc]; rfl
set_option maxRecDepth 100000 in
set_option maxHeartbeats 400000 in
theorem lent_is (v : Value) (l : List Nat) (w : World) (hI : IsB w v l) (hm : l.length ≤ 140737488351232) :
    Calls Try.prog 6 #[v] w fun e w' => e = .returned (.slice (some ⟨w.heap.size, 0, none⟩) l.length (l.length + 8)) ∧ JB w' w.heap.size (.slice (some ⟨w.heap.size, 0, none⟩) (l.length + 8) (l.length + 8)) (mk8 l) ∧ Below w.heap.size w w' := by
  obtain ⟨i0, hi, hz0, hz1, hz2⟩ := info_parts info_u8
  have HI := hd hI
  obtain ⟨a, c, rfl⟩ := hI.shape
  clear hI
  go_enter Try.func6, Try.ntmps6
  go_wp2_with (at_make; refine wpList_make_full _ rfl _ _ 22 rfl w.heap.size 5 i0 (.int .u8 0) 1 Try.underlying22 hi hz0 hz1 .i64 .i64 ((l.length : Int) + 8) ((l.length : Int) + 8) (l.length + 8) rfl rfl rfl rfl (by rw [hz2]; omega) (by unfold maxLen; omega) (Nat.le_refl _) ?_; intro w1 hown hgrow)
  have HB1 : Hid (Below w.heap.size w w1) := (Below.refl _ _).grown hgrow (Nat.le_refl _) (fun k hk => by cases hk)
  have HO1 : Hid (JB w1 w.heap.size (.slice (some ⟨w.heap.size, 0, none⟩) (l.length + 8) (l.length + 8)) ((mk8 l).take 0 ++ List.replicate (l.length + 8 - 0) 0)) := by
    rw [List.take_zero, List.nil_append, Nat.sub_zero]
    refine ⟨by intro x hx; have := List.eq_of_mem_replicate hx; omega, ?_⟩
    rw [made8] at hown; rw [List.length_replicate]; exact hown
  clear hown hgrow
  go_loopw [4] (fun i wr => ∃ j : Nat, j ≤ l.length + 8 ∧ i = .int .i64 (j : Int) ∧ JB wr w.heap.size (.slice (some ⟨w.heap.size, 0, none⟩) (l.length + 8) (l.length + 8)) ((mk8 l).take j ++ List.replicate (l.length + 8 - j) 0) ∧ Below w.heap.size w wr) (fun i _ => l.length + 8 - (intOf i).toNat)
  case atStart => exact ⟨0, by omega, rfl, HO1.out, HB1.out⟩
  case round =>
    clear HO1 HB1
    obtain ⟨j, hj, rfl, hO, hB⟩ := hrel
    have HO := hd hO
    have HB := hd hB
    clear hO hB
    by_cases hlt : j < l.length + 8
    · have hll : l.length + 8 = ((mk8 l).take j ++ List.replicate (l.length + 8 - j) 0).length := by rw [List.length_append, List.length_replicate, List.length_take, mk8_len]; omega
      have hcell := HO.out.buf.cell (j := j) (by omega)
      have hfro := HO.out.buf.2.2.2.2.2 j (by omega)
      have hfs := fill_step (F := mk8 l) (j := j) (by rw [mk8_len]; exact hlt)
      rw [mk8_len] at hfs
      have HS := hd (HO.out.set (j := j) (y := 238) hll (by omega))
      by_cases hin : j < l.length
      · rw [mk8_lo hin] at hfs
        obtain ⟨hbl, _, ⟨rfl, _⟩ | ⟨bb, oo, cc, e, hlc, hcm, hbb, hrow⟩⟩ := HI.out
        · simp at hin
        · injection e with e1 e2 e3
          subst e1 e3
          have hx := getD_lt hbl j
          have hc2 : (wr.setCell ⟨w.heap.size, j, none⟩ (.int .u8 238)).cell? ⟨bb, oo + j, none⟩ = some (.int .u8 ((l.getD j 0 : Nat) : Int)) := by
            rw [World.cell?_setCell_other _ _ _ _ (by intro he; injection he with he; omega), HB.out.cell hbb]; exact hrow j hin
          have HS2 := hd (HS.out.set (j := j) (y := l.getD j 0) (by rw [List.length_set]; exact hll) hx)
          rw [List.set_set, hfs] at HS2
          have hc3 : (wr.setCell ⟨w.heap.size, j, none⟩ (.int .u8 238)).cell? ⟨w.heap.size, j, none⟩ = some (.int .u8 238) := World.cell?_setCell_same _ _ _ hcell
          have hf3 : (wr.setCell ⟨w.heap.size, j, none⟩ (.int .u8 238)).frozen? ⟨w.heap.size, j, none⟩ = false := by rw [World.frozen?_setCell]; exact hfro
          have HLL := hd hll
          clear hll hfs
          generalize l.getD j 0 = x at *
          go_wp2_with fail
          go_roundw
          case rel => exact ⟨j + 1, by omega, by go_num, HS2.out, (HB.out.setCell (p := ⟨w.heap.size, j, none⟩) (Nat.le_refl _) _).setCell (p := ⟨w.heap.size, j, none⟩) (Nat.le_refl _) _⟩
          case measure => simp [intOf]; omega
      · rw [mk8_hi (by omega) hlt] at hfs
        rw [hfs] at HS
        clear hll hfs
        go_wp2_with fail
        go_roundw
        case rel => exact ⟨j + 1, by omega, by go_num, HS.out, HB.out.setCell (Nat.le_refl _) _⟩
        case measure => simp [intOf]; omega
    · obtain rfl : j = l.length + 8 := by omega
      rw [Nat.sub_self, List.replicate_zero, List.append_nil, List.take_of_length_le (by rw [mk8_len]; omega)] at HO
      go_wp2_with fail
      go_ret
      exact ⟨rfl, HO.out, HB.out⟩
/-- what was lent, as a slice that reads as l -/
theorem lent_isB {w : World} {g cap : Nat} {l : List Nat} (h : Buf w g cap (mk8 l)) : IsB w (.slice (some ⟨g, 0, none⟩) l.length cap) l := by
  have h1 := (h.isB rfl).take l.length (by rw [mk8_len]; omega)
  have e : (mk8 l).take l.length = l := List.take_left' rfl
  rwa [e] at h1
set_option maxRecDepth 100000 in
set_option maxHeartbeats 1000000 in
theorem kept_is (g cap : Nat) (v : Value) (l : List Nat) (w : World) (hG : Buf w g cap (mk8 l)) (hI : IsB w v l) :
    Calls Try.prog 9 #[.slice (some ⟨g, 0, none⟩) l.length cap, v] w fun e w' => e = .returned (.bool true) ∧ ∃ n, w' = w.drewN n := by
  have HG := hd hG
  have HI := hd hI
  have hcap : l.length + 8 ≤ cap := by have := hG.1; rw [mk8_len] at this; exact this
  have hcm := hG.2.1
  unfold maxLen at hcm
  obtain ⟨a, c, rfl⟩ := hI.shape
  clear hG hI
  go_enter Try.func9, Try.ntmps9
  go_wp2_with fail
  go_loopw [4, 6] (fun o i wr => ∃ k n : Nat, k ≤ l.length + 8 ∧ o = .bool false ∧ i = .int .i64 (k : Int) ∧ wr = w.drewN n) (fun _ i _ => l.length + 8 - (intOf i).toNat)
  case atStart => exact ⟨0, 0, by omega, rfl, rfl, rfl⟩
  case round =>
    obtain ⟨k, n, hk, rfl, rfl, hwr⟩ := hrel
    have HWR := hd hwr
    by_cases hlt : k < l.length + 8
    · have cg : wr.cell? ⟨g, k, none⟩ = some (.int .u8 (((mk8 l).getD k 0 : Nat) : Int)) := by rw [hwr]; exact HG.out.cell (j := k) (by rw [mk8_len]; exact hlt)
      by_cases hin : k < l.length
      · rw [mk8_lo hin] at cg
        obtain ⟨_, _, ⟨rfl, _⟩ | ⟨bb, oo, cc, e, hlc, _, hbb, hrow⟩⟩ := HI.out
        · simp at hin
        · injection e with e1 e2 e3
          subst e1 e3
          have cb : wr.cell? ⟨bb, oo + k, none⟩ = some (.int .u8 ((l.getD k 0 : Nat) : Int)) := by rw [hwr]; exact hrow k hin
          generalize l.getD k 0 = p at cg cb
          clear hrow hwr
          have hin4 : ¬ l.length ≤ k := by omega
          go_wp2_with fail
          go_quiet (fail)
          go_wp2_with fail
          go_roundw
          case rel =>
            obtain ⟨q2, h2⟩ := drewN2 w n nq
            exact ⟨k + 1, q2, by omega, rfl, by go_num, by rw [HWR.out]; exact h2⟩
          case measure => simp [intOf]; omega
      · rw [mk8_hi (by omega) hlt] at cg
        have hin2 : ¬ ((k : Nat) : Int) < (l.length : Int) := by omega
        have hin3 : (l.length : Int) ≤ (k : Int) := by omega
        clear hwr
        go_wp2_with fail
        go_quiet (fail)
        go_wp2_with fail
        go_roundw
        case rel =>
          obtain ⟨q2, h2⟩ := drewN2 w n nq
          exact ⟨k + 1, q2, by omega, rfl, by go_num, by rw [HWR.out]; exact h2⟩
        case measure => simp [intOf]; omega
    · obtain rfl : k = l.length + 8 := by omega
      go_wp2_with fail
      go_ret
      exact ⟨by simp, n, by first | exact HWR.out | rfl⟩
set_option maxRecDepth 100000 in
set_option maxHeartbeats 400000 in
theorem turned_is (g cap m base : Nat) (F : List Nat) (w : World) (hG : Buf w g cap F) (hm : m ≤ F.length) (hbase : base ≤ g) :
    Calls Try.prog 10 #[.slice (some ⟨g, 0, none⟩) m cap] w fun e w' => (∃ v, e = .returned v) ∧ (∃ F', F'.length = F.length ∧ Buf w' g cap F') ∧ Below base w w' := by
  have HG := hd hG
  have hcm : F.length ≤ 9223372036854775807 := by have := hG.1; have := hG.2.1; unfold maxLen at this; omega
  clear hG
  go_enter Try.func10, Try.ntmps10
  go_wp2_with fail
  go_loopw [2] (fun i wr => ∃ k : Nat, k ≤ m ∧ i = .int .i64 (k : Int) ∧ (∃ F', F'.length = F.length ∧ Buf wr g cap F') ∧ Below base w wr) (fun i _ => m - (intOf i).toNat)
  case atStart => exact ⟨0, by omega, rfl, ⟨F, rfl, HG.out⟩, Below.refl _ _⟩
  case round =>
    obtain ⟨k, hk, rfl, ⟨F', hF, hB'⟩, hB⟩ := hrel
    have HF := hd hB'
    have HB := hd hB
    clear hB' hB HG
    by_cases hlt : k < m
    · have hcell := HF.out.cell (j := k) (by omega)
      have hfro := HF.out.2.2.2.2.2 k (by omega)
      have hp := getD_lt HF.out.2.2.2.1 k
      obtain ⟨y, hy⟩ : ∃ y, y = 1 + k % 2 := ⟨_, rfl⟩
      have hy2 : y < 256 := by omega
      have HS := hd (HF.out.set (j := k) (y := F'.getD k 0 ^^^ y) (by omega) (Nat.xor_lt_two_pow (n := 8) hp hy2))
      have HX := hd (u8_xor_nat (F'.getD k 0) y hp hy2)
      generalize F'.getD k 0 = p at *
      have HY := hd hy
      clear hy
      go_wp2_with fail
      rw [show (1 : Int) + (k : Int) % 2 = (y : Int) by rw [HY.out]; omega, HX.out]
      go_roundw
      case rel => exact ⟨k + 1, by omega, by go_num, ⟨_, by rw [List.length_set]; exact hF, HS.out⟩, HB.out.setCell (p := ⟨g, k, none⟩) hbase _⟩
      case measure => simp [intOf]; omega
    · obtain rfl : k = m := by omega
      go_wp2_with fail
      go_end0
      exact ⟨⟨_, rfl⟩, ⟨F', hF, HF.out⟩, HB.out⟩
end Vt
end Go.Proofs.Ytlpefafpgjogeaa
