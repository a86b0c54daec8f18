/-
  THE WALKS OF the law's lentNums, keptNums; of the document's own Varint, Encode, Size.
-/
import Derived.Test.YtlpefafpgjogeaaDg0
import Derived.Test.YtlpefafpgjogeaaOw2
namespace Go.Proofs.Ytlpefafpgjogeaa
open Go.RowKit
namespace En
open Vt Ow
abbrev E64 : TypeId := 29
theorem info_u64 : (Try.prog.info? 29).map (fun i => (i.zero, i.size, i.bytes)) = some (some (.int .u64 0), 1, 8) := by kernel_rfl
def mk7 (l : List Nat) : List Nat := l ++ List.replicate 8 77777
theorem mk7_len (l : List Nat) : (mk7 l).length = l.length + 8 := by simp [mk7]
theorem mk7_lo {l : List Nat} {j : Nat} (h : j < l.length) : (mk7 l).getD j 0 = l.getD j 0 := getD_app_left h
theorem mk7_hi {l : List Nat} {j : Nat} (h : l.length ≤ j) (h2 : j < l.length + 8) : (mk7 l).getD j 0 = 77777 := by
  unfold mk7
  rw [List.getD_eq_getElem?_getD, List.getElem?_append_right h, List.getElem?_replicate, if_pos (by omega)]; rfl
theorem made64 (n : Nat) : (madeCells (Value.int .u64 0).cells (n * 1)).toList = ks .u64 (List.replicate n 0) := by
  refine List.ext_getElem (by simp [madeCells, ks]) fun i h1 h2 => ?_
  simp [madeCells, ks, Value.cells, Nat.mod_one]
theorem ks_set (l : List Nat) (j x : Nat) : (ks .u64 l).set j (.int .u64 (x : Int)) = ks .u64 (l.set j x) := by unfold ks; rw [List.map_set]
theorem isN_of {w : World} {base g n cap : Nat} {l : List Nat} (h : JV E64 w base (.slice (some ⟨g, 0, none⟩) n cap) (ks .u64 l)) (hl : ∀ x ∈ l, x < 18446744073709551616) : IsN w (.slice (some ⟨g, 0, none⟩) n cap) l := by
  obtain ⟨h1, h2, h3, h4, _, h6⟩ := h.at
  rw [ks_len] at h1
  subst h1
  refine ⟨hl, by omega, .inr ⟨g, 0, cap, rfl, h2, h3, h4, fun j hj => ?_⟩⟩
  rw [Nat.zero_add]
  exact (h6 j _ (ks_at .u64 l j hj)).1
theorem lent_isN {w : World} {base g cap : Nat} {l : List Nat} (h : JV E64 w base (.slice (some ⟨g, 0, none⟩) (l.length + 8) cap) (ks .u64 (mk7 l))) (hl : ∀ x ∈ l, x < 18446744073709551616) : IsN w (.slice (some ⟨g, 0, none⟩) l.length cap) l := by
  have h1 := (isN_of h (by
    intro x hx
    rcases List.mem_append.1 hx with hx | hx
    · exact hl x hx
    · rw [List.eq_of_mem_replicate hx]; omega)).take l.length (by rw [mk7_len]; omega)
  have e : (mk7 l).take l.length = l := List.take_left' rfl
  rwa [e] at h1
set_option maxRecDepth 100000 in
set_option maxHeartbeats 400000 in
theorem lentNums_is (v : Value) (l : List Nat) (w : World) (hI : IsN w v l) (hm : l.length ≤ 17592186040000) :
    Calls Try.prog 19 #[v] w fun e w' => e = .returned (.slice (some ⟨w.heap.size, 0, none⟩) l.length (l.length + 8)) ∧ JV E64 w' w.heap.size (.slice (some ⟨w.heap.size, 0, none⟩) (l.length + 8) (l.length + 8)) (ks .u64 (mk7 l)) ∧ Below w.heap.size w w' := by
  obtain ⟨i0, hi, hz0, hz1, hz2⟩ := info_parts info_u64
  have HI := hd hI
  obtain ⟨a, c, rfl⟩ := hI.shape
  clear hI
  go_enter Try.func19, Try.ntmps19
  go_wp2_with (at_make; refine wpList_make_full _ rfl _ _ 45 rfl w.heap.size 29 i0 (.int .u64 0) 1 Try.underlying45 hi hz0 hz1 .i64 .i64 ((l.length : Int) + 8) ((l.length : Int) + 8) (l.length + 8) rfl rfl rfl rfl (by rw [hz2]; omega) (by unfold maxLen; omega) (Nat.le_refl _) ?_; intro w1 hown hgrow)
  have HB1 : Hid (Below w.heap.size w w1) := (Below.refl _ _).grown hgrow (Nat.le_refl _) (fun k hk => by cases hk)
  have HO1 : Hid (JV E64 w1 w.heap.size (.slice (some ⟨w.heap.size, 0, none⟩) (l.length + 8) (l.length + 8)) (ks .u64 ((mk7 l).take 0 ++ List.replicate (l.length + 8 - 0) 0))) := by
    rw [List.take_zero, List.nil_append, Nat.sub_zero]
    refine ⟨ks_one .u64 _, ?_⟩
    rw [made64] at hown; rw [ks_len, List.length_replicate]; exact hown
  clear hown hgrow hi hz0 hz1 hz2
  go_loopw [4] (fun i wr => ∃ j : Nat, j ≤ l.length + 8 ∧ i = .int .i64 (j : Int) ∧ JV E64 wr w.heap.size (.slice (some ⟨w.heap.size, 0, none⟩) (l.length + 8) (l.length + 8)) (ks .u64 ((mk7 l).take j ++ List.replicate (l.length + 8 - j) 0)) ∧ Below w.heap.size w wr) (fun i _ => l.length + 8 - (intOf i).toNat)
  case atStart => exact ⟨0, by omega, rfl, HO1.out, HB1.out⟩
  case round =>
    clear HO1 HB1
    obtain ⟨j, hj, rfl, hO, hB⟩ := hrel
    have HO := hd hO
    have HB := hd hB
    clear hO hB
    by_cases hlt : j < l.length + 8
    · have hll : ((mk7 l).take j ++ List.replicate (l.length + 8 - j) 0).length = l.length + 8 := by rw [List.length_append, List.length_replicate, List.length_take, mk7_len]; omega
      obtain ⟨hcell, hfro⟩ := HO.out.at.2.2.2.2.2 j _ (ks_at .u64 _ j (by rw [hll]; exact hlt))
      have hfs := fill_step (F := mk7 l) (j := j) (by rw [mk7_len]; exact hlt)
      rw [mk7_len] at hfs
      have HS := hd (HO.out.set (j := j) (by rw [ks_len, hll]) (u := .int .u64 ((77777 : Nat) : Int)) rfl)
      rw [ks_set] at HS
      have HLT : Hid (j + 1 ≤ l.length + 8) := hlt
      by_cases hin : j < l.length
      · rw [mk7_lo hin] at hfs
        obtain ⟨hbl, _, ⟨rfl, _⟩ | ⟨bb, oo, cc, e, hlc, hcm, hbb, hrow⟩⟩ := HI.out
        · simp at hin
        · injection e with e1 e2 e3
          subst e1 e3
          have hc2 : (wr.setCell ⟨w.heap.size, j, none⟩ (.int .u64 77777)).cell? ⟨bb, oo + j, none⟩ = some (.int .u64 ((l.getD j 0 : Nat) : Int)) := by
            rw [World.cell?_setCell_other _ _ _ _ (by intro he; injection he with he; omega), HB.out.cell hbb]; exact hrow j hin
          have HS2 := hd (HS.out.set (j := j) (by rw [ks_len, List.length_set, hll]) (u := .int .u64 ((l.getD j 0 : Nat) : Int)) rfl)
          rw [ks_set, List.set_set, hfs] at HS2
          have hc3 : (wr.setCell ⟨w.heap.size, j, none⟩ (.int .u64 77777)).cell? ⟨w.heap.size, j, none⟩ = some (.int .u64 77777) := World.cell?_setCell_same _ _ _ hcell
          have hf3 : (wr.setCell ⟨w.heap.size, j, none⟩ (.int .u64 77777)).frozen? ⟨w.heap.size, j, none⟩ = false := by rw [World.frozen?_setCell]; exact hfro
          clear hll hfs
          generalize l.getD j 0 = x at *
          go_wp2_with fail
          go_roundw
          case rel => exact ⟨j + 1, by omega, by go_num, HS2.out, (HB.out.setCell (p := ⟨w.heap.size, j, none⟩) (Nat.le_refl _) _).setCell (p := ⟨w.heap.size, j, none⟩) (Nat.le_refl _) _⟩
          case measure => simp [intOf]; omega
      · rw [mk7_hi (by omega) hlt] at hfs
        rw [hfs] at HS
        clear hll hfs
        go_wp2_with fail
        go_roundw
        case rel => exact ⟨j + 1, by omega, by go_num, HS.out, HB.out.setCell (Nat.le_refl _) _⟩
        case measure => simp [intOf]; omega
    · obtain rfl : j = l.length + 8 := by omega
      rw [Nat.sub_self, List.replicate_zero, List.append_nil, List.take_of_length_le (by rw [mk7_len]; omega)] at HO
      go_wp2_with fail
      go_ret
      exact ⟨rfl, HO.out, HB.out⟩
set_option maxRecDepth 100000 in
set_option maxHeartbeats 1000000 in
theorem keptNums_is (g cap base : Nat) (v : Value) (l : List Nat) (w : World) (hG : JV E64 w base (.slice (some ⟨g, 0, none⟩) (l.length + 8) cap) (ks .u64 (mk7 l))) (hI : IsN w v l) :
    Calls Try.prog 23 #[.slice (some ⟨g, 0, none⟩) l.length cap, v] w fun e w' => e = .returned (.bool true) ∧ ∃ n, w' = w.drewN n := by
  have HG := hd hG
  have HI := hd hI
  have hcap := hG.at.2.1
  have hcm := hG.at.2.2.1
  unfold maxLen at hcm
  obtain ⟨a, c, rfl⟩ := hI.shape
  clear hG hI
  go_enter Try.func23, Try.ntmps23
  go_wp2_with fail
  go_loopw [4, 6] (fun o i wr => ∃ k n : Nat, k ≤ l.length + 8 ∧ o = .bool false ∧ i = .int .i64 (k : Int) ∧ wr = w.drewN n) (fun _ i _ => l.length + 8 - (intOf i).toNat)
  case atStart => exact ⟨0, 0, by omega, rfl, rfl, rfl⟩
  case round =>
    obtain ⟨k, n, hk, rfl, rfl, hwr⟩ := hrel
    have HWR := hd hwr
    by_cases hlt : k < l.length + 8
    · have cg : wr.cell? ⟨g, k, none⟩ = some (.int .u64 (((mk7 l).getD k 0 : Nat) : Int)) := by rw [hwr]; exact (HG.out.at.2.2.2.2.2 k _ (ks_at .u64 _ k (by rw [mk7_len]; exact hlt))).1
      by_cases hin : k < l.length
      · rw [mk7_lo hin] at cg
        obtain ⟨_, _, ⟨rfl, _⟩ | ⟨bb, oo, cc, e, hlc, _, hbb, hrow⟩⟩ := HI.out
        · simp at hin
        · injection e with e1 e2 e3
          subst e1 e3
          have cb : wr.cell? ⟨bb, oo + k, none⟩ = some (.int .u64 ((l.getD k 0 : Nat) : Int)) := by rw [hwr]; exact hrow k hin
          generalize l.getD k 0 = p at cg cb
          clear hrow hwr
          have hin4 : ¬ l.length ≤ k := by omega
          go_wp2_with fail
          go_quiet (fail)
          go_wp2_with fail
          go_roundw
          case rel =>
            obtain ⟨q2, h2⟩ := drewN2 w n nq
            exact ⟨k + 1, q2, by omega, rfl, by go_num, by rw [HWR.out]; exact h2⟩
          case measure => simp [intOf]; omega
      · rw [mk7_hi (by omega) hlt] at cg
        have hin2 : ¬ ((k : Nat) : Int) < (l.length : Int) := by omega
        have hin3 : (l.length : Int) ≤ (k : Int) := by omega
        clear hwr
        go_wp2_with fail
        go_quiet (fail)
        go_wp2_with fail
        go_roundw
        case rel =>
          obtain ⟨q2, h2⟩ := drewN2 w n nq
          exact ⟨k + 1, q2, by omega, rfl, by go_num, by rw [HWR.out]; exact h2⟩
        case measure => simp [intOf]; omega
    · obtain rfl : k = l.length + 8 := by omega
      clear hwr
      go_wp2_with fail
      go_ret
      exact ⟨rfl, n, by first | exact HWR.out | rfl⟩
theorem jb_alloc {w : World} {base : Nat} {v : Value} {l : List Nat} (h : JB w base v l) (o : Obj) : JB (w.alloc o) base v l := h.keepAll ((Below.refl _ _).alloc (Nat.le_refl _) o)
set_option maxRecDepth 100000 in
set_option maxHeartbeats 1000000 in
theorem rvarint_is (n : Nat) (w : World) (hn : n < 18446744073709551616) : Calls Try.prog 29 #[.int .u64 (n : Int)] w fun e w' => ∃ u, e = .returned u ∧ JB w' w.heap.size u (vrt n) ∧ Below w.heap.size w w' := by
  have HT := hd (vrt_ten hn)
  go_enter Try.func29, Try.ntmps29
  go_wp2_with fail
  go_loopw [0, 3] (fun y v wi => ∃ (m : Nat) (pre : List Nat), m < 18446744073709551616 ∧ y = .int .u64 (m : Int) ∧ vrt n = pre ++ vrt m ∧ JB wi w.heap.size v pre ∧ Below w.heap.size w wi) (fun y _ _ => (intOf y).toNat)
  case atStart => exact ⟨n, [], hn, rfl, rfl, jb_nil _ _, Below.refl _ _⟩
  case round =>
    obtain ⟨m, pre, hm2, rfl, hv, hJ, hB⟩ := hrel
    have HJ := hd hJ
    have HB := hd hB
    have HV := hd hv
    have hsz := hB.size
    have hfit : pre.length + 1 ≤ 10 := by
      have h1 := HT.out
      have h2 := vrt_len m
      rw [hv, List.length_append] at h1
      omega
    clear hJ hB hv
    by_cases h128 : 128 ≤ m
    · have q : decide ((128 : Int) ≤ (m : Int)) = true := by simp; omega
      go_wp2_with (at_builtin; refine wpList_append_jb _ rfl _ _ rfl w.heap.size _ _ _ [m % 128 + 128] rfl rfl (jb_alloc HJ.out _) (lit_isK .u8 256 _ _ 5 [m % 128 + 128] 1 rfl (by simp) (by intro y hy; simp at hy; omega) (by simp [maxLen])) (pre.length + 1) rfl _ rfl (by omega) (by rw [World.size_alloc]; omega) ?_; intro a2 cap2 w2 hJ2 hg2 hc2)
      have HJ2 := hd hJ2
      have HB2 := hd ((jb_alloc HJ.out _).grown (HB.out.alloc hsz _) (Nat.le_refl _) (by rw [World.size_alloc]; omega) hg2)
      clear hJ2 hg2
      go_roundw
      case rel =>
        refine ⟨m / 128, pre ++ [m % 128 + 128], by omega, by go_num, ?_, HJ2.out, HB2.out⟩
        rw [HV.out, vrt_big h128, List.append_assoc]; rfl
      case measure => simp [intOf]; omega
    · have q : decide ((128 : Int) ≤ (m : Int)) = false := by simp; omega
      go_wp2_with (at_builtin; refine wpList_append_jb _ rfl _ _ rfl w.heap.size _ _ _ [m] rfl rfl (jb_alloc HJ.out _) (lit_isK .u8 256 _ _ 5 [m] 1 rfl (by simp) (by intro y hy; simp at hy; omega) (by simp [maxLen])) (pre.length + 1) rfl _ rfl (by omega) (by rw [World.size_alloc]; omega) ?_; intro a2 cap2 w2 hJ2 hg2 hc2)
      have HJ2 := hd hJ2
      have HB2 := hd ((jb_alloc HJ.out _).grown (HB.out.alloc hsz _) (Nat.le_refl _) (by rw [World.size_alloc]; omega) hg2)
      clear hJ2 hg2
      have HF : Hid (vrt n = pre ++ [m]) := by
        show vrt n = pre ++ [m]
        rw [HV.out, vrt_small (by omega)]
      rw [HF.out]
      go_ret
      exact ⟨_, rfl, HJ2.out, HB2.out⟩
set_option maxRecDepth 100000 in
set_option maxHeartbeats 1000000 in
theorem rencode_is (v : Value) (l : List Nat) (w : World) (hI : IsN w v l) (hm : l.length ≤ 14000000000000) : Calls Try.prog 21 #[v] w fun e w' => (∃ a k, e = .returned (.slice a (enc l).length k) ∧ JB w' w.heap.size (.slice a (enc l).length k) (enc l)) ∧ Below w.heap.size w w' := by
  have HI := hd hI
  obtain ⟨a, c, rfl⟩ := hI.shape
  have hN := hI.1
  clear hI
  go_enter Try.func21, Try.ntmps21
  go_wp2_with fail
  go_loopw [3, 4] (fun v i wr => ∃ (k : Nat) (a1 : Option Addr) (c1 : Nat), k ≤ l.length ∧ i = .int .i64 (k : Int) ∧ v = .slice a1 (enc (l.take k)).length c1 ∧ JB wr w.heap.size v (enc (l.take k)) ∧ Below w.heap.size w wr) (fun _ i _ => l.length - (intOf i).toNat)
  case atStart => exact ⟨0, none, 0, by omega, rfl, rfl, jb_nil _ _, Below.refl _ _⟩
  case round =>
    obtain ⟨k, a1, c1, hk, rfl, rfl, hJ, hB⟩ := hrel
    have HJ := hd hJ
    have HB := hd hB
    clear hJ hB
    by_cases hlt : k < l.length
    · have hki : ((k : Nat) : Int) < (l.length : Int) := by omega
      have hIr := HI.out.below HB.out
      have hx : l.getD k 0 < 18446744073709551616 := hN _ (by rw [List.getD_eq_getElem?_getD, List.getElem?_eq_getElem hlt]; exact List.getElem_mem hlt)
      have HT := hd (take_succ_getD hlt)
      have HLT : Hid (k + 1 ≤ l.length) := hlt
      obtain ⟨_, _, ⟨e0, _⟩ | ⟨bb, oo, cc, e, hlc, hcm, hbb, hrow⟩⟩ := hIr
      · rw [e0] at hlt; simp at hlt
      · injection e with e1 e2 e3
        subst e1 e3
        have hcell := hrow k hlt
        have hel : (enc (l.take k)).length ≤ 10 * k := by
          have := enc_len (l := l.take k) (fun x hx => hN x (List.mem_of_mem_take hx))
          rw [List.length_take] at this
          omega
        have hvt := vrt_ten hx
        have HES : Hid (enc (l.take (k + 1)) = enc (l.take k) ++ vrt (l.getD k 0)) := by
          show enc (l.take (k + 1)) = enc (l.take k) ++ vrt (l.getD k 0)
          rw [HT.out, enc_append, enc_cons]
          simp [enc]
        have HWS := hd HB.out.size
        clear hrow hk e2
        generalize l.getD k 0 = x at *
        go_wp2_with fail
        refine Calls.mono (rvarint_is x wr hx) ?_
        rintro e w2 ⟨u, rfl, hJ2, hB2⟩
        have HJ2 := hd hJ2
        have HJ1 := hd (HJ.out.keepAll hB2)
        have HB2 := hd (HB.out.trans (hB2.mono HB.out.size))
        clear hJ2 hB2
        have HEL : Hid ((enc (l.take k)).length + (vrt x).length = (enc (l.take (k + 1))).length) := by
          show (enc (l.take k)).length + (vrt x).length = (enc (l.take (k + 1))).length
          rw [HES.out, List.length_append]
        have hel2 : (enc (l.take (k + 1))).length ≤ 10 * k + 10 := by rw [← HEL.out]; omega
        go_wp2_with (at_builtin; refine wpList_append_jb _ rfl _ _ rfl w.heap.size _ _ (enc (l.take k)) (vrt x) rfl rfl HJ1.out HJ2.out.isB (enc (l.take (k + 1))).length HEL.out (enc (l.take (k + 1))) HES.out.symm (by omega) HB2.out.size ?_; intro a3 c3 w3 hJ3 hg3 hc3)
        have HJ3 := hd hJ3
        have HB3 := hd (HJ1.out.grown HB2.out (Nat.le_refl _) HB2.out.size hg3)
        clear hJ3 hg3
        go_roundw
        case rel => exact ⟨k + 1, a3, c3, HLT.out, by go_num, rfl, HJ3.out, HB3.out⟩
        case measure => have := HLT.out; simp [intOf]; omega
    · have hki : ¬ ((k : Nat) : Int) < (l.length : Int) := by omega
      have e : l.take k = l := List.take_of_length_le (by omega)
      have HF : Hid (JB wr w.heap.size (.slice a1 (enc (l.take k)).length c1) (enc l)) := by
        have := HJ.out
        rw [e] at this ⊢
        exact this
      have HEQ : Hid (enc (l.take k) = enc l) := by show enc (l.take k) = enc l; rw [e]
      clear hlt hk e
      go_wp2_with fail
      go_ret
      rw [← HEQ.out] at HF ⊢
      exact ⟨⟨_, _, rfl, HF.out⟩, HB.out⟩
theorem rsize_is (v : Value) (l : List Nat) (w : World) (hI : IsN w v l) (hm : l.length ≤ 14000000000000) : Calls Try.prog 24 #[v] w fun e w' => e = .returned (.int .i64 (((enc l).length : Nat) : Int)) ∧ Below w.heap.size w w' := by
  have hel := enc_len (l := l) hI.1
  go_enter Try.func24, Try.ntmps24
  go_wp2_with fail
  refine Calls.mono (rencode_is v l w hI hm) ?_
  rintro e w1 ⟨⟨a, k, rfl, _⟩, hB⟩
  have HB := hd hB
  clear hB
  go_wp2_with fail
  go_ret
  exact ⟨rfl, HB.out⟩
end En
end Go.Proofs.Ytlpefafpgjogeaa
