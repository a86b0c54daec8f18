/-
  THE LAW's kept AND turned (stage 5).
  THE WALKS OF the law's own 'first' and 'known': the document's first example is written and read.
  A FRAME, A RECORD AS AN ARGUMENT: what the form of a call says of its cells.
  THE WALK OF the law's 'same' (are two lists of bytes the same?).
  A frame that is cut short is none.
  A BODY THAT IS FRAMED BY HAND, PLAINLY; rows of the call's own that were written out.
  THE REFERENCE OF LAYER 4: salvorref4.Of, in, kindOf, number.
-/
import Derived.Test.YtabfgoojhangnaaXebi
import Derived.Test.YtabfgoojhangnaaXeay
import Derived.Test.YtabfgoojhangnaaXebb
import Derived.Test.YtabfgoojhangnaaXebh
import Derived.Test.YtabfgoojhangnaaXeam
import Derived.Test.YtabfgoojhangnaaXeal
import Derived.Test.YtabfgoojhangnaaXeac
import Derived.Test.YtabfgoojhangnaaXeax
namespace Go.Proofs.Ytabfgoojhangnaa
open Go.RowKit
namespace Vt
set_option maxRecDepth 100000 in
set_option maxHeartbeats 1000000 in
theorem skept_is (g cap : Nat) (v : Value) (l : List Nat) (w : World) (hG : Buf w g cap (mk8 l)) (hI : IsB w v l) :
    Calls Try.prog 13 #[.slice (some ⟨g, 0, none⟩) l.length cap, v] w fun e w' => e = .returned (.bool true) ∧ ∃ n, w' = w.drewN n := by
  have HG := hd hG
  have HI := hd hI
  have hcap : l.length + 8 ≤ cap := by have := hG.1; rw [mk8_len] at this; exact this
  have hcm := hG.2.1
  unfold maxLen at hcm
  obtain ⟨a, c, rfl⟩ := hI.shape
  clear hG hI
  go_enter Try.func13, Try.ntmps13
  go_wp2_with fail
  go_loopw [4, 6] (fun o i wr => ∃ k n : Nat, k ≤ l.length + 8 ∧ o = .bool false ∧ i = .int .i64 (k : Int) ∧ wr = w.drewN n) (fun _ i _ => l.length + 8 - (intOf i).toNat)
  case atStart => exact ⟨0, 0, by omega, rfl, rfl, rfl⟩
  case round =>
    obtain ⟨k, n, hk, rfl, rfl, hwr⟩ := hrel
    have HWR := hd hwr
    by_cases hlt : k < l.length + 8
    · have cg : wr.cell? ⟨g, k, none⟩ = some (.int .u8 (((mk8 l).getD k 0 : Nat) : Int)) := by rw [hwr]; exact HG.out.cell (j := k) (by rw [mk8_len]; exact hlt)
      by_cases hin : k < l.length
      · rw [mk8_lo hin] at cg
        obtain ⟨_, _, ⟨rfl, _⟩ | ⟨bb, oo, cc, e, hlc, _, hbb, hrow⟩⟩ := HI.out
        · simp at hin
        · injection e with e1 e2 e3
          subst e1 e3
          have cb : wr.cell? ⟨bb, oo + k, none⟩ = some (.int .u8 ((l.getD k 0 : Nat) : Int)) := by rw [hwr]; exact hrow k hin
          generalize l.getD k 0 = p at cg cb
          clear hrow hwr
          have hin4 : ¬ l.length ≤ k := by omega
          go_wp2_with fail
          go_quiet (fail)
          go_wp2_with fail
          go_roundw
          case rel =>
            obtain ⟨q2, h2⟩ := drewN2 w n nq
            exact ⟨k + 1, q2, by omega, rfl, by go_num, by rw [HWR.out]; exact h2⟩
          case measure => simp [intOf]; omega
      · rw [mk8_hi (by omega) hlt] at cg
        have hin2 : ¬ ((k : Nat) : Int) < (l.length : Int) := by omega
        have hin3 : (l.length : Int) ≤ (k : Int) := by omega
        clear hwr
        go_wp2_with fail
        go_quiet (fail)
        go_wp2_with fail
        go_roundw
        case rel =>
          obtain ⟨q2, h2⟩ := drewN2 w n nq
          exact ⟨k + 1, q2, by omega, rfl, by go_num, by rw [HWR.out]; exact h2⟩
        case measure => simp [intOf]; omega
    · obtain rfl : k = l.length + 8 := by omega
      go_wp2_with fail
      go_ret
      exact ⟨by simp, n, by first | exact HWR.out | rfl⟩
set_option maxRecDepth 100000 in
set_option maxHeartbeats 400000 in
theorem sturned_is (g cap m base : Nat) (F : List Nat) (w : World) (hG : Buf w g cap F) (hm : m ≤ F.length) (hbase : base ≤ g) :
    Calls Try.prog 18 #[.slice (some ⟨g, 0, none⟩) m cap] w fun e w' => (∃ v, e = .returned v) ∧ (∃ F', F'.length = F.length ∧ Buf w' g cap F') ∧ Below base w w' := by
  have HG := hd hG
  have hcm : F.length ≤ 9223372036854775807 := by have := hG.1; have := hG.2.1; unfold maxLen at this; omega
  clear hG
  go_enter Try.func18, Try.ntmps18
  go_wp2_with fail
  go_loopw [2] (fun i wr => ∃ k : Nat, k ≤ m ∧ i = .int .i64 (k : Int) ∧ (∃ F', F'.length = F.length ∧ Buf wr g cap F') ∧ Below base w wr) (fun i _ => m - (intOf i).toNat)
  case atStart => exact ⟨0, by omega, rfl, ⟨F, rfl, HG.out⟩, Below.refl _ _⟩
  case round =>
    obtain ⟨k, hk, rfl, ⟨F', hF, hB'⟩, hB⟩ := hrel
    have HF := hd hB'
    have HB := hd hB
    clear hB' hB HG
    by_cases hlt : k < m
    · have hcell := HF.out.cell (j := k) (by omega)
      have hfro := HF.out.2.2.2.2.2 k (by omega)
      have hp := getD_lt HF.out.2.2.2.1 k
      obtain ⟨y, hy⟩ : ∃ y, y = 1 + k % 2 := ⟨_, rfl⟩
      have hy2 : y < 256 := by omega
      have HS := hd (HF.out.set (j := k) (y := F'.getD k 0 ^^^ y) (by omega) (Nat.xor_lt_two_pow (n := 8) hp hy2))
      have HX := hd (u8_xor_nat (F'.getD k 0) y hp hy2)
      generalize F'.getD k 0 = p at *
      have HY := hd hy
      clear hy
      go_wp2_with fail
      rw [show (1 : Int) + (k : Int) % 2 = (y : Int) by rw [HY.out]; omega, HX.out]
      go_roundw
      case rel => exact ⟨k + 1, by omega, by go_num, ⟨_, by rw [List.length_set]; exact hF, HS.out⟩, HB.out.setCell (p := ⟨g, k, none⟩) hbase _⟩
      case measure => simp [intOf]; omega
    · obtain rfl : k = m := by omega
      go_wp2_with fail
      go_end0
      exact ⟨⟨_, rfl⟩, ⟨F', hF, HF.out⟩, HB.out⟩
end Vt
end Go.Proofs.Ytabfgoojhangnaa
namespace Go.Proofs.Ytabfgoojhangnaa
open Go.RowKit
namespace Vt
def F0 : Fr := ofR ⟨1, 1, ⟨#[107]⟩, ⟨#[118]⟩⟩
theorem rf_F0 : rf F0 = 0 := by
  unfold rf
  rw [if_pos (.inl rfl)]
  unfold rfR
  rw [if_neg (fun q => q rfl), if_neg (by show ¬ (1 : Nat) = 0; omega), if_neg (fun q => q ⟨by show 1 ≤ 1; omega, by show 1 ≤ 64; omega⟩), if_neg (by show ¬ (if (1 : Int) = 2 then 0 else 2048) < 1; rw [if_neg (by omega)]; omega), if_neg (fun q => q rfl)]
theorem wf_F0 : F0.Wf := ⟨by show 1 < 18446744073709551616; omega, by show 0 < 18446744073709551616; omega, by show 0 < 4294967296; omega⟩
theorem bd_F0 : bd F0 = [1, 1, 1, 107, 118] := by
  have v1 : vrt 1 = [1] := vrt_small (by omega)
  unfold bd bp
  rw [if_pos (show F0.kind = 1 from rfl)]
  show ([[1], vs [1, 1], [107], [118]] : List (List Nat)).flatten = _
  simp [vs, v1]
theorem wr_F0 : wr (bd F0) = [1, 1, 1, 107, 118] := by rw [bd_F0]; decide
theorem en_F0 : ∃ s, en F0 = 167 :: ([0, 0, 5] ++ ([1, 1, 1, 107, 118] ++ s)) ∧ s.length = 5 := ⟨_, by rw [en_eq, wr_F0]; rfl, dg_len _ _⟩
theorem bodyOk_F0 : BodyOk F0 := fun w => body_1 1 ⟨#[107]⟩ ⟨#[118]⟩ w (by omega) rf_F0
theorem decF_zero {f : Fr} (hw : f.Wf) (h : rf f = 0) (r : List Nat) : decF (en f ++ r) 0 = (f, (en f).length, 0) := by
  unfold decF
  rw [if_neg (by have := en_pos f; rw [List.length_append]; omega), show (0 : Int).toNat = 0 from rfl, List.drop_zero]
  exact dcd_en hw h r
end Vt
end Go.Proofs.Ytabfgoojhangnaa
namespace Go.Proofs.Ytabfgoojhangnaa
open Go.ChangeShapes Go.WideShapes Go.ChangeAt Go.RowKit
namespace Vt
theorem cell_int {P : Program} {w : World} {r : Reach} {base : Nat} {t : TypeId} {k : IntKind} {v : Value} (ht : P.underlying t = some (.int k)) (h : Cell.okWide P w r base t v) : ∃ n, v = .int k n ∧ k.has n := by
  simp only [Cell.okWide, ht] at h
  cases v <;> simp_all [Cell.ok]
theorem cell_string {P : Program} {w : World} {r : Reach} {base : Nat} {t : TypeId} {v : Value} (ht : P.underlying t = some .string) (h : Cell.okWide P w r base t v) : ∃ s, v = .string s := by
  simp only [Cell.okWide, ht] at h
  cases v <;> simp_all [Cell.ok]
theorem has_u64 {n : Int} (h : IntKind.u64.has n) : 0 ≤ n ∧ n < 18446744073709551616 := by
  have e1 : IntKind.u64.min = 0 := rfl
  have e2 : IntKind.u64.max = 18446744073709551615 := rfl
  unfold IntKind.has at h
  rw [e1, e2] at h
  omega
theorem has_u32 {n : Int} (h : IntKind.u32.has n) : 0 ≤ n ∧ n < 4294967296 := by
  have e1 : IntKind.u32.min = 0 := rfl
  have e2 : IntKind.u32.max = 4294967295 := rfl
  unfold IntKind.has at h
  rw [e1, e2] at h
  omega
theorem cells_fr : Try.prog.cellTypes Try.prog.depth 54 = some [42, 43, 42, 9, 9, 43, 42, 3, 3, 9, 3, 3, 3, 48] := by kernel_rfl
theorem size_fr : Try.prog.cellsOf 54 = 14 := by kernel_rfl
theorem list14 {α : Type} {l : List α} (h : l.length = 14) : ∃ a b c d e f g i j k m n o p, l = [a, b, c, d, e, f, g, i, j, k, m, n, o, p] := by
  match l, h with
  | [a, b, c, d, e, f, g, i, j, k, m, n, o, p], _ => exact ⟨a, b, c, d, e, f, g, i, j, k, m, n, o, p, rfl⟩
theorem okW_struct {P : Program} {w : World} {r : Reach} {base : Nat} {t : TypeId} {fs : Array Field} {v : Value} (ht : P.underlying t = some (.struct fs)) (h : Value.okWide P w r base t v) : ∃ cs, v = .agg cs ∧ cs.size = P.cellsOf t ∧ Row.okWide P w r base t cs := by
  simp only [Value.okWide, ht] at h
  exact h
set_option maxRecDepth 100000 in
/-- a frame that comes in -/
theorem frame_arg {w : World} {r : Reach} {base : Nat} {v : Value} (h : Value.okWide Try.prog w r base 54 v) : ∃ f : Fr, v = .agg (fv f) ∧ f.Wf := by
  obtain ⟨cs, rfl, hsz, ts, hts, _, hcell⟩ := okW_struct Try.underlying54 h
  rw [size_fr] at hsz
  rw [cells_fr] at hts
  injection hts with hts
  subst hts
  obtain ⟨l⟩ := cs
  obtain ⟨v0, v1, v2, v3, v4, v5, v6, v7, v8, v9, v10, v11, v12, v13, rfl⟩ := list14 (l := l) (by simpa using hsz)
  have key : ∀ i v u, (#[v0, v1, v2, v3, v4, v5, v6, v7, v8, v9, v10, v11, v12, v13] : Array Value)[i]? = some v → [42, 43, 42, 9, 9, 43, 42, 3, 3, 9, 3, 3, 3, 48][i % 14]? = some u → Cell.okWide Try.prog w r base u v := by
    intro i v u hv hu
    obtain ⟨u', hu', hc⟩ := hcell i v hv
    have e : some u' = some u := hu'.symm.trans hu
    injection e with e
    subst e
    exact hc
  obtain ⟨n0, rfl, _⟩ := cell_int Try.underlying42 (key 0 _ _ rfl rfl)
  obtain ⟨n1, rfl, b1⟩ := cell_int Try.underlying43 (key 1 _ _ rfl rfl)
  obtain ⟨n2, rfl, _⟩ := cell_int Try.underlying42 (key 2 _ _ rfl rfl)
  obtain ⟨s3, rfl⟩ := cell_string Try.underlying9 (key 3 _ _ rfl rfl)
  obtain ⟨s4, rfl⟩ := cell_string Try.underlying9 (key 4 _ _ rfl rfl)
  obtain ⟨n5, rfl, b5⟩ := cell_int Try.underlying43 (key 5 _ _ rfl rfl)
  obtain ⟨n6, rfl, _⟩ := cell_int Try.underlying42 (key 6 _ _ rfl rfl)
  obtain ⟨n7, rfl, _⟩ := cell_int Try.underlying3 (key 7 _ _ rfl rfl)
  obtain ⟨n8, rfl, _⟩ := cell_int Try.underlying3 (key 8 _ _ rfl rfl)
  obtain ⟨s9, rfl⟩ := cell_string Try.underlying9 (key 9 _ _ rfl rfl)
  obtain ⟨n10, rfl, _⟩ := cell_int Try.underlying3 (key 10 _ _ rfl rfl)
  obtain ⟨n11, rfl, _⟩ := cell_int Try.underlying3 (key 11 _ _ rfl rfl)
  obtain ⟨n12, rfl, _⟩ := cell_int Try.underlying3 (key 12 _ _ rfl rfl)
  obtain ⟨n13, rfl, b13⟩ := cell_int Try.underlying48 (key 13 _ _ rfl rfl)
  have u1 : 0 ≤ n1 ∧ n1 < 18446744073709551616 := has_u64 b1
  have u5 : 0 ≤ n5 ∧ n5 < 18446744073709551616 := has_u64 b5
  have u13 : 0 ≤ n13 ∧ n13 < 4294967296 := has_u32 b13
  obtain ⟨m1, rfl⟩ : ∃ m : Nat, n1 = (m : Int) := ⟨n1.toNat, by omega⟩
  obtain ⟨m5, rfl⟩ : ∃ m : Nat, n5 = (m : Int) := ⟨n5.toNat, by omega⟩
  obtain ⟨m13, rfl⟩ : ∃ m : Nat, n13 = (m : Int) := ⟨n13.toNat, by omega⟩
  exact ⟨⟨n0, ⟨m1, n2, s3, s4⟩, ⟨m5, n6, n7, n8, s9⟩, ⟨n10, n11, n12, m13⟩⟩, rfl, by show m1 < _; omega, by show m5 < _; omega, by show m13 < _; omega⟩
end Vt
end Go.Proofs.Ytabfgoojhangnaa
namespace Go.Proofs.Ytabfgoojhangnaa
open Go.RowKit
namespace Vt
end Vt
end Go.Proofs.Ytabfgoojhangnaa
namespace Go.Proofs.Ytabfgoojhangnaa
open Go.ChangeShapes Go.WideShapes Go.ChangeAt Go.RowKit
namespace Vt
/-- a frame that is cut short -/
theorem dcd_cut {f : Fr} (hw : f.Wf) (h : rf f = 0) {j : Nat} (h1 : 1 ≤ j) (h2 : j < (en f).length) : decF ((en f).take j) 0 = (zf, 0, 43) := by
  have hEL := en_len f
  obtain ⟨hb1, hb2⟩ := bd_len hw h
  have hl := (wr_len (bd f)).2
  have hlen : ((en f).take j).length = j := by rw [List.length_take]; omega
  have hg : ((en f).take j).getD 0 0 = 167 := by
    rw [List.getD_eq_getElem?_getD, List.getElem?_take, if_pos (by omega), ← List.getD_eq_getElem?_getD]
    exact en_head f
  have hde : (en f).drop 1 = dg 3 (wr (bd f)).length ++ (wr (bd f) ++ dg 5 (Crc.go 0 (dg 3 (wr (bd f)).length ++ wr (bd f)))) := by rw [en_eq]; rfl
  have hdig : dig ((en f).take j) = (dg 3 (wr (bd f)).length).take (j - 1) := by
    unfold dig
    rw [List.drop_take, hde]
    have d3 := dg_len 3 (wr (bd f)).length
    rw [List.take_take, Nat.min_comm, ← List.take_take]
    rw [List.take_left' d3]
  have hlt : ∀ x ∈ dig ((en f).take j), x < 128 := by
    rw [hdig]
    intro x hx
    exact dg_lt _ _ x (List.mem_of_mem_take hx)
  unfold decF
  rw [if_neg (by rw [hlen]; omega), show (0 : Int).toNat = 0 from rfl, List.drop_zero]
  have hrl : rl ((en f).take j) = (0, 43) := by
    refine rl_43 hg hlt ?_
    rw [hlen]
    by_cases h4 : j < 4
    · exact .inl h4
    · refine .inr ?_
      rw [hdig, List.take_of_length_le (by rw [dg_len]; omega), nm_dg, p3]
      rw [hEL] at h2
      omega
  unfold dcd
  rw [hrl]
  rfl
end Vt
end Go.Proofs.Ytabfgoojhangnaa
namespace Go.Proofs.Ytabfgoojhangnaa
open Go.RowKit
namespace Vt
theorem dcd_raw (W : List Nat) (S : Nat) (hno : ∀ x ∈ W, x ≠ 167) (hl : W.length < 2097152) (hSS : Crc.go 0 (dg 3 W.length ++ W) = S) : decF (167 :: (dg 3 W.length ++ (W ++ dg 5 S))) 0 = match opF W with | none => (zf, 0, 45) | some f => (f, W.length + 9, 0) := by
  have hS := Crc.go_lt 0 (dg 3 W.length ++ W)
  rw [hSS] at hS
  have hN3 : nm (dg 3 W.length) = W.length := by rw [nm_dg, p3]; omega
  have hS5 : nm (dg 5 S) = S := by rw [nm_dg, p5]; omega
  have d3 := dg_len 3 W.length
  have d5 := dg_len 5 S
  have hdig : dig (167 :: (dg 3 W.length ++ (W ++ dg 5 S))) = dg 3 W.length := by
    unfold dig
    rw [List.drop_succ_cons, List.drop_zero, List.take_append_of_le_length (by omega), List.take_of_length_le (by omega)]
  have hlen : (167 :: (dg 3 W.length ++ (W ++ dg 5 S))).length = W.length + 9 := by simp [d3, d5]; omega
  have hrl : rl (167 :: (dg 3 W.length ++ (W ++ dg 5 S))) = (W.length, 0) := by
    have := rl_0 (l := 167 :: (dg 3 W.length ++ (W ++ dg 5 S))) rfl (by rw [hdig]; exact dg_lt _ _) (by rw [hlen]; omega) (by rw [hdig, hN3, hlen]; omega)
    rw [this, hdig, hN3]
  have h4 : (167 :: (dg 3 W.length ++ (W ++ dg 5 S))).drop 4 = W ++ dg 5 S := by
    rw [show (4 : Nat) = 3 + 1 by omega, List.drop_succ_cons, List.drop_left' d3]
  have hE : ((167 :: (dg 3 W.length ++ (W ++ dg 5 S))).drop 4).take W.length = W := by rw [h4, List.take_left]
  have hT : ((167 :: (dg 3 W.length ++ (W ++ dg 5 S))).drop (4 + W.length)).take 5 = dg 5 S := by
    rw [← List.drop_drop, h4, List.drop_left, List.take_of_length_le (by omega)]
  have hM : ((167 :: (dg 3 W.length ++ (W ++ dg 5 S))).drop 1).take (3 + W.length) = dg 3 W.length ++ W := by
    rw [List.drop_succ_cons, List.drop_zero, ← List.append_assoc, List.take_left' (by rw [List.length_append, d3])]
  unfold decF
  rw [if_neg (by rw [hlen]; omega), show (0 : Int).toNat = 0 from rfl, List.drop_zero]
  unfold dcd
  rw [hrl]
  simp only
  rw [hE, hT, hM, if_neg (by simp), if_neg (by rw [nx_none hno]; omega), if_neg (fun q => q ⟨dg_lt _ _, by rw [hS5, hSS]⟩)]
  cases opF W <;> rfl
theorem opF_wr {l : List Nat} (hb : Byt l) {f : Fr} (h : opF (wr l) = some f) : rf f = 0 ∧ f.Wf ∧ bd f = l := by
  unfold opF at h
  split at h
  · rename_i c
    obtain ⟨o1, o2, o3⟩ := c
    rw [plain_wr] at o2 o3 h
    injection h with h
    obtain ⟨q1, q2⟩ := bd_prs hb o3 (by rw [o2]) (by rw [o2])
    rw [h] at o3 q1 q2
    exact ⟨o3, q2, q1⟩
  · cases h
/-- a list that is written out is a row of the call's own -/
theorem jb_lit (w : World) (base : Nat) (l : List Nat) (cs : Array Value) (n g : Nat) (hg : g = w.heap.size) (hcs : cs = (bs l).toArray) (hn : n = l.length) (hb : Byt l) (hm : l.length ≤ maxLen) (hbase : base ≤ w.heap.size) : JB (w.alloc (.cells cs 5)) base (.slice (some ⟨g, 0, none⟩) n n) l := by
  subst hg hcs hn
  refine ⟨hb, by simp [bs], .inr ⟨w.heap.size, l.length, (bs l).toArray, rfl, hbase, ?_, Nat.le_refl _, hm, by simp [bs], by rw [Nat.mul_one]; exact List.take_of_length_le (by simp [bs])⟩⟩
  show (w.heap.push _)[w.heap.size]? = _
  rw [Array.getElem?_push_size]
theorem dg3_eq (N : Nat) (h : N < 2097152) : dg 3 N = [N / 16384, N / 128 % 128, N % 128] := by
  simp only [dg]
  simp
  omega
theorem dg5_eq (S : Nat) (h : S < 4294967296) : dg 5 S = [S / 268435456, S / 2097152 % 128, S / 16384 % 128, S / 128 % 128, S % 128] := by
  simp only [dg]
  simp
  omega
theorem JB.alloc {w : World} {base : Nat} {v : Value} {l : List Nat} (h : JB w base v l) (o : Obj) : JB (w.alloc o) base v l := h.keepAll ((Below.refl _ _).alloc (Nat.le_refl _) _)
end Vt
end Go.Proofs.Ytabfgoojhangnaa
namespace Go.Proofs.Ytabfgoojhangnaa
open Go.RowKit
namespace Vt
set_option maxHeartbeats 400000 in
theorem r4_in (n lo hi : Int) (w : World) : Calls Try.prog 77 #[.int .i64 n, .int .i64 lo, .int .i64 hi] w fun e w' => e = .returned (.bool (decide (lo ≤ n ∧ n ≤ hi))) ∧ w' = w := by
  by_cases h1 : lo ≤ n
  · by_cases h2 : n ≤ hi
    · rw [decide_eq_true (⟨h1, h2⟩ : lo ≤ n ∧ n ≤ hi)]
      have e : decide (n ≤ hi) = true := by simp; omega
      go_enter Try.func77, Try.ntmps77
      go_wp2
      go_ret
      exact ⟨rfl, rfl⟩
    · rw [decide_eq_false (show ¬ (lo ≤ n ∧ n ≤ hi) from fun q => h2 q.2)]
      have e : decide (n ≤ hi) = false := by simp; omega
      go_enter Try.func77, Try.ntmps77
      go_wp2
      go_ret
      exact ⟨rfl, rfl⟩
  · rw [decide_eq_false (show ¬ (lo ≤ n ∧ n ≤ hi) from fun q => h1 q.1)]
    go_enter Try.func77, Try.ntmps77
    go_wp2
    go_ret
    exact ⟨rfl, rfl⟩
set_option maxHeartbeats 400000 in
theorem r4_kindOf (k : Int) (w : World) : Calls Try.prog 76 #[.int .i64 k] w fun e w' => e = .returned (.bool (decide (k = 1 ∨ k = 2))) ∧ w' = w := by
  by_cases h1 : k = 1
  · subst h1
    go_enter Try.func76, Try.ntmps76
    go_wp2
    go_ret
    exact ⟨rfl, rfl⟩
  · by_cases h2 : k = 2
    · subst h2
      go_enter Try.func76, Try.ntmps76
      go_wp2
      go_ret
      exact ⟨rfl, rfl⟩
    · rw [decide_eq_false (show ¬ (k = 1 ∨ k = 2) by omega)]
      have e1 : (k == 1) = false := by simp; omega
      have e2 : (k == 2) = false := by simp; omega
      go_enter Try.func76, Try.ntmps76
      go_wp2
      go_ret
      exact ⟨rfl, rfl⟩
end Vt
end Go.Proofs.Ytabfgoojhangnaa
