/-
  SegmentNarrow: a record is read at its own place alone. The walk. Conditions: those of the written theorem.
-/
import Derived.Test.YtnakaomgceoobaaGreatSg7
import Derived.Test.YtnakaomgceoobaaGreatSgo
namespace Go.Proofs.YtnakaomgceoobaaGreat
open Go.RowKit Go.Maps Go.Sort
namespace Sg
open Vt Dk
theorem lt_cell {w : World} {p : Addr} {v : Value} (h : w.cell? p = some v) : p.block < w.heap.size := by
  rcases Nat.lt_or_ge p.block w.heap.size with q | q
  · exact q
  · simp [World.cell?, Array.getElem?_eq_none q] at h
theorem rec_eql (f g : Rec) : ∃ b : Bool, (∀ w, (binOp .eql 38 (.agg (rv f)) (.agg (rv g))).run Tryz.prog w = .ok (.bool b) w) ∧ (f = g → b = true) := by
  by_cases h : f = g
  · subst h
    refine ⟨true, fun w => ?_, fun _ => rfl⟩
    have e : (Op.equalIn 10000 38 (.agg (rv f)) (.agg (rv f))).run Tryz.prog w = .ok true w := by
      unfold rv
      simp [go_sem, Op.eqFields]
    rw [run_eql_struct, e]; rfl
  · refine ⟨false, fun w => ?_, fun q => absurd q h⟩
    have e : (Op.equalIn 10000 38 (.agg (rv f)) (.agg (rv g))).run Tryz.prog w = .ok false w := by
      obtain ⟨a1, a2, a3, a4⟩ := f
      obtain ⟨b1, b2, b3, b4⟩ := g
      unfold rv
      simp [go_sem, Op.eqFields]
      intro h1 h2 h3 h4
      have inj : ∀ {x y : ByteArray}, x.toList = y.toList → x = y := fun {x y} q => by
        have := str_beq x y
        rw [q] at this
        simpa using this
      exact h (by rw [show a1 = b1 by omega, h2, inj h3, inj h4])
    rw [run_eql_struct, e]; rfl
theorem pl_eql (p1 p2 p3 sg : Nat) (qa qn : Int) : ∃ b : Bool, (∀ w, (binOp .eql 53 (.agg #[.int .u32 (p1 : Int), .int .i64 (p2 : Int), .int .i64 (p3 : Int)]) (.agg #[.int .u32 (sg : Int), .int .i64 qa, .int .i64 qn])).run Tryz.prog w = .ok (.bool b) w) ∧ (b = true ↔ p1 = sg ∧ (p2 : Int) = qa ∧ (p3 : Int) = qn) := by
  by_cases h : p1 = sg ∧ (p2 : Int) = qa ∧ (p3 : Int) = qn
  · obtain ⟨rfl, rfl, rfl⟩ := h
    refine ⟨true, fun w => ?_, by simp⟩
    have e : (Op.equalIn 10000 53 (.agg #[.int .u32 (p1 : Int), .int .i64 (p2 : Int), .int .i64 (p3 : Int)]) (.agg #[.int .u32 (p1 : Int), .int .i64 (p2 : Int), .int .i64 (p3 : Int)])).run Tryz.prog w = .ok true w := by
      simp [go_sem, Op.eqFields]
    rw [run_eql_struct, e]; rfl
  · refine ⟨false, fun w => ?_, by simpa using h⟩
    have e : (Op.equalIn 10000 53 (.agg #[.int .u32 (p1 : Int), .int .i64 (p2 : Int), .int .i64 (p3 : Int)]) (.agg #[.int .u32 (sg : Int), .int .i64 qa, .int .i64 qn])).run Tryz.prog w = .ok false w := by
      simp [go_sem, Op.eqFields]
      intro h1 h2 h3
      exact h ⟨by omega, h2, h3⟩
    rw [run_eql_struct, e]; rfl
theorem plc_small {lim evy k : Nat} {X : Ws × Ds} (h : Ok lim evy k X) (hk : k < 60) (l : Ln) : (plc l k X).2.1 ≤ 100000 ∧ (plc l k X).2.2 ≤ 1000 := by
  obtain ⟨_, _, h3, _, _, _, old, cur0, las, h4, h5, _, _⟩ := h.step hk l
  rw [h5]
  refine ⟨?_, lnR_len l k (by omega)⟩
  rcases h3.at_ with ⟨q, _⟩ | ⟨_, o, c, s, q, _, q3, _⟩
  · omega
  · have e := h4.laid.symm.trans q.laid
    rw [List.length_append] at e
    show cur0.length ≤ _
    omega
set_option maxRecDepth 100000 in
set_option maxHeartbeats 4000000 in
theorem narrow_walk (lim : Int) (v : Value) (ls : List Ln) (wh at_ sz : Int) (w : World) (h1 : -9223372036854775808 ≤ lim) (h2 : lim ≤ 9223372036854775807) (hL : IsL w.heap.size w v ls) (h3 : -9223372036854775808 ≤ wh) (h4 : wh ≤ 9223372036854775807) (h5 : -9223372036854775808 ≤ at_) (h6 : at_ ≤ 9223372036854775807) (h7 : -9223372036854775808 ≤ sz) (h8 : sz ≤ 9223372036854775807) :
    Calls Tryz.prog 4 #[.int .i64 lim, v, .int .i64 wh, .int .i64 at_, .int .i64 sz] w fun e w' => e = .returned (.bool true) ∧ Below w.heap.size w w' := by
  obtain ⟨a, c, rfl⟩ := hL.shape
  have hmx : Tryz.prog.follows .mixedOrders = true := by kernel_rfl
  have HFR := hd (fresh_is lim 0 w h1 h2 (by omega) (by omega))
  have HL := hd hL
  have HPW := hd (fun n (hn : 0 < n) (hn2 : n ≤ 9223372036854775807) w => pick9_is wh n w h3 h4 hn hn2)
  have HPA := hd (fun w => pick9_is at_ 41 w h5 h6 (by omega) (by omega))
  have HPS := hd (fun w => pick9_is sz 41 w h7 h8 (by omega) (by omega))
  have pa := pk_lt at_ (n := 41) (by omega)
  have ps := pk_lt sz (n := 41) (by omega)
  clear hL h3 h4 h5 h6 h7 h8
  generalize pk at_ 41 = xa at *
  generalize pk sz 41 = xs at *
  go_enter Tryz.func4, Tryz.ntmps4
  go_wp2_with fail
  refine Calls.mono HFR.out ?_
  rintro e w1 ⟨d, b, O, rfl, hK, hB, hbb, hO⟩
  have HWR := hd (written_is w.heap.size w1 b d O lim 0 (.slice a ls.length c) ls hK hO hbb hB.size (HL.out.below hB))
  have HB1 := hd hB
  clear hK hO hbb hB
  go_wp2_with fail
  refine Calls.mono HWR.out ?_
  rintro e w3 ⟨u, rfl, hW⟩
  obtain ⟨n, hn⟩ : ∃ n, n = min ls.length 60 := ⟨_, rfl⟩
  obtain ⟨X, hX⟩ : ∃ X, X = (w0S lim 0, ds0 1000000) := ⟨_, rfl⟩
  have hnl : n ≤ ls.length ∧ n ≤ 60 := by omega
  obtain ⟨segs, hsx⟩ := sx_all lim 0 ls n hnl.2
  have hok := sat_ok lim 0 ls n hnl.2
  rw [← hX] at hsx hok
  have hac : (sat ls X n).2.acts ≤ 300 := by have := hok.acts; omega
  rw [← hn, ← hX] at hW
  obtain ⟨ua, uc, hu, _⟩ := hW.row.shape
  rw [List.length_map, pls_len] at hu
  subst hu
  have HW := hd hW
  have HBW : Hid (Below w.heap.size w w3) := HB1.out.trans hW.bel
  have HSX := hd hsx
  have HAC := hd hac
  have HOK : Hid (∀ k, k ≤ 60 → Ok (64 + pk lim 400) (pk 0 6) k (sat ls X k)) := by rw [hX]; exact sat_ok lim 0 ls
  have HS0 : Hid (sat ls X 0 = X ∧ X.2 = ds0 1000000) := ⟨rfl, by rw [hX]⟩
  clear hW hX hn hsx hok hac
  obtain ⟨O3, hK3, hO3, hg3⟩ := HW.out.ex
  have HK3 := hd hK3
  have HO3 := hd hO3
  have HG3 := hd hg3
  clear hK3 hO3 hg3
  by_cases hn0 : n = 0
  · subst hn0
    have HRE : Hid (Calls Tryz.prog 12 #[.pointer (some ⟨d, 0, none⟩), .agg #[.int .u32 1, .int .i64 0, .int .i64 1]] w3 fun e w' => e = .returned (rdT zr 71) ∧ Tr O3 w3 w') := by
      have hS : (sat ls X 0).2 = ds0 1000000 := by rw [HS0.out.1, HS0.out.2]
      have hk := HK3.out.1
      rw [hS] at hk
      refine read_err w3 d O3 (ds0 1000000) 1 0 1 ⟨by omega, by omega⟩ (by omega) (by omega) hk (by show (0 : Nat) < _; omega) 71 ?_ (by omega)
      unfold Dk.read Dk.look bar
      rw [nmS_isNm]
      rfl
    go_wp2_with fail
    refine Calls.mono HRE.out ?_
    rintro e w4 ⟨rfl, hT4⟩
    have HB4 : Hid (Below w.heap.size w w4) := HBW.out.trans (hT4.below HO3.out HBW.out.size)
    unfold rdT rv
    clear hT4
    go_wp2_with fail
    go_ret
    exact ⟨rfl, HB4.out.alloc HB4.out.size _⟩
  · have hnp : (0 : Int) < (n : Int) := by omega
    have hnn : ¬ ((n : Int) = 0) := by omega
    obtain ⟨i0, hi0, hpi⟩ : ∃ i0, i0 < n ∧ pk wh n = i0 := ⟨_, pk_lt wh (by omega), rfl⟩
    have HPI : Hid (∀ w, Calls Tryz.prog 6 #[.int .i64 wh, .int .i64 (n : Int)] w fun e w' => e = .returned (.int .i64 (i0 : Int)) ∧ w' = w) := by
      intro w; rw [← hpi]; exact HPW.out n (by omega) (by omega) w
    have hrow := HW.out.row
    obtain ⟨g, c2, he, _, _⟩ := hrow.nn (by intro e; have := congrArg List.length e; rw [List.length_map, pls_len] at this; simp at this; omega)
    injection he with he1 he2 he3
    subst he1
    have HCC : Hid (∀ k, k < n → ∀ w', Tr O3 w3 w' → ∀ j x, (plC (plc (ls.getD k zl) k (sat ls X k)))[j]? = some x → w'.cell? ⟨g, k * 3 + j, none⟩ = some x) := by
      intro k hk w' hb' j x hx
      have hr' := jr_same hrow fun y hy => hb'.block y (hrow.blk_lt y hy) (fun q => (HG3.out y hy).1 q)
      exact hr'.at k _ j x (by rw [List.getElem?_map, pls_at ls X hk]; rfl) hx
    have HZ0 : Hid (∀ w', Tr O3 w3 w' → Below w.heap.size w w') := fun w' ht => HBW.out.trans (ht.below HO3.out HBW.out.size)
    obtain ⟨sg, A0, N0, hq0⟩ : ∃ sg A0 N0, plc (ls.getD i0 zl) i0 (sat ls X i0) = (sg, A0, N0) := ⟨_, _, _, rfl⟩
    have m0 : w3.cell? ⟨g, i0 * 3, none⟩ = some (.int .u32 (sg : Int)) := by have := HCC.out i0 hi0 w3 (Tr.refl _ _) 0 _ rfl; rw [hq0] at this; exact this
    have m1 : w3.cell? ⟨g, i0 * 3 + 1, none⟩ = some (.int .i64 (A0 : Int)) := by have := HCC.out i0 hi0 w3 (Tr.refl _ _) 1 _ rfl; rw [hq0] at this; exact this
    have m2 : w3.cell? ⟨g, i0 * 3 + 2, none⟩ = some (.int .i64 (N0 : Int)) := by have := HCC.out i0 hi0 w3 (Tr.refl _ _) 2 _ rfl; rw [hq0] at this; exact this
    have HQ0 := hd hq0
    clear hrow he2 he3 hpi hq0
    go_wp2_with fail
    refine Calls.mono (HPI.out _) ?_
    rintro e w4 ⟨rfl, rfl⟩
    have hsm := plc_small (HOK.out i0 (by omega)) (by omega) (ls.getD i0 zl)
    rw [HQ0.out] at hsm
    change A0 ≤ 100000 ∧ N0 ≤ 1000 at hsm
    obtain ⟨hA0, hN0⟩ := hsm
    obtain ⟨w5, hw5⟩ : ∃ w5, w5 = w4.alloc (.cells #[.int .u32 (sg : Int), .int .i64 (A0 : Int), .int .i64 (N0 : Int)] TPl) := ⟨_, rfl⟩
    obtain ⟨qa, hqa⟩ : ∃ qa : Int, qa = (A0 : Int) + (xa : Int) - 20 := ⟨_, rfl⟩
    obtain ⟨qn, hqn⟩ : ∃ qn : Int, qn = (N0 : Int) + (xs : Int) - 20 := ⟨_, rfl⟩
    have HW1 : Hid (IntKind.i64.wrap ((A0 : Int) + (xa : Int)) = (A0 : Int) + (xa : Int)) := by show IntKind.i64.wrap _ = _; rw [IntKind.wrap_i64]; omega
    have HW2 : Hid (IntKind.i64.wrap ((A0 : Int) + (xa : Int) - 20) = qa) := by show IntKind.i64.wrap _ = _; rw [IntKind.wrap_i64]; omega
    have HW3 : Hid (IntKind.i64.wrap ((N0 : Int) + (xs : Int)) = (N0 : Int) + (xs : Int)) := by show IntKind.i64.wrap _ = _; rw [IntKind.wrap_i64]; omega
    have HW4 : Hid (IntKind.i64.wrap ((N0 : Int) + (xs : Int) - 20) = qn) := by show IntKind.i64.wrap _ = _; rw [IntKind.wrap_i64]; omega
    have hqab : -100 ≤ qa ∧ qa ≤ 1000000 := by omega
    have hqnb : -100 ≤ qn ∧ qn ≤ 1000000 := by omega
    obtain ⟨w6, hw6⟩ : ∃ w6, w6 = (w5.alloc (.cells #[.int .u32 (sg : Int), .int .i64 qa, .int .i64 qn] TPl)).drew := ⟨_, rfl⟩
    obtain ⟨SS, hS0, hS1, hS2⟩ : ∃ SS : Nat → World, SS 0 = w5.drew ∧ SS 1 = w5.drew.alloc (.cells #[.int .u32 0, .int .i64 0, .int .i64 0] TPl) ∧ SS 2 = w6 := ⟨fun s => match s with | 0 => w5.drew | 1 => w5.drew.alloc (.cells #[.int .u32 0, .int .i64 0, .int .i64 0] TPl) | _ => w6, rfl, rfl, rfl⟩
    have hpb5 : Blk w5 w4.heap.size TPl [.int .u32 (sg : Int), .int .i64 (A0 : Int), .int .i64 (N0 : Int)] := by rw [hw5]; exact Blk.new w4 TPl [.int .u32 (sg : Int), .int .i64 (A0 : Int), .int .i64 (N0 : Int)]
    have CC : ∀ j, j ≤ 1 → Blk (SS j) w4.heap.size TPl [.int .u32 (sg : Int), .int .i64 (A0 : Int), .int .i64 (N0 : Int)] := by
      intro j hj
      obtain rfl | rfl : j = 0 ∨ j = 1 := by omega
      · rw [hS0]; exact hpb5
      · rw [hS1]; exact Blk.alloc (W := w5.drew) hpb5 _
    obtain ⟨hB6, hq6, hs6⟩ := place_box hw6
    have hB56 : Below w4.heap.size w4 w6 := by
      have : Below w4.heap.size w4 w5 := by rw [hw5]; exact (Below.refl _ w4).alloc (Nat.le_refl _) _
      exact this.trans (hB6.mono this.size)
    have HT6 : Hid (Tr O3 w4 w6) := Tr.ofB hB56 _
    have HQ6 := hd hq6
    have HK6 := hd (HK3.out.below hB56)
    have HS0 := hd hS0
    have HS1 := hd hS1
    have HS2 := hd hS2
    have HW5 := hd hw5
    have HW6 := hd hw6
    have HQA := hd hqa
    have HQN := hd hqn
    clear hS0 hS1 hS2 hw5 hw6 hpb5 hB6 hq6 hs6 hB56 hqa hqn
    go_wp2_with fail
    rw [← HW5.out]
    clear m0 m1 m2
    --REGION q
    refine region_chain (fun i => match i with
      | 0 => .pointer (some ⟨w4.heap.size, 0, none⟩)
      | 1 => .int .u32 (sg : Int)
      | 2 => .pointer (some ⟨w4.heap.size, 1, none⟩)
      | 3 => .int .i64 (A0 : Int)
      | 4 => Value.int IntKind.i64 at_
      | 5 => .int .i64 (xa : Int)
      | 6 => .int .i64 ((A0 : Int) + (xa : Int))
      | 7 => .int .i64 qa
      | 8 => .pointer (some ⟨w4.heap.size, 2, none⟩)
      | 9 => .int .i64 (N0 : Int)
      | 10 => Value.int IntKind.i64 sz
      | 11 => .int .i64 (xs : Int)
      | 12 => .int .i64 ((N0 : Int) + (xs : Int))
      | 13 => .int .i64 qn
      | 14 => .agg #[.int .u32 (sg : Int), .int .i64 qa, .int .i64 qn]
      | 15 => .pointer (some ⟨w5.heap.size, 0, none⟩)
      | 16 => undef
      | _ => undef) [15, 16] SS hmx (by kernel_rfl) (by kernel_rfl) (by kernel_rfl) (by kernel_rfl) HS0.out ?_ ?_ (by decide)
    · intro i o ho s a hsr hlo hhi hout haf hun
      have ee3 := getq (show a.tmps.getD 3 undef = Value.int IntKind.i64 at_ from hout 3 (notDst_spec (by kernel_rfl)))
      have ee4 := getq (show a.tmps.getD 4 undef = Value.int IntKind.i64 sz from hout 4 (notDst_spec (by kernel_rfl)))
      have ee17 := getq (show a.tmps.getD 17 undef = Value.pointer (some { block := w4.heap.size, off := 0 }) from hout 17 (notDst_spec (by kernel_rfl)))
      clear hout
      match i, ho, hlo, hhi, haf, hun with
      | 0, ho, hlo, hhi, haf, hun =>
        obtain rfl := Option.some.inj ho
        refine step_c (w' := SS s) rfl fun K hK => ?_
        simp only [List.getElem_toArray, List.getElem_cons_zero] at hK ⊢
        clear haf hlo hhi hun ho hsr
        go_simp
        exact hK
      | 1, ho, hlo, hhi, haf, hun =>
        obtain rfl := Option.some.inj ho
        have f0 := getq (show a.tmps.getD 55 undef = .pointer (some ⟨w4.heap.size, 0, none⟩) from haf ⟨0, .data⟩ (by simp) rfl 55 rfl)
        have hst : s = 0 ∨ s = 1 := by have := hhi 1 (by decide) (.inr (by kernel_rfl)); simp at hsr; omega
        refine step_c (w' := SS s) rfl fun K hK => ?_
        simp only [List.getElem_toArray, List.getElem_cons_succ, List.getElem_cons_zero] at hK ⊢
        clear haf hlo hhi hun ho hsr
        have hc := (CC s (by omega)).cell 0 _ rfl
        go_simp
        exact hK
      | 2, ho, hlo, hhi, haf, hun =>
        obtain rfl := Option.some.inj ho
        refine step_c (w' := SS s) rfl fun K hK => ?_
        simp only [List.getElem_toArray, List.getElem_cons_succ, List.getElem_cons_zero] at hK ⊢
        clear haf hlo hhi hun ho hsr
        go_simp
        exact hK
      | 3, ho, hlo, hhi, haf, hun =>
        obtain rfl := Option.some.inj ho
        have f2 := getq (show a.tmps.getD 57 undef = .pointer (some ⟨w4.heap.size, 1, none⟩) from haf ⟨2, .data⟩ (by simp) rfl 57 rfl)
        have hst : s = 0 ∨ s = 1 := by have := hhi 1 (by decide) (.inr (by kernel_rfl)); simp at hsr; omega
        refine step_c (w' := SS s) rfl fun K hK => ?_
        simp only [List.getElem_toArray, List.getElem_cons_succ, List.getElem_cons_zero] at hK ⊢
        clear haf hlo hhi hun ho hsr
        have hc := (CC s (by omega)).cell 1 _ rfl
        go_simp
        exact hK
      | 4, ho, hlo, hhi, haf, hun =>
        obtain rfl := Option.some.inj ho
        refine step_c (w' := SS s) rfl fun K hK => ?_
        simp only [List.getElem_toArray, List.getElem_cons_succ, List.getElem_cons_zero] at hK ⊢
        clear haf hlo hhi hun ho hsr
        go_simp
        exact hK
      | 5, ho, hlo, hhi, haf, hun =>
        obtain rfl := Option.some.inj ho
        have f4 := getq (show a.tmps.getD 59 undef = Value.int IntKind.i64 at_ from haf ⟨4, .data⟩ (by simp) rfl 59 rfl)
        have hst : s = 0 ∨ s = 1 := by have := hhi 1 (by decide) (.inr (by kernel_rfl)); simp at hsr; omega
        refine step_c (w' := SS s) rfl fun K hK => ?_
        simp only [List.getElem_toArray, List.getElem_cons_succ, List.getElem_cons_zero] at hK ⊢
        clear haf hlo hhi hun ho hsr
        go_simp
        refine Calls.mono (HPA.out _) ?_
        rintro e9 w9 ⟨rfl, rfl⟩
        exact hK
      | 6, ho, hlo, hhi, haf, hun =>
        obtain rfl := Option.some.inj ho
        have f3 := getq (show a.tmps.getD 58 undef = .int .i64 (A0 : Int) from haf ⟨3, .data⟩ (by simp) rfl 58 rfl)
        have f5 := getq (show a.tmps.getD 60 undef = .int .i64 (xa : Int) from haf ⟨5, .data⟩ (by simp) rfl 60 rfl)
        have hst : s = 0 ∨ s = 1 := by have := hhi 1 (by decide) (.inr (by kernel_rfl)); simp at hsr; omega
        refine step_c (w' := SS s) rfl fun K hK => ?_
        simp only [List.getElem_toArray, List.getElem_cons_succ, List.getElem_cons_zero] at hK ⊢
        clear haf hlo hhi hun ho hsr
        have hc := HW1.out
        go_simp
        exact hK
      | 7, ho, hlo, hhi, haf, hun =>
        obtain rfl := Option.some.inj ho
        have f6 := getq (show a.tmps.getD 61 undef = .int .i64 ((A0 : Int) + (xa : Int)) from haf ⟨6, .data⟩ (by simp) rfl 61 rfl)
        have hst : s = 0 ∨ s = 1 := by have := hhi 1 (by decide) (.inr (by kernel_rfl)); simp at hsr; omega
        refine step_c (w' := SS s) rfl fun K hK => ?_
        simp only [List.getElem_toArray, List.getElem_cons_succ, List.getElem_cons_zero] at hK ⊢
        clear haf hlo hhi hun ho hsr
        have hc := HW2.out
        go_simp
        exact hK
      | 8, ho, hlo, hhi, haf, hun =>
        obtain rfl := Option.some.inj ho
        refine step_c (w' := SS s) rfl fun K hK => ?_
        simp only [List.getElem_toArray, List.getElem_cons_succ, List.getElem_cons_zero] at hK ⊢
        clear haf hlo hhi hun ho hsr
        go_simp
        exact hK
      | 9, ho, hlo, hhi, haf, hun =>
        obtain rfl := Option.some.inj ho
        have f8 := getq (show a.tmps.getD 63 undef = .pointer (some ⟨w4.heap.size, 2, none⟩) from haf ⟨8, .data⟩ (by simp) rfl 63 rfl)
        have hst : s = 0 ∨ s = 1 := by have := hhi 1 (by decide) (.inr (by kernel_rfl)); simp at hsr; omega
        refine step_c (w' := SS s) rfl fun K hK => ?_
        simp only [List.getElem_toArray, List.getElem_cons_succ, List.getElem_cons_zero] at hK ⊢
        clear haf hlo hhi hun ho hsr
        have hc := (CC s (by omega)).cell 2 _ rfl
        go_simp
        exact hK
      | 10, ho, hlo, hhi, haf, hun =>
        obtain rfl := Option.some.inj ho
        refine step_c (w' := SS s) rfl fun K hK => ?_
        simp only [List.getElem_toArray, List.getElem_cons_succ, List.getElem_cons_zero] at hK ⊢
        clear haf hlo hhi hun ho hsr
        go_simp
        exact hK
      | 11, ho, hlo, hhi, haf, hun =>
        obtain rfl := Option.some.inj ho
        have f10 := getq (show a.tmps.getD 65 undef = Value.int IntKind.i64 sz from haf ⟨10, .data⟩ (by simp) rfl 65 rfl)
        have hst : s = 0 ∨ s = 1 := by have := hhi 1 (by decide) (.inr (by kernel_rfl)); simp at hsr; omega
        refine step_c (w' := SS s) rfl fun K hK => ?_
        simp only [List.getElem_toArray, List.getElem_cons_succ, List.getElem_cons_zero] at hK ⊢
        clear haf hlo hhi hun ho hsr
        go_simp
        refine Calls.mono (HPS.out _) ?_
        rintro e9 w9 ⟨rfl, rfl⟩
        exact hK
      | 12, ho, hlo, hhi, haf, hun =>
        obtain rfl := Option.some.inj ho
        have f9 := getq (show a.tmps.getD 64 undef = .int .i64 (N0 : Int) from haf ⟨9, .data⟩ (by simp) rfl 64 rfl)
        have f11 := getq (show a.tmps.getD 66 undef = .int .i64 (xs : Int) from haf ⟨11, .data⟩ (by simp) rfl 66 rfl)
        have hst : s = 0 ∨ s = 1 := by have := hhi 1 (by decide) (.inr (by kernel_rfl)); simp at hsr; omega
        refine step_c (w' := SS s) rfl fun K hK => ?_
        simp only [List.getElem_toArray, List.getElem_cons_succ, List.getElem_cons_zero] at hK ⊢
        clear haf hlo hhi hun ho hsr
        have hc := HW3.out
        go_simp
        exact hK
      | 13, ho, hlo, hhi, haf, hun =>
        obtain rfl := Option.some.inj ho
        have f12 := getq (show a.tmps.getD 67 undef = .int .i64 ((N0 : Int) + (xs : Int)) from haf ⟨12, .data⟩ (by simp) rfl 67 rfl)
        have hst : s = 0 ∨ s = 1 := by have := hhi 1 (by decide) (.inr (by kernel_rfl)); simp at hsr; omega
        refine step_c (w' := SS s) rfl fun K hK => ?_
        simp only [List.getElem_toArray, List.getElem_cons_succ, List.getElem_cons_zero] at hK ⊢
        clear haf hlo hhi hun ho hsr
        have hc := HW4.out
        go_simp
        exact hK
      | 14, ho, hlo, hhi, haf, hun =>
        obtain rfl := Option.some.inj ho
        have f1 := getq (show a.tmps.getD 56 undef = .int .u32 (sg : Int) from haf ⟨1, .data⟩ (by simp) rfl 56 rfl)
        have f7 := getq (show a.tmps.getD 62 undef = .int .i64 qa from haf ⟨7, .data⟩ (by simp) rfl 62 rfl)
        have f13 := getq (show a.tmps.getD 68 undef = .int .i64 qn from haf ⟨13, .data⟩ (by simp) rfl 68 rfl)
        refine step_c (w' := SS s) rfl fun K hK => ?_
        simp only [List.getElem_toArray, List.getElem_cons_succ, List.getElem_cons_zero] at hK ⊢
        clear haf hlo hhi hun ho hsr
        go_simp
        exact hK
      | 15, ho, hlo, hhi, haf, hun =>
        obtain rfl := Option.some.inj ho
        obtain rfl : s = 0 := by have := hhi 0 (by decide) (.inl (by kernel_rfl)); omega
        refine step_c (w' := SS 1) rfl fun K hK => ?_
        simp only [List.getElem_toArray, List.getElem_cons_succ, List.getElem_cons_zero] at hK ⊢
        clear haf hlo hhi hun ho hsr
        rw [HS1.out] at hK
        rw [HS0.out]
        go_simp
        exact hK
      | 16, ho, hlo, hhi, haf, hun =>
        obtain rfl := Option.some.inj ho
        have f15 := getq (show a.tmps.getD 18 undef = .pointer (some ⟨w5.heap.size, 0, none⟩) from haf ⟨15, .data⟩ (by simp) rfl 18 rfl)
        have f14 := getq (show a.tmps.getD 69 undef = .agg #[.int .u32 (sg : Int), .int .i64 qa, .int .i64 qn] from haf ⟨14, .data⟩ (by simp) rfl 69 rfl)
        obtain rfl : s = 1 := by have := hlo 0 (by decide) (by kernel_rfl); have := hhi 1 (by decide) (.inl (by kernel_rfl)); omega
        refine step_c (w' := SS 2) rfl fun K hK => ?_
        simp only [List.getElem_toArray, List.getElem_cons_succ, List.getElem_cons_zero] at hK ⊢
        clear haf hlo hhi hun ho hsr
        rw [HS2.out, HW6.out] at hK
        rw [HS1.out]
        go_simp
        exact hK
      | n + 17, ho, _, _, _, _ => simp at ho
    · intro aa hdf hsz hout hval
      have hat : aa.tmps = #[Value.int IntKind.i64 lim, Value.slice a ls.length c, Value.int IntKind.i64 wh, Value.int IntKind.i64 at_, Value.int IntKind.i64 sz, undef, undef, undef, undef, undef, Value.bool false, Value.pointer (some { block := d, off := 0 }), Value.pointer (some { block := b, off := 0 }), Value.slice (some { block := g, off := 0 }) n uc, Value.bool true, undef, undef, Value.pointer (some { block := w4.heap.size, off := 0 }), .pointer (some ⟨w5.heap.size, 0, none⟩), undef, undef, undef, Value.tuple #[Value.pointer (some { block := d, off := 0 }), Value.pointer (some { block := b, off := 0 })], Value.int IntKind.i64 lim, Value.tuple #[Value.pointer (some { block := d, off := 0 }), Value.pointer (some { block := b, off := 0 })], Value.pointer (some { block := d, off := 0 }), Value.pointer (some { block := b, off := 0 }), Value.pointer (some { block := d, off := 0 }), Value.bool false, Value.tuple #[Value.slice (some { block := g, off := 0 }) n uc, Value.bool true], Value.pointer (some { block := b, off := 0 }), Value.slice a ls.length c, Value.tuple #[Value.slice (some { block := g, off := 0 }) n uc, Value.bool true], Value.slice (some { block := g, off := 0 }) n uc, Value.bool true, Value.bool true, Value.bool false, Value.slice (some { block := g, off := 0 }) n uc, Value.int IntKind.i64 (n : Int), Value.bool false, undef, undef, undef, undef, undef, undef, undef, undef, Value.slice (some { block := g, off := 0 }) n uc, Value.int IntKind.i64 wh, Value.slice (some { block := g, off := 0 }) n uc, Value.int IntKind.i64 (n : Int), Value.int IntKind.i64 (i0 : Int), Value.pointer (some { block := g, off := i0 * 3 }), Value.agg #[Value.int IntKind.u32 (sg : Int), Value.int IntKind.i64 (A0 : Int), Value.int IntKind.i64 (N0 : Int)], .pointer (some ⟨w4.heap.size, 0, none⟩), .int .u32 (sg : Int), .pointer (some ⟨w4.heap.size, 1, none⟩), .int .i64 (A0 : Int), Value.int IntKind.i64 at_, .int .i64 (xa : Int), .int .i64 ((A0 : Int) + (xa : Int)), .int .i64 qa, .pointer (some ⟨w4.heap.size, 2, none⟩), .int .i64 (N0 : Int), Value.int IntKind.i64 sz, .int .i64 (xs : Int), .int .i64 ((N0 : Int) + (xs : Int)), .int .i64 qn, .agg #[.int .u32 (sg : Int), .int .i64 qa, .int .i64 qn], undef, undef, undef, undef, undef, undef, undef, undef, undef, undef, undef, undef, undef, undef, undef, undef, undef, undef, undef, undef, undef, undef, undef, undef, undef, undef, undef, undef, undef, undef, undef, undef, undef, undef, undef, undef, undef, undef, undef, undef, undef, undef, undef, undef, undef, undef, undef, undef, undef, undef, undef, undef] := by
        refine arr_one (hsz.trans rfl) fun kk hkk => ?_
        match kk, hkk with
        | 0, _ => exact hout 0 (notDst_spec (by kernel_rfl))
        | 1, _ => exact hout 1 (notDst_spec (by kernel_rfl))
        | 2, _ => exact hout 2 (notDst_spec (by kernel_rfl))
        | 3, _ => exact hout 3 (notDst_spec (by kernel_rfl))
        | 4, _ => exact hout 4 (notDst_spec (by kernel_rfl))
        | 5, _ => exact hout 5 (notDst_spec (by kernel_rfl))
        | 6, _ => exact hout 6 (notDst_spec (by kernel_rfl))
        | 7, _ => exact hout 7 (notDst_spec (by kernel_rfl))
        | 8, _ => exact hout 8 (notDst_spec (by kernel_rfl))
        | 9, _ => exact hout 9 (notDst_spec (by kernel_rfl))
        | 10, _ => exact hout 10 (notDst_spec (by kernel_rfl))
        | 11, _ => exact hout 11 (notDst_spec (by kernel_rfl))
        | 12, _ => exact hout 12 (notDst_spec (by kernel_rfl))
        | 13, _ => exact hout 13 (notDst_spec (by kernel_rfl))
        | 14, _ => exact hout 14 (notDst_spec (by kernel_rfl))
        | 15, _ => exact hout 15 (notDst_spec (by kernel_rfl))
        | 16, _ => exact hout 16 (notDst_spec (by kernel_rfl))
        | 17, _ => exact hout 17 (notDst_spec (by kernel_rfl))
        | 18, _ => exact hval 15 18 (by decide) rfl
        | 19, _ => exact hout 19 (notDst_spec (by kernel_rfl))
        | 20, _ => exact hout 20 (notDst_spec (by kernel_rfl))
        | 21, _ => exact hout 21 (notDst_spec (by kernel_rfl))
        | 22, _ => exact hout 22 (notDst_spec (by kernel_rfl))
        | 23, _ => exact hout 23 (notDst_spec (by kernel_rfl))
        | 24, _ => exact hout 24 (notDst_spec (by kernel_rfl))
        | 25, _ => exact hout 25 (notDst_spec (by kernel_rfl))
        | 26, _ => exact hout 26 (notDst_spec (by kernel_rfl))
        | 27, _ => exact hout 27 (notDst_spec (by kernel_rfl))
        | 28, _ => exact hout 28 (notDst_spec (by kernel_rfl))
        | 29, _ => exact hout 29 (notDst_spec (by kernel_rfl))
        | 30, _ => exact hout 30 (notDst_spec (by kernel_rfl))
        | 31, _ => exact hout 31 (notDst_spec (by kernel_rfl))
        | 32, _ => exact hout 32 (notDst_spec (by kernel_rfl))
        | 33, _ => exact hout 33 (notDst_spec (by kernel_rfl))
        | 34, _ => exact hout 34 (notDst_spec (by kernel_rfl))
        | 35, _ => exact hout 35 (notDst_spec (by kernel_rfl))
        | 36, _ => exact hout 36 (notDst_spec (by kernel_rfl))
        | 37, _ => exact hout 37 (notDst_spec (by kernel_rfl))
        | 38, _ => exact hout 38 (notDst_spec (by kernel_rfl))
        | 39, _ => exact hout 39 (notDst_spec (by kernel_rfl))
        | 40, _ => exact hout 40 (notDst_spec (by kernel_rfl))
        | 41, _ => exact hout 41 (notDst_spec (by kernel_rfl))
        | 42, _ => exact hout 42 (notDst_spec (by kernel_rfl))
        | 43, _ => exact hout 43 (notDst_spec (by kernel_rfl))
        | 44, _ => exact hout 44 (notDst_spec (by kernel_rfl))
        | 45, _ => exact hout 45 (notDst_spec (by kernel_rfl))
        | 46, _ => exact hout 46 (notDst_spec (by kernel_rfl))
        | 47, _ => exact hout 47 (notDst_spec (by kernel_rfl))
        | 48, _ => exact hout 48 (notDst_spec (by kernel_rfl))
        | 49, _ => exact hout 49 (notDst_spec (by kernel_rfl))
        | 50, _ => exact hout 50 (notDst_spec (by kernel_rfl))
        | 51, _ => exact hout 51 (notDst_spec (by kernel_rfl))
        | 52, _ => exact hout 52 (notDst_spec (by kernel_rfl))
        | 53, _ => exact hout 53 (notDst_spec (by kernel_rfl))
        | 54, _ => exact hout 54 (notDst_spec (by kernel_rfl))
        | 55, _ => exact hval 0 55 (by decide) rfl
        | 56, _ => exact hval 1 56 (by decide) rfl
        | 57, _ => exact hval 2 57 (by decide) rfl
        | 58, _ => exact hval 3 58 (by decide) rfl
        | 59, _ => exact hval 4 59 (by decide) rfl
        | 60, _ => exact hval 5 60 (by decide) rfl
        | 61, _ => exact hval 6 61 (by decide) rfl
        | 62, _ => exact hval 7 62 (by decide) rfl
        | 63, _ => exact hval 8 63 (by decide) rfl
        | 64, _ => exact hval 9 64 (by decide) rfl
        | 65, _ => exact hval 10 65 (by decide) rfl
        | 66, _ => exact hval 11 66 (by decide) rfl
        | 67, _ => exact hval 12 67 (by decide) rfl
        | 68, _ => exact hval 13 68 (by decide) rfl
        | 69, _ => exact hval 14 69 (by decide) rfl
        | 70, _ => exact hout 70 (notDst_spec (by kernel_rfl))
        | 71, _ => exact hout 71 (notDst_spec (by kernel_rfl))
        | 72, _ => exact hout 72 (notDst_spec (by kernel_rfl))
        | 73, _ => exact hout 73 (notDst_spec (by kernel_rfl))
        | 74, _ => exact hout 74 (notDst_spec (by kernel_rfl))
        | 75, _ => exact hout 75 (notDst_spec (by kernel_rfl))
        | 76, _ => exact hout 76 (notDst_spec (by kernel_rfl))
        | 77, _ => exact hout 77 (notDst_spec (by kernel_rfl))
        | 78, _ => exact hout 78 (notDst_spec (by kernel_rfl))
        | 79, _ => exact hout 79 (notDst_spec (by kernel_rfl))
        | 80, _ => exact hout 80 (notDst_spec (by kernel_rfl))
        | 81, _ => exact hout 81 (notDst_spec (by kernel_rfl))
        | 82, _ => exact hout 82 (notDst_spec (by kernel_rfl))
        | 83, _ => exact hout 83 (notDst_spec (by kernel_rfl))
        | 84, _ => exact hout 84 (notDst_spec (by kernel_rfl))
        | 85, _ => exact hout 85 (notDst_spec (by kernel_rfl))
        | 86, _ => exact hout 86 (notDst_spec (by kernel_rfl))
        | 87, _ => exact hout 87 (notDst_spec (by kernel_rfl))
        | 88, _ => exact hout 88 (notDst_spec (by kernel_rfl))
        | 89, _ => exact hout 89 (notDst_spec (by kernel_rfl))
        | 90, _ => exact hout 90 (notDst_spec (by kernel_rfl))
        | 91, _ => exact hout 91 (notDst_spec (by kernel_rfl))
        | 92, _ => exact hout 92 (notDst_spec (by kernel_rfl))
        | 93, _ => exact hout 93 (notDst_spec (by kernel_rfl))
        | 94, _ => exact hout 94 (notDst_spec (by kernel_rfl))
        | 95, _ => exact hout 95 (notDst_spec (by kernel_rfl))
        | 96, _ => exact hout 96 (notDst_spec (by kernel_rfl))
        | 97, _ => exact hout 97 (notDst_spec (by kernel_rfl))
        | 98, _ => exact hout 98 (notDst_spec (by kernel_rfl))
        | 99, _ => exact hout 99 (notDst_spec (by kernel_rfl))
        | 100, _ => exact hout 100 (notDst_spec (by kernel_rfl))
        | 101, _ => exact hout 101 (notDst_spec (by kernel_rfl))
        | 102, _ => exact hout 102 (notDst_spec (by kernel_rfl))
        | 103, _ => exact hout 103 (notDst_spec (by kernel_rfl))
        | 104, _ => exact hout 104 (notDst_spec (by kernel_rfl))
        | 105, _ => exact hout 105 (notDst_spec (by kernel_rfl))
        | 106, _ => exact hout 106 (notDst_spec (by kernel_rfl))
        | 107, _ => exact hout 107 (notDst_spec (by kernel_rfl))
        | 108, _ => exact hout 108 (notDst_spec (by kernel_rfl))
        | 109, _ => exact hout 109 (notDst_spec (by kernel_rfl))
        | 110, _ => exact hout 110 (notDst_spec (by kernel_rfl))
        | 111, _ => exact hout 111 (notDst_spec (by kernel_rfl))
        | 112, _ => exact hout 112 (notDst_spec (by kernel_rfl))
        | 113, _ => exact hout 113 (notDst_spec (by kernel_rfl))
        | 114, _ => exact hout 114 (notDst_spec (by kernel_rfl))
        | 115, _ => exact hout 115 (notDst_spec (by kernel_rfl))
        | 116, _ => exact hout 116 (notDst_spec (by kernel_rfl))
        | 117, _ => exact hout 117 (notDst_spec (by kernel_rfl))
        | 118, _ => exact hout 118 (notDst_spec (by kernel_rfl))
        | 119, _ => exact hout 119 (notDst_spec (by kernel_rfl))
        | 120, _ => exact hout 120 (notDst_spec (by kernel_rfl))
        | 121, _ => exact hout 121 (notDst_spec (by kernel_rfl))
        | n + 122, h => exact absurd h (by simp)
      obtain ⟨tt, dd⟩ := aa
      simp only at hat hdf
      subst hat hdf
      clear hsz hout hval
      rw [show SS [15, 16].length = w6 from HS2.out]
      have HRA : Hid (∃ rc er, Calls Tryz.prog 12 #[.pointer (some ⟨d, 0, none⟩), .agg #[.int .u32 (sg : Int), .int .i64 qa, .int .i64 qn]] w6 (fun e w' => e = .returned (rdT rc er) ∧ Tr O3 w6 w') ∧ (∀ i, i < n → ((plc (ls.getD i zl) i (sat ls X i)).1 = sg ∧ (((plc (ls.getD i zl) i (sat ls X i)).2.1 : Nat) : Int) = qa ∧ (((plc (ls.getD i zl) i (sat ls X i)).2.2 : Nat) : Int) = qn) → rc = lnR (ls.getD i zl) i ∧ er = 0) ∧ ((∀ i, i < n → ¬ ((plc (ls.getD i zl) i (sat ls X i)).1 = sg ∧ (((plc (ls.getD i zl) i (sat ls X i)).2.1 : Nat) : Int) = qa ∧ (((plc (ls.getD i zl) i (sat ls X i)).2.2 : Nat) : Int) = qn)) → rc = zr ∧ er = if qa < 0 ∨ qn < 1 then 90 else 91)) := by
        by_cases hb : qa < 0 ∨ qn < 1
        · refine ⟨zr, 90, (read_bad w6 d sg qa qn (.inr hb)).mono fun e w' q => ⟨q.1, Tr.ofB q.2 _⟩, fun i hi hm => ?_, fun _ => ⟨rfl, (if_pos hb).symm⟩⟩
          exfalso
          have := plc_pos ls X i
          omega
        · obtain ⟨A, hA⟩ : ∃ A : Nat, qa = (A : Int) := ⟨qa.toNat, by omega⟩
          obtain ⟨N, hN⟩ : ∃ N : Nat, qn = (N : Int) := ⟨qn.toNat, by omega⟩
          obtain ⟨r1, r2, r3, r4⟩ := narrow_read HSX.out hnl.2 HAC.out hi0 (sg := sg) (by rw [HQ0.out]) A N
          refine ⟨(rdX (sat ls X n).2 sg qa qn).1, (rdX (sat ls X n).2 sg qa qn).2, read_no w6 d O3 (sat ls X n).2 sg qa qn r2 (by omega) (by omega) HK6.out.1 (by have := HAC.out; omega) (by rw [hA, hN]; exact r1), fun i hi hm => ?_, fun hno => ?_⟩
          · rw [hA, hN] at hm ⊢
            rw [r3 i hi (Prod.ext hm.1 (Prod.ext (Int.ofNat_inj.1 hm.2.1) (Int.ofNat_inj.1 hm.2.2)))]
            exact ⟨rfl, rfl⟩
          · rw [if_neg hb, hA, hN, r4 fun i hi e => hno i hi (by rw [e, hA, hN]; exact ⟨rfl, rfl, rfl⟩)]
            exact ⟨rfl, rfl⟩
      obtain ⟨rc, er, hcl, hMt, hNm⟩ := HRA.out
      have HMT := hd hMt
      have HNM := hd hNm
      have HCL := hd hcl
      obtain ⟨rl, rk, rky, rvl⟩ := rc
      have c0 := HQ6.out.cell 0 _ rfl
      have c1 := HQ6.out.cell 1 _ rfl
      have c2 := HQ6.out.cell 2 _ rfl
      clear hcl hMt hNm HRA
      go_wp2_with fail
      refine Calls.mono HCL.out ?_
      rintro e w7 ⟨rfl, hT7⟩
      obtain ⟨w8, hw8⟩ : ∃ w8, w8 = w7.alloc (.cells #[.int .u64 (rl : Int), .int .i64 rk, .string rky, .string rvl] 38) := ⟨_, rfl⟩
      have hB8 : Below w7.heap.size w7 w8 := by rw [hw8]; exact (Below.refl _ w7).alloc (Nat.le_refl _) _
      have hT8 : Tr O3 w4 w8 := (HT6.out.trans hT7 fun x q => .inl q).trans (Tr.ofB hB8 _) fun x q => .inl q
      have hr8 : Blk w8 w7.heap.size 38 [.int .u64 (rl : Int), .int .i64 rk, .string rky, .string rvl] := by rw [hw8]; exact Blk.new w7 _ [.int .u64 (rl : Int), .int .i64 rk, .string rky, .string rvl]
      have hno5 : ¬ O3 w5.heap.size := fun q => by have q1 := HK3.out.1.olt _ q; have q2 := (HW5.out ▸ alloc_size w4 _ : w5.heap.size = w4.heap.size + 1); omega
      have hq7 : Blk w7 w5.heap.size TPl [.int .u32 (sg : Int), .int .i64 qa, .int .i64 qn] := (hT7.block _ HQ6.out.lt hno5).trans HQ6.out
      have hq8 := hq7.keep hB8
      have HT8 := hd hT8
      have HR8 := hd hr8
      have HQ8 := hd hq8
      have HW8 := hd hw8
      clear hT7 c0 c1 c2 hw8 hB8 hT8 hr8 hq7 hq8 hno5
      unfold rdT rv
      simp only
      go_wp2_with fail
      rw [← HW8.out]
      go_loopw [21] (fun i wq => ∃ k : Nat, k ≤ n ∧ i = .int .i64 (k : Int) ∧ Below w8.heap.size w8 wq ∧ ∀ i, i < k → ¬ ((plc (ls.getD i zl) i (sat ls X i)).1 = sg ∧ (((plc (ls.getD i zl) i (sat ls X i)).2.1 : Nat) : Int) = qa ∧ (((plc (ls.getD i zl) i (sat ls X i)).2.2 : Nat) : Int) = qn)) (fun i _ => n - (intOf i).toNat)
      case atStart => exact ⟨0, by omega, rfl, Below.refl _ _, fun i hi => by omega⟩
      case round =>
        obtain ⟨k, hk, rfl, hB, hno⟩ := hrel
        have HB := hd hB
        have HNO := hd hno
        have hTr : Tr O3 w4 wr := HT8.out.trans (Tr.ofB hB _) fun x q => .inl q
        have hqr := HQ8.out.keep hB
        have hrr := HR8.out.keep hB
        have e0 := hqr.cell 0 _ rfl
        have e1 := hqr.cell 1 _ rfl
        have e2 := hqr.cell 2 _ rfl
        have r0 := hrr.cell 0 _ rfl
        have r1 := hrr.cell 1 _ rfl
        have r2 := hrr.cell 2 _ rfl
        have r3 := hrr.cell 3 _ rfl
        have HBW' := hd (HZ0.out wr hTr)
        by_cases hlt : k < n
        · obtain ⟨p1, p2, p3, hp⟩ : ∃ p1 p2 p3, plc (ls.getD k zl) k (sat ls X k) = (p1, p2, p3) := ⟨_, _, _, rfl⟩
          have hc0 : wr.cell? ⟨g, k * 3, none⟩ = some (.int .u32 (p1 : Int)) := by have := HCC.out k hlt wr hTr 0 _ rfl; rw [hp] at this; exact this
          have hc1 : wr.cell? ⟨g, k * 3 + 1, none⟩ = some (.int .i64 (p2 : Int)) := by have := HCC.out k hlt wr hTr 1 _ rfl; rw [hp] at this; exact this
          have hc2 : wr.cell? ⟨g, k * 3 + 2, none⟩ = some (.int .i64 (p3 : Int)) := by have := HCC.out k hlt wr hTr 2 _ rfl; rw [hp] at this; exact this
          obtain ⟨bb, hbb0, hbi⟩ := pl_eql p1 p2 p3 sg qa qn
          have HMK := hd (HMT.out k hlt)
          rw [hp] at HMK
          simp only at HMK
          obtain ⟨v0, hv0⟩ : ∃ v0, v0 = wr.drew := ⟨_, rfl⟩
          have HV := hd hv0
          have HBV : Hid (Below wr.heap.size wr v0) := by rw [hv0]; exact ⟨rfl, rfl, rfl, Nat.le_refl _, fun _ _ => rfl⟩
          have f0 := hc0
          have f1 := hc1
          have f2 := hc2
          have g0 := e0
          have g1 := e1
          have g2 := e2
          clear hc0 hc1 hc2 e0 e1 e2
          have hc0 : Hid (v0.cell? ⟨g, k * 3, none⟩ = some (.int .u32 (p1 : Int))) := by rw [hv0]; exact f0
          have hc1 : Hid (v0.cell? ⟨g, k * 3 + 1, none⟩ = some (.int .i64 (p2 : Int))) := by rw [hv0]; exact f1
          have hc2 : Hid (v0.cell? ⟨g, k * 3 + 2, none⟩ = some (.int .i64 (p3 : Int))) := by rw [hv0]; exact f2
          have e0 : Hid (v0.cell? ⟨w5.heap.size, 0, none⟩ = some (.int .u32 (sg : Int))) := by rw [hv0]; exact g0
          have e1 : Hid (v0.cell? ⟨w5.heap.size, 1, none⟩ = some (.int .i64 qa)) := by rw [hv0]; exact g1
          have e2 : Hid (v0.cell? ⟨w5.heap.size, 2, none⟩ = some (.int .i64 qn)) := by rw [hv0]; exact g2
          clear f0 f1 f2 g0 g1 g2
          cases bb
          · have hnm : ¬ (p1 = sg ∧ (p2 : Int) = qa ∧ (p3 : Int) = qn) := fun q => by have := hbi.2 q; cases this
            have HNK : Hid (∀ i, i < k + 1 → ¬ ((plc (ls.getD i zl) i (sat ls X i)).1 = sg ∧ (((plc (ls.getD i zl) i (sat ls X i)).2.1 : Nat) : Int) = qa ∧ (((plc (ls.getD i zl) i (sat ls X i)).2.2 : Nat) : Int) = qn)) := by
              intro i hi
              by_cases e : i = k
              · subst e; rw [hp]; exact hnm
              · exact HNO.out i (by omega)
            have hbb := hd hbb0
            clear hno hp hbi hnm hqr hrr hTr hB hbb0 hv0
            go_wp2_with fail
            refine region_skip (fun i9 v9 _ => match i9 with
              | 0 => v9 = Value.slice (some { block := g, off := 0 }) n uc
              | 1 => v9 = Value.int IntKind.i64 (k : Int)
              | 2 => v9 = .pointer (some ⟨g, k * 3, none⟩)
              | 3 => v9 = .agg #[.int .u32 (p1 : Int), .int .i64 (p2 : Int), .int .i64 (p3 : Int)]
              | 4 => v9 = .agg #[.int .u32 (sg : Int), .int .i64 qa, .int .i64 qn]
              | _ => v9 = .bool false) (fun w => w = v0) hmx (by kernel_rfl) (by kernel_rfl) HV.out.symm ?_ ?_ ?_
            · intro i9 v9 w8 w9 _ _ hb hG
              match i9, hG with
              | 0, h => exact h
              | 1, h => exact h
              | 2, h => exact h
              | 3, h => exact h
              | 4, h => exact h
              | n + 5, h => exact h
            · intro i9 o9 ho a9 w9 hW hdf hsz hout haf
              have ee13 := getq (show a9.tmps.getD 13 undef = Value.slice (some { block := g, off := 0 }) n uc from hout 13 (notDst_spec (by kernel_rfl)))
              have ee18 := getq (show a9.tmps.getD 18 undef = Value.pointer (some { block := w5.heap.size, off := 0 }) from hout 18 (notDst_spec (by kernel_rfl)))
              have ee21 := getq (show a9.tmps.getD 21 undef = Value.int IntKind.i64 (k : Int) from hout 21 (notDst_spec (by kernel_rfl)))
              have hsz2 : a9.tmps.size = 122 := hsz
              clear hout hsz hdf
              match i9, ho, haf with
              | 0, ho, haf =>
                obtain rfl := Option.some.inj ho
                refine skip_good _ (wanted_none rfl) ?_
                clear haf ho hsz2
                intro K hK
                simp only [List.getElem_toArray, List.getElem_cons_zero] at hK ⊢
                subst hW
                go_simp
                exact hK _ _ ⟨Below.refl _ _, rfl, rfl⟩
              | 1, ho, haf =>
                obtain rfl := Option.some.inj ho
                refine skip_good _ (wanted_none rfl) ?_
                clear haf ho hsz2
                intro K hK
                simp only [List.getElem_toArray, List.getElem_cons_succ, List.getElem_cons_zero] at hK ⊢
                subst hW
                go_simp
                exact hK _ _ ⟨Below.refl _ _, rfl, rfl⟩
              | 2, ho, haf =>
                obtain rfl := Option.some.inj ho
                have f0 := getq (show a9.tmps.getD 82 undef = Value.slice (some { block := g, off := 0 }) n uc from haf ⟨0, .data⟩ (by simp) rfl)
                have f1 := getq (show a9.tmps.getD 83 undef = Value.int IntKind.i64 (k : Int) from haf ⟨1, .data⟩ (by simp) rfl)
                refine skip_good _ (wanted_none rfl) ?_
                clear haf ho hsz2
                intro K hK
                simp only [List.getElem_toArray, List.getElem_cons_succ, List.getElem_cons_zero] at hK ⊢
                subst hW
                go_simp
                exact hK _ _ ⟨Below.refl _ _, rfl, rfl⟩
              | 3, ho, haf =>
                obtain rfl := Option.some.inj ho
                have f2 := getq (show a9.tmps.getD 84 undef = .pointer (some ⟨g, k * 3, none⟩) from haf ⟨2, .data⟩ (by simp) rfl)
                refine skip_good _ (wanted_none rfl) ?_
                clear haf ho hsz2
                intro K hK
                simp only [List.getElem_toArray, List.getElem_cons_succ, List.getElem_cons_zero] at hK ⊢
                subst hW
                have hx0 := hc0.out
                have hx1 := hc1.out
                have hx2 := hc2.out
                go_simp
                exact hK _ _ ⟨Below.refl _ _, rfl, rfl⟩
              | 4, ho, haf =>
                obtain rfl := Option.some.inj ho
                refine skip_good _ (wanted_none rfl) ?_
                clear haf ho hsz2
                intro K hK
                simp only [List.getElem_toArray, List.getElem_cons_succ, List.getElem_cons_zero] at hK ⊢
                subst hW
                have hx0 := e0.out
                have hx1 := e1.out
                have hx2 := e2.out
                go_simp
                exact hK _ _ ⟨Below.refl _ _, rfl, rfl⟩
              | 5, ho, haf =>
                obtain rfl := Option.some.inj ho
                have f3 := getq (show a9.tmps.getD 85 undef = .agg #[.int .u32 (p1 : Int), .int .i64 (p2 : Int), .int .i64 (p3 : Int)] from haf ⟨3, .data⟩ (by simp) rfl)
                have f4 := getq (show a9.tmps.getD 86 undef = .agg #[.int .u32 (sg : Int), .int .i64 qa, .int .i64 qn] from haf ⟨4, .data⟩ (by simp) rfl)
                refine skip_good _ (wanted_none rfl) ?_
                clear haf ho hsz2
                intro K hK
                simp only [List.getElem_toArray, List.getElem_cons_succ, List.getElem_cons_zero] at hK ⊢
                subst hW
                have hx0 := hbb.out
                go_simp
                exact hK _ _ ⟨Below.refl _ _, rfl, rfl⟩
              | n + 6, ho, haf => simp at ho
            · intro aa w9 hW hdf hsz hout hall
              have hat : aa.tmps = #[Value.int IntKind.i64 lim, Value.slice a ls.length c, Value.int IntKind.i64 wh, Value.int IntKind.i64 at_, Value.int IntKind.i64 sz, undef, undef, undef, undef, undef, u10, Value.pointer (some { block := d, off := 0 }), Value.pointer (some { block := b, off := 0 }), Value.slice (some { block := g, off := 0 }) n uc, Value.bool true, undef, undef, Value.pointer (some { block := w4.heap.size, off := 0 }), Value.pointer (some { block := w5.heap.size, off := 0 }), Value.pointer (some { block := w7.heap.size, off := 0 }), Value.int IntKind.i64 (er : Int), Value.int IntKind.i64 (k : Int), Value.tuple #[Value.pointer (some { block := d, off := 0 }), Value.pointer (some { block := b, off := 0 })], Value.int IntKind.i64 lim, Value.tuple #[Value.pointer (some { block := d, off := 0 }), Value.pointer (some { block := b, off := 0 })], Value.pointer (some { block := d, off := 0 }), Value.pointer (some { block := b, off := 0 }), Value.pointer (some { block := d, off := 0 }), Value.bool false, Value.tuple #[Value.slice (some { block := g, off := 0 }) n uc, Value.bool true], Value.pointer (some { block := b, off := 0 }), Value.slice a ls.length c, Value.tuple #[Value.slice (some { block := g, off := 0 }) n uc, Value.bool true], Value.slice (some { block := g, off := 0 }) n uc, Value.bool true, Value.bool true, Value.bool false, Value.slice (some { block := g, off := 0 }) n uc, Value.int IntKind.i64 (n : Int), Value.bool false, undef, undef, undef, undef, undef, undef, undef, undef, Value.slice (some { block := g, off := 0 }) n uc, Value.int IntKind.i64 wh, Value.slice (some { block := g, off := 0 }) n uc, Value.int IntKind.i64 (n : Int), Value.int IntKind.i64 (i0 : Int), Value.pointer (some { block := g, off := i0 * 3 }), Value.agg #[Value.int IntKind.u32 (sg : Int), Value.int IntKind.i64 (A0 : Int), Value.int IntKind.i64 (N0 : Int)], Value.pointer (some { block := w4.heap.size, off := 0 }), Value.int IntKind.u32 (sg : Int), Value.pointer (some { block := w4.heap.size, off := 1 }), Value.int IntKind.i64 (A0 : Int), Value.int IntKind.i64 at_, Value.int IntKind.i64 (xa : Int), Value.int IntKind.i64 ((A0 : Int) + (xa : Int)), Value.int IntKind.i64 qa, Value.pointer (some { block := w4.heap.size, off := 2 }), Value.int IntKind.i64 (N0 : Int), Value.int IntKind.i64 sz, Value.int IntKind.i64 (xs : Int), Value.int IntKind.i64 ((N0 : Int) + (xs : Int)), Value.int IntKind.i64 qn, Value.agg #[Value.int IntKind.u32 (sg : Int), Value.int IntKind.i64 qa, Value.int IntKind.i64 qn], Value.tuple #[Value.agg #[Value.int IntKind.u64 (rl : Int), Value.int IntKind.i64 rk, Value.string rky, Value.string rvl], Value.int IntKind.i64 (er : Int)], Value.pointer (some { block := d, off := 0 }), Value.agg #[Value.int IntKind.u32 (sg : Int), Value.int IntKind.i64 qa, Value.int IntKind.i64 qn], Value.tuple #[Value.agg #[Value.int IntKind.u64 (rl : Int), Value.int IntKind.i64 rk, Value.string rky, Value.string rvl], Value.int IntKind.i64 (er : Int)], Value.agg #[Value.int IntKind.u64 (rl : Int), Value.int IntKind.i64 rk, Value.string rky, Value.string rvl], Value.int IntKind.i64 (er : Int), Value.int IntKind.i64 (k : Int), Value.slice (some { block := g, off := 0 }) n uc, Value.int IntKind.i64 (n : Int), Value.bool true, u80, u81, Value.slice (some { block := g, off := 0 }) n uc, Value.int IntKind.i64 (k : Int), .pointer (some ⟨g, k * 3, none⟩), .agg #[.int .u32 (p1 : Int), .int .i64 (p2 : Int), .int .i64 (p3 : Int)], .agg #[.int .u32 (sg : Int), .int .i64 qa, .int .i64 qn], .bool false, u88, u89, u90, u91, u92, u93, u94, u95, u96, u97, u98, u99, undef, undef, undef, undef, undef, undef, undef, undef, undef, undef, undef, undef, undef, undef, undef, undef, undef, undef, undef, undef, undef, undef] := by
                refine arr_one (hsz.trans rfl) fun kk hkk => ?_
                match kk, hkk with
                | 0, _ => exact hout 0 (notDst_spec (by kernel_rfl))
                | 1, _ => exact hout 1 (notDst_spec (by kernel_rfl))
                | 2, _ => exact hout 2 (notDst_spec (by kernel_rfl))
                | 3, _ => exact hout 3 (notDst_spec (by kernel_rfl))
                | 4, _ => exact hout 4 (notDst_spec (by kernel_rfl))
                | 5, _ => exact hout 5 (notDst_spec (by kernel_rfl))
                | 6, _ => exact hout 6 (notDst_spec (by kernel_rfl))
                | 7, _ => exact hout 7 (notDst_spec (by kernel_rfl))
                | 8, _ => exact hout 8 (notDst_spec (by kernel_rfl))
                | 9, _ => exact hout 9 (notDst_spec (by kernel_rfl))
                | 10, _ => exact hout 10 (notDst_spec (by kernel_rfl))
                | 11, _ => exact hout 11 (notDst_spec (by kernel_rfl))
                | 12, _ => exact hout 12 (notDst_spec (by kernel_rfl))
                | 13, _ => exact hout 13 (notDst_spec (by kernel_rfl))
                | 14, _ => exact hout 14 (notDst_spec (by kernel_rfl))
                | 15, _ => exact hout 15 (notDst_spec (by kernel_rfl))
                | 16, _ => exact hout 16 (notDst_spec (by kernel_rfl))
                | 17, _ => exact hout 17 (notDst_spec (by kernel_rfl))
                | 18, _ => exact hout 18 (notDst_spec (by kernel_rfl))
                | 19, _ => exact hout 19 (notDst_spec (by kernel_rfl))
                | 20, _ => exact hout 20 (notDst_spec (by kernel_rfl))
                | 21, _ => exact hout 21 (notDst_spec (by kernel_rfl))
                | 22, _ => exact hout 22 (notDst_spec (by kernel_rfl))
                | 23, _ => exact hout 23 (notDst_spec (by kernel_rfl))
                | 24, _ => exact hout 24 (notDst_spec (by kernel_rfl))
                | 25, _ => exact hout 25 (notDst_spec (by kernel_rfl))
                | 26, _ => exact hout 26 (notDst_spec (by kernel_rfl))
                | 27, _ => exact hout 27 (notDst_spec (by kernel_rfl))
                | 28, _ => exact hout 28 (notDst_spec (by kernel_rfl))
                | 29, _ => exact hout 29 (notDst_spec (by kernel_rfl))
                | 30, _ => exact hout 30 (notDst_spec (by kernel_rfl))
                | 31, _ => exact hout 31 (notDst_spec (by kernel_rfl))
                | 32, _ => exact hout 32 (notDst_spec (by kernel_rfl))
                | 33, _ => exact hout 33 (notDst_spec (by kernel_rfl))
                | 34, _ => exact hout 34 (notDst_spec (by kernel_rfl))
                | 35, _ => exact hout 35 (notDst_spec (by kernel_rfl))
                | 36, _ => exact hout 36 (notDst_spec (by kernel_rfl))
                | 37, _ => exact hout 37 (notDst_spec (by kernel_rfl))
                | 38, _ => exact hout 38 (notDst_spec (by kernel_rfl))
                | 39, _ => exact hout 39 (notDst_spec (by kernel_rfl))
                | 40, _ => exact hout 40 (notDst_spec (by kernel_rfl))
                | 41, _ => exact hout 41 (notDst_spec (by kernel_rfl))
                | 42, _ => exact hout 42 (notDst_spec (by kernel_rfl))
                | 43, _ => exact hout 43 (notDst_spec (by kernel_rfl))
                | 44, _ => exact hout 44 (notDst_spec (by kernel_rfl))
                | 45, _ => exact hout 45 (notDst_spec (by kernel_rfl))
                | 46, _ => exact hout 46 (notDst_spec (by kernel_rfl))
                | 47, _ => exact hout 47 (notDst_spec (by kernel_rfl))
                | 48, _ => exact hout 48 (notDst_spec (by kernel_rfl))
                | 49, _ => exact hout 49 (notDst_spec (by kernel_rfl))
                | 50, _ => exact hout 50 (notDst_spec (by kernel_rfl))
                | 51, _ => exact hout 51 (notDst_spec (by kernel_rfl))
                | 52, _ => exact hout 52 (notDst_spec (by kernel_rfl))
                | 53, _ => exact hout 53 (notDst_spec (by kernel_rfl))
                | 54, _ => exact hout 54 (notDst_spec (by kernel_rfl))
                | 55, _ => exact hout 55 (notDst_spec (by kernel_rfl))
                | 56, _ => exact hout 56 (notDst_spec (by kernel_rfl))
                | 57, _ => exact hout 57 (notDst_spec (by kernel_rfl))
                | 58, _ => exact hout 58 (notDst_spec (by kernel_rfl))
                | 59, _ => exact hout 59 (notDst_spec (by kernel_rfl))
                | 60, _ => exact hout 60 (notDst_spec (by kernel_rfl))
                | 61, _ => exact hout 61 (notDst_spec (by kernel_rfl))
                | 62, _ => exact hout 62 (notDst_spec (by kernel_rfl))
                | 63, _ => exact hout 63 (notDst_spec (by kernel_rfl))
                | 64, _ => exact hout 64 (notDst_spec (by kernel_rfl))
                | 65, _ => exact hout 65 (notDst_spec (by kernel_rfl))
                | 66, _ => exact hout 66 (notDst_spec (by kernel_rfl))
                | 67, _ => exact hout 67 (notDst_spec (by kernel_rfl))
                | 68, _ => exact hout 68 (notDst_spec (by kernel_rfl))
                | 69, _ => exact hout 69 (notDst_spec (by kernel_rfl))
                | 70, _ => exact hout 70 (notDst_spec (by kernel_rfl))
                | 71, _ => exact hout 71 (notDst_spec (by kernel_rfl))
                | 72, _ => exact hout 72 (notDst_spec (by kernel_rfl))
                | 73, _ => exact hout 73 (notDst_spec (by kernel_rfl))
                | 74, _ => exact hout 74 (notDst_spec (by kernel_rfl))
                | 75, _ => exact hout 75 (notDst_spec (by kernel_rfl))
                | 76, _ => exact hout 76 (notDst_spec (by kernel_rfl))
                | 77, _ => exact hout 77 (notDst_spec (by kernel_rfl))
                | 78, _ => exact hout 78 (notDst_spec (by kernel_rfl))
                | 79, _ => exact hout 79 (notDst_spec (by kernel_rfl))
                | 80, _ => exact hout 80 (notDst_spec (by kernel_rfl))
                | 81, _ => exact hout 81 (notDst_spec (by kernel_rfl))
                | 82, _ => exact hall 0 (by decide)
                | 83, _ => exact hall 1 (by decide)
                | 84, _ => exact hall 2 (by decide)
                | 85, _ => exact hall 3 (by decide)
                | 86, _ => exact hall 4 (by decide)
                | 87, _ => exact hall 5 (by decide)
                | 88, _ => exact hout 88 (notDst_spec (by kernel_rfl))
                | 89, _ => exact hout 89 (notDst_spec (by kernel_rfl))
                | 90, _ => exact hout 90 (notDst_spec (by kernel_rfl))
                | 91, _ => exact hout 91 (notDst_spec (by kernel_rfl))
                | 92, _ => exact hout 92 (notDst_spec (by kernel_rfl))
                | 93, _ => exact hout 93 (notDst_spec (by kernel_rfl))
                | 94, _ => exact hout 94 (notDst_spec (by kernel_rfl))
                | 95, _ => exact hout 95 (notDst_spec (by kernel_rfl))
                | 96, _ => exact hout 96 (notDst_spec (by kernel_rfl))
                | 97, _ => exact hout 97 (notDst_spec (by kernel_rfl))
                | 98, _ => exact hout 98 (notDst_spec (by kernel_rfl))
                | 99, _ => exact hout 99 (notDst_spec (by kernel_rfl))
                | 100, _ => exact hout 100 (notDst_spec (by kernel_rfl))
                | 101, _ => exact hout 101 (notDst_spec (by kernel_rfl))
                | 102, _ => exact hout 102 (notDst_spec (by kernel_rfl))
                | 103, _ => exact hout 103 (notDst_spec (by kernel_rfl))
                | 104, _ => exact hout 104 (notDst_spec (by kernel_rfl))
                | 105, _ => exact hout 105 (notDst_spec (by kernel_rfl))
                | 106, _ => exact hout 106 (notDst_spec (by kernel_rfl))
                | 107, _ => exact hout 107 (notDst_spec (by kernel_rfl))
                | 108, _ => exact hout 108 (notDst_spec (by kernel_rfl))
                | 109, _ => exact hout 109 (notDst_spec (by kernel_rfl))
                | 110, _ => exact hout 110 (notDst_spec (by kernel_rfl))
                | 111, _ => exact hout 111 (notDst_spec (by kernel_rfl))
                | 112, _ => exact hout 112 (notDst_spec (by kernel_rfl))
                | 113, _ => exact hout 113 (notDst_spec (by kernel_rfl))
                | 114, _ => exact hout 114 (notDst_spec (by kernel_rfl))
                | 115, _ => exact hout 115 (notDst_spec (by kernel_rfl))
                | 116, _ => exact hout 116 (notDst_spec (by kernel_rfl))
                | 117, _ => exact hout 117 (notDst_spec (by kernel_rfl))
                | 118, _ => exact hout 118 (notDst_spec (by kernel_rfl))
                | 119, _ => exact hout 119 (notDst_spec (by kernel_rfl))
                | 120, _ => exact hout 120 (notDst_spec (by kernel_rfl))
                | 121, _ => exact hout 121 (notDst_spec (by kernel_rfl))
                | n + 122, h => exact absurd h (by simp)
              obtain ⟨tt, dd⟩ := aa
              simp only at hat hdf
              subst hat hdf
              clear hsz hout hall
              subst hW
              go_simp
              go_wp2_with fail
              go_roundw
              case rel => exact ⟨k + 1, by omega, by go_num, HB.out.trans (HBV.out.mono HB.out.size), HNK.out⟩
              case measure => simp [intOf]; omega
          · obtain ⟨hrc, her⟩ := HMK.out (hbi.1 rfl)
            obtain ⟨lb, off, l, rfl, hlk, hgd, hks, hvs, d0, d1, d2, d3⟩ := (HL.out.below HBW'.out).at (by omega : k < ls.length)
            have HRQ : Hid (∀ w, (binOp .eql 38 (.agg #[.int .u64 (rl : Int), .int .i64 rk, .string rky, .string rvl]) (.agg (rv (lnR l k)))).run Tryz.prog w = .ok (.bool true) w) := by
              obtain ⟨b9, h9, h10⟩ := rec_eql (lnR l k) (lnR l k)
              rw [h10 rfl] at h9
              rw [hgd] at hrc
              intro w
              have := h9 w
              rw [← hrc] at this ⊢
              exact this
            have hlb : lb < wr.heap.size := lt_cell d0
            have HRC : Hid (∀ q, Below v0.heap.size v0 q → Blk q w7.heap.size 38 [.int .u64 (rl : Int), .int .i64 rk, .string rky, .string rvl] ∧ (q.cell? ⟨lb, off + k * 4, none⟩ = some (.string l.key) ∧ q.cell? ⟨lb, off + k * 4 + 1, none⟩ = some (.string l.val) ∧ q.cell? ⟨lb, off + k * 4 + 2, none⟩ = some (.bool l.gone) ∧ q.cell? ⟨lb, off + k * 4 + 3, none⟩ = some (.bool l.syn))) := by
              intro q hb
              have hb2 : Below wr.heap.size wr q := HBV.out.trans (hb.mono HBV.out.size)
              exact ⟨hrr.keep hb2, (hb2.cell hlb).trans d0, (hb2.cell hlb).trans d1, (hb2.cell hlb).trans d2, (hb2.cell hlb).trans d3⟩
            have HBF : Hid (∀ q, Below v0.heap.size v0 q → Below w.heap.size w q) := by
              intro q hb
              have hb2 : Below wr.heap.size wr q := HBV.out.trans (hb.mono HBV.out.size)
              exact HBW'.out.trans (hb2.mono HBW'.out.size)
            have hbb := hd hbb0
            have HER := hd her
            clear hno hp hbi hqr hrr hTr hB hrc hlk hgd hbb0 hv0 her d0 d1 d2 d3 r0 r1 r2 r3 hlb
            go_wp2_with fail
            refine region_skip (fun i9 v9 _ => match i9 with
              | 0 => v9 = Value.slice (some { block := g, off := 0 }) n uc
              | 1 => v9 = Value.int IntKind.i64 (k : Int)
              | 2 => v9 = .pointer (some ⟨g, k * 3, none⟩)
              | 3 => v9 = .agg #[.int .u32 (p1 : Int), .int .i64 (p2 : Int), .int .i64 (p3 : Int)]
              | 4 => v9 = .agg #[.int .u32 (sg : Int), .int .i64 qa, .int .i64 qn]
              | _ => v9 = .bool true) (fun w => w = v0) hmx (by kernel_rfl) (by kernel_rfl) HV.out.symm ?_ ?_ ?_
            · intro i9 v9 w8 w9 _ _ hb hG
              match i9, hG with
              | 0, h => exact h
              | 1, h => exact h
              | 2, h => exact h
              | 3, h => exact h
              | 4, h => exact h
              | n + 5, h => exact h
            · intro i9 o9 ho a9 w9 hW hdf hsz hout haf
              have ee13 := getq (show a9.tmps.getD 13 undef = Value.slice (some { block := g, off := 0 }) n uc from hout 13 (notDst_spec (by kernel_rfl)))
              have ee18 := getq (show a9.tmps.getD 18 undef = Value.pointer (some { block := w5.heap.size, off := 0 }) from hout 18 (notDst_spec (by kernel_rfl)))
              have ee21 := getq (show a9.tmps.getD 21 undef = Value.int IntKind.i64 (k : Int) from hout 21 (notDst_spec (by kernel_rfl)))
              have hsz2 : a9.tmps.size = 122 := hsz
              clear hout hsz hdf
              match i9, ho, haf with
              | 0, ho, haf =>
                obtain rfl := Option.some.inj ho
                refine skip_good _ (wanted_none rfl) ?_
                clear haf ho hsz2
                intro K hK
                simp only [List.getElem_toArray, List.getElem_cons_zero] at hK ⊢
                subst hW
                go_simp
                exact hK _ _ ⟨Below.refl _ _, rfl, rfl⟩
              | 1, ho, haf =>
                obtain rfl := Option.some.inj ho
                refine skip_good _ (wanted_none rfl) ?_
                clear haf ho hsz2
                intro K hK
                simp only [List.getElem_toArray, List.getElem_cons_succ, List.getElem_cons_zero] at hK ⊢
                subst hW
                go_simp
                exact hK _ _ ⟨Below.refl _ _, rfl, rfl⟩
              | 2, ho, haf =>
                obtain rfl := Option.some.inj ho
                have f0 := getq (show a9.tmps.getD 82 undef = Value.slice (some { block := g, off := 0 }) n uc from haf ⟨0, .data⟩ (by simp) rfl)
                have f1 := getq (show a9.tmps.getD 83 undef = Value.int IntKind.i64 (k : Int) from haf ⟨1, .data⟩ (by simp) rfl)
                refine skip_good _ (wanted_none rfl) ?_
                clear haf ho hsz2
                intro K hK
                simp only [List.getElem_toArray, List.getElem_cons_succ, List.getElem_cons_zero] at hK ⊢
                subst hW
                go_simp
                exact hK _ _ ⟨Below.refl _ _, rfl, rfl⟩
              | 3, ho, haf =>
                obtain rfl := Option.some.inj ho
                have f2 := getq (show a9.tmps.getD 84 undef = .pointer (some ⟨g, k * 3, none⟩) from haf ⟨2, .data⟩ (by simp) rfl)
                refine skip_good _ (wanted_none rfl) ?_
                clear haf ho hsz2
                intro K hK
                simp only [List.getElem_toArray, List.getElem_cons_succ, List.getElem_cons_zero] at hK ⊢
                subst hW
                have hx0 := hc0.out
                have hx1 := hc1.out
                have hx2 := hc2.out
                go_simp
                exact hK _ _ ⟨Below.refl _ _, rfl, rfl⟩
              | 4, ho, haf =>
                obtain rfl := Option.some.inj ho
                refine skip_good _ (wanted_none rfl) ?_
                clear haf ho hsz2
                intro K hK
                simp only [List.getElem_toArray, List.getElem_cons_succ, List.getElem_cons_zero] at hK ⊢
                subst hW
                have hx0 := e0.out
                have hx1 := e1.out
                have hx2 := e2.out
                go_simp
                exact hK _ _ ⟨Below.refl _ _, rfl, rfl⟩
              | 5, ho, haf =>
                obtain rfl := Option.some.inj ho
                have f3 := getq (show a9.tmps.getD 85 undef = .agg #[.int .u32 (p1 : Int), .int .i64 (p2 : Int), .int .i64 (p3 : Int)] from haf ⟨3, .data⟩ (by simp) rfl)
                have f4 := getq (show a9.tmps.getD 86 undef = .agg #[.int .u32 (sg : Int), .int .i64 qa, .int .i64 qn] from haf ⟨4, .data⟩ (by simp) rfl)
                refine skip_good _ (wanted_none rfl) ?_
                clear haf ho hsz2
                intro K hK
                simp only [List.getElem_toArray, List.getElem_cons_succ, List.getElem_cons_zero] at hK ⊢
                subst hW
                have hx0 := hbb.out
                go_simp
                exact hK _ _ ⟨Below.refl _ _, rfl, rfl⟩
              | n + 6, ho, haf => simp at ho
            · intro aa w9 hW hdf hsz hout hall
              have hat : aa.tmps = #[Value.int IntKind.i64 lim, Value.slice (some { block := lb, off := off }) ls.length c, Value.int IntKind.i64 wh, Value.int IntKind.i64 at_, Value.int IntKind.i64 sz, undef, undef, undef, undef, undef, u10, Value.pointer (some { block := d, off := 0 }), Value.pointer (some { block := b, off := 0 }), Value.slice (some { block := g, off := 0 }) n uc, Value.bool true, undef, undef, Value.pointer (some { block := w4.heap.size, off := 0 }), Value.pointer (some { block := w5.heap.size, off := 0 }), Value.pointer (some { block := w7.heap.size, off := 0 }), Value.int IntKind.i64 (er : Int), Value.int IntKind.i64 (k : Int), Value.tuple #[Value.pointer (some { block := d, off := 0 }), Value.pointer (some { block := b, off := 0 })], Value.int IntKind.i64 lim, Value.tuple #[Value.pointer (some { block := d, off := 0 }), Value.pointer (some { block := b, off := 0 })], Value.pointer (some { block := d, off := 0 }), Value.pointer (some { block := b, off := 0 }), Value.pointer (some { block := d, off := 0 }), Value.bool false, Value.tuple #[Value.slice (some { block := g, off := 0 }) n uc, Value.bool true], Value.pointer (some { block := b, off := 0 }), Value.slice (some { block := lb, off := off }) ls.length c, Value.tuple #[Value.slice (some { block := g, off := 0 }) n uc, Value.bool true], Value.slice (some { block := g, off := 0 }) n uc, Value.bool true, Value.bool true, Value.bool false, Value.slice (some { block := g, off := 0 }) n uc, Value.int IntKind.i64 (n : Int), Value.bool false, undef, undef, undef, undef, undef, undef, undef, undef, Value.slice (some { block := g, off := 0 }) n uc, Value.int IntKind.i64 wh, Value.slice (some { block := g, off := 0 }) n uc, Value.int IntKind.i64 (n : Int), Value.int IntKind.i64 (i0 : Int), Value.pointer (some { block := g, off := i0 * 3 }), Value.agg #[Value.int IntKind.u32 (sg : Int), Value.int IntKind.i64 (A0 : Int), Value.int IntKind.i64 (N0 : Int)], Value.pointer (some { block := w4.heap.size, off := 0 }), Value.int IntKind.u32 (sg : Int), Value.pointer (some { block := w4.heap.size, off := 1 }), Value.int IntKind.i64 (A0 : Int), Value.int IntKind.i64 at_, Value.int IntKind.i64 (xa : Int), Value.int IntKind.i64 ((A0 : Int) + (xa : Int)), Value.int IntKind.i64 qa, Value.pointer (some { block := w4.heap.size, off := 2 }), Value.int IntKind.i64 (N0 : Int), Value.int IntKind.i64 sz, Value.int IntKind.i64 (xs : Int), Value.int IntKind.i64 ((N0 : Int) + (xs : Int)), Value.int IntKind.i64 qn, Value.agg #[Value.int IntKind.u32 (sg : Int), Value.int IntKind.i64 qa, Value.int IntKind.i64 qn], Value.tuple #[Value.agg #[Value.int IntKind.u64 (rl : Int), Value.int IntKind.i64 rk, Value.string rky, Value.string rvl], Value.int IntKind.i64 (er : Int)], Value.pointer (some { block := d, off := 0 }), Value.agg #[Value.int IntKind.u32 (sg : Int), Value.int IntKind.i64 qa, Value.int IntKind.i64 qn], Value.tuple #[Value.agg #[Value.int IntKind.u64 (rl : Int), Value.int IntKind.i64 rk, Value.string rky, Value.string rvl], Value.int IntKind.i64 (er : Int)], Value.agg #[Value.int IntKind.u64 (rl : Int), Value.int IntKind.i64 rk, Value.string rky, Value.string rvl], Value.int IntKind.i64 (er : Int), Value.int IntKind.i64 (k : Int), Value.slice (some { block := g, off := 0 }) n uc, Value.int IntKind.i64 (n : Int), Value.bool true, u80, u81, Value.slice (some { block := g, off := 0 }) n uc, Value.int IntKind.i64 (k : Int), .pointer (some ⟨g, k * 3, none⟩), .agg #[.int .u32 (p1 : Int), .int .i64 (p2 : Int), .int .i64 (p3 : Int)], .agg #[.int .u32 (sg : Int), .int .i64 qa, .int .i64 qn], .bool true, u88, u89, u90, u91, u92, u93, u94, u95, u96, u97, u98, u99, undef, undef, undef, undef, undef, undef, undef, undef, undef, undef, undef, undef, undef, undef, undef, undef, undef, undef, undef, undef, undef, undef] := by
                refine arr_one (hsz.trans rfl) fun kk hkk => ?_
                match kk, hkk with
                | 0, _ => exact hout 0 (notDst_spec (by kernel_rfl))
                | 1, _ => exact hout 1 (notDst_spec (by kernel_rfl))
                | 2, _ => exact hout 2 (notDst_spec (by kernel_rfl))
                | 3, _ => exact hout 3 (notDst_spec (by kernel_rfl))
                | 4, _ => exact hout 4 (notDst_spec (by kernel_rfl))
                | 5, _ => exact hout 5 (notDst_spec (by kernel_rfl))
                | 6, _ => exact hout 6 (notDst_spec (by kernel_rfl))
                | 7, _ => exact hout 7 (notDst_spec (by kernel_rfl))
                | 8, _ => exact hout 8 (notDst_spec (by kernel_rfl))
                | 9, _ => exact hout 9 (notDst_spec (by kernel_rfl))
                | 10, _ => exact hout 10 (notDst_spec (by kernel_rfl))
                | 11, _ => exact hout 11 (notDst_spec (by kernel_rfl))
                | 12, _ => exact hout 12 (notDst_spec (by kernel_rfl))
                | 13, _ => exact hout 13 (notDst_spec (by kernel_rfl))
                | 14, _ => exact hout 14 (notDst_spec (by kernel_rfl))
                | 15, _ => exact hout 15 (notDst_spec (by kernel_rfl))
                | 16, _ => exact hout 16 (notDst_spec (by kernel_rfl))
                | 17, _ => exact hout 17 (notDst_spec (by kernel_rfl))
                | 18, _ => exact hout 18 (notDst_spec (by kernel_rfl))
                | 19, _ => exact hout 19 (notDst_spec (by kernel_rfl))
                | 20, _ => exact hout 20 (notDst_spec (by kernel_rfl))
                | 21, _ => exact hout 21 (notDst_spec (by kernel_rfl))
                | 22, _ => exact hout 22 (notDst_spec (by kernel_rfl))
                | 23, _ => exact hout 23 (notDst_spec (by kernel_rfl))
                | 24, _ => exact hout 24 (notDst_spec (by kernel_rfl))
                | 25, _ => exact hout 25 (notDst_spec (by kernel_rfl))
                | 26, _ => exact hout 26 (notDst_spec (by kernel_rfl))
                | 27, _ => exact hout 27 (notDst_spec (by kernel_rfl))
                | 28, _ => exact hout 28 (notDst_spec (by kernel_rfl))
                | 29, _ => exact hout 29 (notDst_spec (by kernel_rfl))
                | 30, _ => exact hout 30 (notDst_spec (by kernel_rfl))
                | 31, _ => exact hout 31 (notDst_spec (by kernel_rfl))
                | 32, _ => exact hout 32 (notDst_spec (by kernel_rfl))
                | 33, _ => exact hout 33 (notDst_spec (by kernel_rfl))
                | 34, _ => exact hout 34 (notDst_spec (by kernel_rfl))
                | 35, _ => exact hout 35 (notDst_spec (by kernel_rfl))
                | 36, _ => exact hout 36 (notDst_spec (by kernel_rfl))
                | 37, _ => exact hout 37 (notDst_spec (by kernel_rfl))
                | 38, _ => exact hout 38 (notDst_spec (by kernel_rfl))
                | 39, _ => exact hout 39 (notDst_spec (by kernel_rfl))
                | 40, _ => exact hout 40 (notDst_spec (by kernel_rfl))
                | 41, _ => exact hout 41 (notDst_spec (by kernel_rfl))
                | 42, _ => exact hout 42 (notDst_spec (by kernel_rfl))
                | 43, _ => exact hout 43 (notDst_spec (by kernel_rfl))
                | 44, _ => exact hout 44 (notDst_spec (by kernel_rfl))
                | 45, _ => exact hout 45 (notDst_spec (by kernel_rfl))
                | 46, _ => exact hout 46 (notDst_spec (by kernel_rfl))
                | 47, _ => exact hout 47 (notDst_spec (by kernel_rfl))
                | 48, _ => exact hout 48 (notDst_spec (by kernel_rfl))
                | 49, _ => exact hout 49 (notDst_spec (by kernel_rfl))
                | 50, _ => exact hout 50 (notDst_spec (by kernel_rfl))
                | 51, _ => exact hout 51 (notDst_spec (by kernel_rfl))
                | 52, _ => exact hout 52 (notDst_spec (by kernel_rfl))
                | 53, _ => exact hout 53 (notDst_spec (by kernel_rfl))
                | 54, _ => exact hout 54 (notDst_spec (by kernel_rfl))
                | 55, _ => exact hout 55 (notDst_spec (by kernel_rfl))
                | 56, _ => exact hout 56 (notDst_spec (by kernel_rfl))
                | 57, _ => exact hout 57 (notDst_spec (by kernel_rfl))
                | 58, _ => exact hout 58 (notDst_spec (by kernel_rfl))
                | 59, _ => exact hout 59 (notDst_spec (by kernel_rfl))
                | 60, _ => exact hout 60 (notDst_spec (by kernel_rfl))
                | 61, _ => exact hout 61 (notDst_spec (by kernel_rfl))
                | 62, _ => exact hout 62 (notDst_spec (by kernel_rfl))
                | 63, _ => exact hout 63 (notDst_spec (by kernel_rfl))
                | 64, _ => exact hout 64 (notDst_spec (by kernel_rfl))
                | 65, _ => exact hout 65 (notDst_spec (by kernel_rfl))
                | 66, _ => exact hout 66 (notDst_spec (by kernel_rfl))
                | 67, _ => exact hout 67 (notDst_spec (by kernel_rfl))
                | 68, _ => exact hout 68 (notDst_spec (by kernel_rfl))
                | 69, _ => exact hout 69 (notDst_spec (by kernel_rfl))
                | 70, _ => exact hout 70 (notDst_spec (by kernel_rfl))
                | 71, _ => exact hout 71 (notDst_spec (by kernel_rfl))
                | 72, _ => exact hout 72 (notDst_spec (by kernel_rfl))
                | 73, _ => exact hout 73 (notDst_spec (by kernel_rfl))
                | 74, _ => exact hout 74 (notDst_spec (by kernel_rfl))
                | 75, _ => exact hout 75 (notDst_spec (by kernel_rfl))
                | 76, _ => exact hout 76 (notDst_spec (by kernel_rfl))
                | 77, _ => exact hout 77 (notDst_spec (by kernel_rfl))
                | 78, _ => exact hout 78 (notDst_spec (by kernel_rfl))
                | 79, _ => exact hout 79 (notDst_spec (by kernel_rfl))
                | 80, _ => exact hout 80 (notDst_spec (by kernel_rfl))
                | 81, _ => exact hout 81 (notDst_spec (by kernel_rfl))
                | 82, _ => exact hall 0 (by decide)
                | 83, _ => exact hall 1 (by decide)
                | 84, _ => exact hall 2 (by decide)
                | 85, _ => exact hall 3 (by decide)
                | 86, _ => exact hall 4 (by decide)
                | 87, _ => exact hall 5 (by decide)
                | 88, _ => exact hout 88 (notDst_spec (by kernel_rfl))
                | 89, _ => exact hout 89 (notDst_spec (by kernel_rfl))
                | 90, _ => exact hout 90 (notDst_spec (by kernel_rfl))
                | 91, _ => exact hout 91 (notDst_spec (by kernel_rfl))
                | 92, _ => exact hout 92 (notDst_spec (by kernel_rfl))
                | 93, _ => exact hout 93 (notDst_spec (by kernel_rfl))
                | 94, _ => exact hout 94 (notDst_spec (by kernel_rfl))
                | 95, _ => exact hout 95 (notDst_spec (by kernel_rfl))
                | 96, _ => exact hout 96 (notDst_spec (by kernel_rfl))
                | 97, _ => exact hout 97 (notDst_spec (by kernel_rfl))
                | 98, _ => exact hout 98 (notDst_spec (by kernel_rfl))
                | 99, _ => exact hout 99 (notDst_spec (by kernel_rfl))
                | 100, _ => exact hout 100 (notDst_spec (by kernel_rfl))
                | 101, _ => exact hout 101 (notDst_spec (by kernel_rfl))
                | 102, _ => exact hout 102 (notDst_spec (by kernel_rfl))
                | 103, _ => exact hout 103 (notDst_spec (by kernel_rfl))
                | 104, _ => exact hout 104 (notDst_spec (by kernel_rfl))
                | 105, _ => exact hout 105 (notDst_spec (by kernel_rfl))
                | 106, _ => exact hout 106 (notDst_spec (by kernel_rfl))
                | 107, _ => exact hout 107 (notDst_spec (by kernel_rfl))
                | 108, _ => exact hout 108 (notDst_spec (by kernel_rfl))
                | 109, _ => exact hout 109 (notDst_spec (by kernel_rfl))
                | 110, _ => exact hout 110 (notDst_spec (by kernel_rfl))
                | 111, _ => exact hout 111 (notDst_spec (by kernel_rfl))
                | 112, _ => exact hout 112 (notDst_spec (by kernel_rfl))
                | 113, _ => exact hout 113 (notDst_spec (by kernel_rfl))
                | 114, _ => exact hout 114 (notDst_spec (by kernel_rfl))
                | 115, _ => exact hout 115 (notDst_spec (by kernel_rfl))
                | 116, _ => exact hout 116 (notDst_spec (by kernel_rfl))
                | 117, _ => exact hout 117 (notDst_spec (by kernel_rfl))
                | 118, _ => exact hout 118 (notDst_spec (by kernel_rfl))
                | 119, _ => exact hout 119 (notDst_spec (by kernel_rfl))
                | 120, _ => exact hout 120 (notDst_spec (by kernel_rfl))
                | 121, _ => exact hout 121 (notDst_spec (by kernel_rfl))
                | n + 122, h => exact absurd h (by simp)
              obtain ⟨tt, dd⟩ := aa
              simp only at hat hdf
              subst hat hdf
              clear hsz hout hall
              subst hW
              have her := HER.out
              subst her
              go_simp
              go_wp2_with fail
              obtain ⟨wz, hwz⟩ : ∃ wz, wz = w9 := ⟨_, rfl⟩
              subst hwz
              refine region_skip (fun i9 v9 _ => match i9 with
                | 0 => v9 = Value.int IntKind.i64 0
                | 1 => v9 = .bool true
                | 2 => v9 = .bool true
                | 3 => v9 = .agg #[.int .u64 (rl : Int), .int .i64 rk, .string rky, .string rvl]
                | 4 => v9 = Value.slice (some { block := lb, off := off }) ls.length c
                | 5 => v9 = Value.int IntKind.i64 (k : Int)
                | 6 => v9 = .pointer (some ⟨lb, off + k * 4, none⟩)
                | 7 => v9 = .agg #[.string l.key, .string l.val, .bool l.gone, .bool l.syn]
                | 8 => v9 = Value.int IntKind.i64 (k : Int)
                | 9 => v9 = .agg (rv (lnR l k))
                | 10 => v9 = .bool true
                | 11 => v9 = .bool true
                | _ => v9 = .bool true) (fun w => Below wz.heap.size wz w) hmx (by kernel_rfl) (by kernel_rfl) ⟨rfl, rfl, rfl, Nat.le_refl _, fun _ _ => rfl⟩ ?_ ?_ ?_
              · intro i9 v9 w8 w9 _ _ hb hG
                match i9, hG with
                | 0, h => exact h
                | 1, h => exact h
                | 2, h => exact h
                | 3, h => exact h
                | 4, h => exact h
                | 5, h => exact h
                | 6, h => exact h
                | 7, h => exact h
                | 8, h => exact h
                | 9, h => exact h
                | 10, h => exact h
                | 11, h => exact h
                | n + 12, h => exact h
              · intro i9 o9 ho a9 w9 hW hdf hsz hout haf
                have ee1 := getq (show a9.tmps.getD 1 undef = Value.slice (some { block := lb, off := off }) ls.length c from hout 1 (notDst_spec (by kernel_rfl)))
                have ee19 := getq (show a9.tmps.getD 19 undef = Value.pointer (some { block := w7.heap.size, off := 0 }) from hout 19 (notDst_spec (by kernel_rfl)))
                have ee20 := getq (show a9.tmps.getD 20 undef = Value.int IntKind.i64 0 from hout 20 (notDst_spec (by kernel_rfl)))
                have ee21 := getq (show a9.tmps.getD 21 undef = Value.int IntKind.i64 (k : Int) from hout 21 (notDst_spec (by kernel_rfl)))
                have hsz2 : a9.tmps.size = 122 := hsz
                clear hout hsz hdf
                match i9, ho, haf with
                | 0, ho, haf =>
                  obtain rfl := Option.some.inj ho
                  refine skip_good _ (wanted_none rfl) ?_
                  clear haf ho hsz2
                  intro K hK
                  simp only [List.getElem_toArray, List.getElem_cons_zero] at hK ⊢
                  go_simp
                  exact hK _ _ ⟨Below.refl _ _, hW, rfl⟩
                | 1, ho, haf =>
                  obtain rfl := Option.some.inj ho
                  have f0 := getq (show a9.tmps.getD 88 undef = Value.int IntKind.i64 0 from haf ⟨0, .data⟩ (by simp) rfl)
                  refine skip_good _ (wanted_none rfl) ?_
                  clear haf ho hsz2
                  intro K hK
                  simp only [List.getElem_toArray, List.getElem_cons_succ, List.getElem_cons_zero] at hK ⊢
                  go_simp
                  exact hK _ _ ⟨Below.refl _ _, hW, rfl⟩
                | 2, ho, haf =>
                  obtain rfl := Option.some.inj ho
                  have f1 := getq (show a9.tmps.getD 89 undef = .bool true from haf ⟨1, .data⟩ (by simp) rfl)
                  refine skip_good _ (wanted_none rfl) ?_
                  clear haf ho hsz2
                  intro K hK
                  simp only [List.getElem_toArray, List.getElem_cons_succ, List.getElem_cons_zero] at hK ⊢
                  go_simp
                  exact hK _ _ ⟨Below.refl _ _, hW, rfl⟩
                | 3, ho, haf =>
                  obtain rfl := Option.some.inj ho
                  have gg : a9.tmps.getD 90 undef = .bool true := haf ⟨2, .guard⟩ (by simp) rfl
                  refine skip_good _ (wanted_some rfl (yielded_of (d := 90) rfl (by omega) gg)) ?_
                  clear haf ho hsz2 gg
                  intro K hK
                  simp only [List.getElem_toArray, List.getElem_cons_succ, List.getElem_cons_zero] at hK ⊢
                  have hz := HRC.out w9 hW
                  have x0 := hz.1.cell 0 _ rfl
                  have x1 := hz.1.cell 1 _ rfl
                  have x2 := hz.1.cell 2 _ rfl
                  have x3 := hz.1.cell 3 _ rfl
                  clear hz
                  go_simp
                  exact hK _ _ ⟨Below.refl _ _, hW, rfl⟩
                | 4, ho, haf =>
                  obtain rfl := Option.some.inj ho
                  have gg : a9.tmps.getD 90 undef = .bool true := haf ⟨2, .guard⟩ (by simp) rfl
                  refine skip_good _ (wanted_some rfl (yielded_of (d := 90) rfl (by omega) gg)) ?_
                  clear haf ho hsz2 gg
                  intro K hK
                  simp only [List.getElem_toArray, List.getElem_cons_succ, List.getElem_cons_zero] at hK ⊢
                  go_simp
                  exact hK _ _ ⟨Below.refl _ _, hW, rfl⟩
                | 5, ho, haf =>
                  obtain rfl := Option.some.inj ho
                  have gg : a9.tmps.getD 90 undef = .bool true := haf ⟨2, .guard⟩ (by simp) rfl
                  refine skip_good _ (wanted_some rfl (yielded_of (d := 90) rfl (by omega) gg)) ?_
                  clear haf ho hsz2 gg
                  intro K hK
                  simp only [List.getElem_toArray, List.getElem_cons_succ, List.getElem_cons_zero] at hK ⊢
                  go_simp
                  exact hK _ _ ⟨Below.refl _ _, hW, rfl⟩
                | 6, ho, haf =>
                  obtain rfl := Option.some.inj ho
                  have gg : a9.tmps.getD 90 undef = .bool true := haf ⟨2, .guard⟩ (by simp) rfl
                  have f4 := getq (show a9.tmps.getD 92 undef = Value.slice (some { block := lb, off := off }) ls.length c from haf ⟨4, .data⟩ (by simp) rfl)
                  have f5 := getq (show a9.tmps.getD 93 undef = Value.int IntKind.i64 (k : Int) from haf ⟨5, .data⟩ (by simp) rfl)
                  refine skip_good _ (wanted_some rfl (yielded_of (d := 90) rfl (by omega) gg)) ?_
                  clear haf ho hsz2 gg
                  intro K hK
                  simp only [List.getElem_toArray, List.getElem_cons_succ, List.getElem_cons_zero] at hK ⊢
                  have hx : k < ls.length := by omega
                  go_simp
                  exact hK _ _ ⟨Below.refl _ _, hW, rfl⟩
                | 7, ho, haf =>
                  obtain rfl := Option.some.inj ho
                  have gg : a9.tmps.getD 90 undef = .bool true := haf ⟨2, .guard⟩ (by simp) rfl
                  have f6 := getq (show a9.tmps.getD 94 undef = .pointer (some ⟨lb, off + k * 4, none⟩) from haf ⟨6, .data⟩ (by simp) rfl)
                  refine skip_good _ (wanted_some rfl (yielded_of (d := 90) rfl (by omega) gg)) ?_
                  clear haf ho hsz2 gg
                  intro K hK
                  simp only [List.getElem_toArray, List.getElem_cons_succ, List.getElem_cons_zero] at hK ⊢
                  have hz := HRC.out w9 hW
                  obtain ⟨x0, x1, x2, x3⟩ := hz.2
                  clear hz
                  go_simp
                  exact hK _ _ ⟨Below.refl _ _, hW, rfl⟩
                | 8, ho, haf =>
                  obtain rfl := Option.some.inj ho
                  have gg : a9.tmps.getD 90 undef = .bool true := haf ⟨2, .guard⟩ (by simp) rfl
                  refine skip_good _ (wanted_some rfl (yielded_of (d := 90) rfl (by omega) gg)) ?_
                  clear haf ho hsz2 gg
                  intro K hK
                  simp only [List.getElem_toArray, List.getElem_cons_succ, List.getElem_cons_zero] at hK ⊢
                  go_simp
                  exact hK _ _ ⟨Below.refl _ _, hW, rfl⟩
                | 9, ho, haf =>
                  obtain rfl := Option.some.inj ho
                  have gg : a9.tmps.getD 90 undef = .bool true := haf ⟨2, .guard⟩ (by simp) rfl
                  have f7 := getq (show a9.tmps.getD 95 undef = .agg #[.string l.key, .string l.val, .bool l.gone, .bool l.syn] from haf ⟨7, .data⟩ (by simp) rfl)
                  have f8 := getq (show a9.tmps.getD 96 undef = Value.int IntKind.i64 (k : Int) from haf ⟨8, .data⟩ (by simp) rfl)
                  refine skip_good _ (wanted_some rfl (yielded_of (d := 90) rfl (by omega) gg)) ?_
                  clear haf ho hsz2 gg
                  intro K hK
                  simp only [List.getElem_toArray, List.getElem_cons_succ, List.getElem_cons_zero] at hK ⊢
                  go_simp
                  refine Calls.mono (record_is l k w9 hks hvs (by omega)) ?_
                  rintro e8 w8 ⟨rfl, hb9⟩
                  exact hK _ _ ⟨hb9, hW.trans (hb9.mono hW.size), rfl⟩
                | 10, ho, haf =>
                  obtain rfl := Option.some.inj ho
                  have gg : a9.tmps.getD 90 undef = .bool true := haf ⟨2, .guard⟩ (by simp) rfl
                  have f3 := getq (show a9.tmps.getD 91 undef = .agg #[.int .u64 (rl : Int), .int .i64 rk, .string rky, .string rvl] from haf ⟨3, .data⟩ (by simp) rfl)
                  have f9 := getq (show a9.tmps.getD 97 undef = .agg (rv (lnR l k)) from haf ⟨9, .data⟩ (by simp) rfl)
                  refine skip_good _ (wanted_some rfl (yielded_of (d := 90) rfl (by omega) gg)) ?_
                  clear haf ho hsz2 gg
                  intro K hK
                  simp only [List.getElem_toArray, List.getElem_cons_succ, List.getElem_cons_zero] at hK ⊢
                  have hx := HRQ.out
                  go_simp
                  exact hK _ _ ⟨Below.refl _ _, hW, rfl⟩
                | 11, ho, haf =>
                  obtain rfl := Option.some.inj ho
                  have f2 := getq (show a9.tmps.getD 90 undef = .bool true from haf ⟨2, .data⟩ (by simp) rfl)
                  have f10 := getq (show a9.tmps.getD 98 undef = .bool true from haf ⟨10, .data⟩ (by simp) rfl)
                  refine skip_good _ (wanted_none rfl) ?_
                  clear haf ho hsz2
                  intro K hK
                  simp only [List.getElem_toArray, List.getElem_cons_succ, List.getElem_cons_zero] at hK ⊢
                  go_simp
                  exact hK _ _ ⟨Below.refl _ _, hW, rfl⟩
                | 12, ho, haf =>
                  obtain rfl := Option.some.inj ho
                  have f11 := getq (show a9.tmps.getD 99 undef = .bool true from haf ⟨11, .data⟩ (by simp) rfl)
                  refine skip_good _ (wanted_none rfl) ?_
                  clear haf ho hsz2
                  intro K hK
                  simp only [List.getElem_toArray, List.getElem_cons_succ, List.getElem_cons_zero] at hK ⊢
                  go_simp
                  exact hK _ _ ⟨Below.refl _ _, hW, rfl⟩
                | n + 13, ho, haf => simp at ho
              · intro aa w9 hW hdf hsz hout hall
                have hat : aa.tmps = #[Value.int IntKind.i64 lim, Value.slice (some { block := lb, off := off }) ls.length c, Value.int IntKind.i64 wh, Value.int IntKind.i64 at_, Value.int IntKind.i64 sz, undef, undef, undef, undef, undef, .bool true, Value.pointer (some { block := d, off := 0 }), Value.pointer (some { block := b, off := 0 }), Value.slice (some { block := g, off := 0 }) n uc, Value.bool true, undef, undef, Value.pointer (some { block := w4.heap.size, off := 0 }), Value.pointer (some { block := w5.heap.size, off := 0 }), Value.pointer (some { block := w7.heap.size, off := 0 }), Value.int IntKind.i64 0, Value.int IntKind.i64 (k : Int), Value.tuple #[Value.pointer (some { block := d, off := 0 }), Value.pointer (some { block := b, off := 0 })], Value.int IntKind.i64 lim, Value.tuple #[Value.pointer (some { block := d, off := 0 }), Value.pointer (some { block := b, off := 0 })], Value.pointer (some { block := d, off := 0 }), Value.pointer (some { block := b, off := 0 }), Value.pointer (some { block := d, off := 0 }), Value.bool false, Value.tuple #[Value.slice (some { block := g, off := 0 }) n uc, Value.bool true], Value.pointer (some { block := b, off := 0 }), Value.slice (some { block := lb, off := off }) ls.length c, Value.tuple #[Value.slice (some { block := g, off := 0 }) n uc, Value.bool true], Value.slice (some { block := g, off := 0 }) n uc, Value.bool true, Value.bool true, Value.bool false, Value.slice (some { block := g, off := 0 }) n uc, Value.int IntKind.i64 (n : Int), Value.bool false, undef, undef, undef, undef, undef, undef, undef, undef, Value.slice (some { block := g, off := 0 }) n uc, Value.int IntKind.i64 wh, Value.slice (some { block := g, off := 0 }) n uc, Value.int IntKind.i64 (n : Int), Value.int IntKind.i64 (i0 : Int), Value.pointer (some { block := g, off := i0 * 3 }), Value.agg #[Value.int IntKind.u32 (sg : Int), Value.int IntKind.i64 (A0 : Int), Value.int IntKind.i64 (N0 : Int)], Value.pointer (some { block := w4.heap.size, off := 0 }), Value.int IntKind.u32 (sg : Int), Value.pointer (some { block := w4.heap.size, off := 1 }), Value.int IntKind.i64 (A0 : Int), Value.int IntKind.i64 at_, Value.int IntKind.i64 (xa : Int), Value.int IntKind.i64 ((A0 : Int) + (xa : Int)), Value.int IntKind.i64 qa, Value.pointer (some { block := w4.heap.size, off := 2 }), Value.int IntKind.i64 (N0 : Int), Value.int IntKind.i64 sz, Value.int IntKind.i64 (xs : Int), Value.int IntKind.i64 ((N0 : Int) + (xs : Int)), Value.int IntKind.i64 qn, Value.agg #[Value.int IntKind.u32 (sg : Int), Value.int IntKind.i64 qa, Value.int IntKind.i64 qn], Value.tuple #[Value.agg #[Value.int IntKind.u64 (rl : Int), Value.int IntKind.i64 rk, Value.string rky, Value.string rvl], Value.int IntKind.i64 0], Value.pointer (some { block := d, off := 0 }), Value.agg #[Value.int IntKind.u32 (sg : Int), Value.int IntKind.i64 qa, Value.int IntKind.i64 qn], Value.tuple #[Value.agg #[Value.int IntKind.u64 (rl : Int), Value.int IntKind.i64 rk, Value.string rky, Value.string rvl], Value.int IntKind.i64 0], Value.agg #[Value.int IntKind.u64 (rl : Int), Value.int IntKind.i64 rk, Value.string rky, Value.string rvl], Value.int IntKind.i64 0, Value.int IntKind.i64 (k : Int), Value.slice (some { block := g, off := 0 }) n uc, Value.int IntKind.i64 (n : Int), Value.bool true, u80, u81, Value.slice (some { block := g, off := 0 }) n uc, Value.int IntKind.i64 (k : Int), Value.pointer (some { block := g, off := k * 3 }), Value.agg #[Value.int IntKind.u32 ↑p1, Value.int IntKind.i64 ↑p2, Value.int IntKind.i64 ↑p3], Value.agg #[Value.int IntKind.u32 (sg : Int), Value.int IntKind.i64 qa, Value.int IntKind.i64 qn], Value.bool true, Value.int IntKind.i64 0, .bool true, .bool true, .agg #[.int .u64 (rl : Int), .int .i64 rk, .string rky, .string rvl], Value.slice (some { block := lb, off := off }) ls.length c, Value.int IntKind.i64 (k : Int), .pointer (some ⟨lb, off + k * 4, none⟩), .agg #[.string l.key, .string l.val, .bool l.gone, .bool l.syn], Value.int IntKind.i64 (k : Int), .agg (rv (lnR l k)), .bool true, .bool true, undef, undef, undef, undef, undef, undef, undef, undef, undef, undef, undef, undef, undef, undef, undef, undef, undef, undef, undef, undef, undef, undef] := by
                  refine arr_one (hsz.trans rfl) fun kk hkk => ?_
                  match kk, hkk with
                  | 0, _ => exact hout 0 (notDst_spec (by kernel_rfl))
                  | 1, _ => exact hout 1 (notDst_spec (by kernel_rfl))
                  | 2, _ => exact hout 2 (notDst_spec (by kernel_rfl))
                  | 3, _ => exact hout 3 (notDst_spec (by kernel_rfl))
                  | 4, _ => exact hout 4 (notDst_spec (by kernel_rfl))
                  | 5, _ => exact hout 5 (notDst_spec (by kernel_rfl))
                  | 6, _ => exact hout 6 (notDst_spec (by kernel_rfl))
                  | 7, _ => exact hout 7 (notDst_spec (by kernel_rfl))
                  | 8, _ => exact hout 8 (notDst_spec (by kernel_rfl))
                  | 9, _ => exact hout 9 (notDst_spec (by kernel_rfl))
                  | 10, _ => exact hall 12 (by decide)
                  | 11, _ => exact hout 11 (notDst_spec (by kernel_rfl))
                  | 12, _ => exact hout 12 (notDst_spec (by kernel_rfl))
                  | 13, _ => exact hout 13 (notDst_spec (by kernel_rfl))
                  | 14, _ => exact hout 14 (notDst_spec (by kernel_rfl))
                  | 15, _ => exact hout 15 (notDst_spec (by kernel_rfl))
                  | 16, _ => exact hout 16 (notDst_spec (by kernel_rfl))
                  | 17, _ => exact hout 17 (notDst_spec (by kernel_rfl))
                  | 18, _ => exact hout 18 (notDst_spec (by kernel_rfl))
                  | 19, _ => exact hout 19 (notDst_spec (by kernel_rfl))
                  | 20, _ => exact hout 20 (notDst_spec (by kernel_rfl))
                  | 21, _ => exact hout 21 (notDst_spec (by kernel_rfl))
                  | 22, _ => exact hout 22 (notDst_spec (by kernel_rfl))
                  | 23, _ => exact hout 23 (notDst_spec (by kernel_rfl))
                  | 24, _ => exact hout 24 (notDst_spec (by kernel_rfl))
                  | 25, _ => exact hout 25 (notDst_spec (by kernel_rfl))
                  | 26, _ => exact hout 26 (notDst_spec (by kernel_rfl))
                  | 27, _ => exact hout 27 (notDst_spec (by kernel_rfl))
                  | 28, _ => exact hout 28 (notDst_spec (by kernel_rfl))
                  | 29, _ => exact hout 29 (notDst_spec (by kernel_rfl))
                  | 30, _ => exact hout 30 (notDst_spec (by kernel_rfl))
                  | 31, _ => exact hout 31 (notDst_spec (by kernel_rfl))
                  | 32, _ => exact hout 32 (notDst_spec (by kernel_rfl))
                  | 33, _ => exact hout 33 (notDst_spec (by kernel_rfl))
                  | 34, _ => exact hout 34 (notDst_spec (by kernel_rfl))
                  | 35, _ => exact hout 35 (notDst_spec (by kernel_rfl))
                  | 36, _ => exact hout 36 (notDst_spec (by kernel_rfl))
                  | 37, _ => exact hout 37 (notDst_spec (by kernel_rfl))
                  | 38, _ => exact hout 38 (notDst_spec (by kernel_rfl))
                  | 39, _ => exact hout 39 (notDst_spec (by kernel_rfl))
                  | 40, _ => exact hout 40 (notDst_spec (by kernel_rfl))
                  | 41, _ => exact hout 41 (notDst_spec (by kernel_rfl))
                  | 42, _ => exact hout 42 (notDst_spec (by kernel_rfl))
                  | 43, _ => exact hout 43 (notDst_spec (by kernel_rfl))
                  | 44, _ => exact hout 44 (notDst_spec (by kernel_rfl))
                  | 45, _ => exact hout 45 (notDst_spec (by kernel_rfl))
                  | 46, _ => exact hout 46 (notDst_spec (by kernel_rfl))
                  | 47, _ => exact hout 47 (notDst_spec (by kernel_rfl))
                  | 48, _ => exact hout 48 (notDst_spec (by kernel_rfl))
                  | 49, _ => exact hout 49 (notDst_spec (by kernel_rfl))
                  | 50, _ => exact hout 50 (notDst_spec (by kernel_rfl))
                  | 51, _ => exact hout 51 (notDst_spec (by kernel_rfl))
                  | 52, _ => exact hout 52 (notDst_spec (by kernel_rfl))
                  | 53, _ => exact hout 53 (notDst_spec (by kernel_rfl))
                  | 54, _ => exact hout 54 (notDst_spec (by kernel_rfl))
                  | 55, _ => exact hout 55 (notDst_spec (by kernel_rfl))
                  | 56, _ => exact hout 56 (notDst_spec (by kernel_rfl))
                  | 57, _ => exact hout 57 (notDst_spec (by kernel_rfl))
                  | 58, _ => exact hout 58 (notDst_spec (by kernel_rfl))
                  | 59, _ => exact hout 59 (notDst_spec (by kernel_rfl))
                  | 60, _ => exact hout 60 (notDst_spec (by kernel_rfl))
                  | 61, _ => exact hout 61 (notDst_spec (by kernel_rfl))
                  | 62, _ => exact hout 62 (notDst_spec (by kernel_rfl))
                  | 63, _ => exact hout 63 (notDst_spec (by kernel_rfl))
                  | 64, _ => exact hout 64 (notDst_spec (by kernel_rfl))
                  | 65, _ => exact hout 65 (notDst_spec (by kernel_rfl))
                  | 66, _ => exact hout 66 (notDst_spec (by kernel_rfl))
                  | 67, _ => exact hout 67 (notDst_spec (by kernel_rfl))
                  | 68, _ => exact hout 68 (notDst_spec (by kernel_rfl))
                  | 69, _ => exact hout 69 (notDst_spec (by kernel_rfl))
                  | 70, _ => exact hout 70 (notDst_spec (by kernel_rfl))
                  | 71, _ => exact hout 71 (notDst_spec (by kernel_rfl))
                  | 72, _ => exact hout 72 (notDst_spec (by kernel_rfl))
                  | 73, _ => exact hout 73 (notDst_spec (by kernel_rfl))
                  | 74, _ => exact hout 74 (notDst_spec (by kernel_rfl))
                  | 75, _ => exact hout 75 (notDst_spec (by kernel_rfl))
                  | 76, _ => exact hout 76 (notDst_spec (by kernel_rfl))
                  | 77, _ => exact hout 77 (notDst_spec (by kernel_rfl))
                  | 78, _ => exact hout 78 (notDst_spec (by kernel_rfl))
                  | 79, _ => exact hout 79 (notDst_spec (by kernel_rfl))
                  | 80, _ => exact hout 80 (notDst_spec (by kernel_rfl))
                  | 81, _ => exact hout 81 (notDst_spec (by kernel_rfl))
                  | 82, _ => exact hout 82 (notDst_spec (by kernel_rfl))
                  | 83, _ => exact hout 83 (notDst_spec (by kernel_rfl))
                  | 84, _ => exact hout 84 (notDst_spec (by kernel_rfl))
                  | 85, _ => exact hout 85 (notDst_spec (by kernel_rfl))
                  | 86, _ => exact hout 86 (notDst_spec (by kernel_rfl))
                  | 87, _ => exact hout 87 (notDst_spec (by kernel_rfl))
                  | 88, _ => exact hall 0 (by decide)
                  | 89, _ => exact hall 1 (by decide)
                  | 90, _ => exact hall 2 (by decide)
                  | 91, _ => exact hall 3 (by decide)
                  | 92, _ => exact hall 4 (by decide)
                  | 93, _ => exact hall 5 (by decide)
                  | 94, _ => exact hall 6 (by decide)
                  | 95, _ => exact hall 7 (by decide)
                  | 96, _ => exact hall 8 (by decide)
                  | 97, _ => exact hall 9 (by decide)
                  | 98, _ => exact hall 10 (by decide)
                  | 99, _ => exact hall 11 (by decide)
                  | 100, _ => exact hout 100 (notDst_spec (by kernel_rfl))
                  | 101, _ => exact hout 101 (notDst_spec (by kernel_rfl))
                  | 102, _ => exact hout 102 (notDst_spec (by kernel_rfl))
                  | 103, _ => exact hout 103 (notDst_spec (by kernel_rfl))
                  | 104, _ => exact hout 104 (notDst_spec (by kernel_rfl))
                  | 105, _ => exact hout 105 (notDst_spec (by kernel_rfl))
                  | 106, _ => exact hout 106 (notDst_spec (by kernel_rfl))
                  | 107, _ => exact hout 107 (notDst_spec (by kernel_rfl))
                  | 108, _ => exact hout 108 (notDst_spec (by kernel_rfl))
                  | 109, _ => exact hout 109 (notDst_spec (by kernel_rfl))
                  | 110, _ => exact hout 110 (notDst_spec (by kernel_rfl))
                  | 111, _ => exact hout 111 (notDst_spec (by kernel_rfl))
                  | 112, _ => exact hout 112 (notDst_spec (by kernel_rfl))
                  | 113, _ => exact hout 113 (notDst_spec (by kernel_rfl))
                  | 114, _ => exact hout 114 (notDst_spec (by kernel_rfl))
                  | 115, _ => exact hout 115 (notDst_spec (by kernel_rfl))
                  | 116, _ => exact hout 116 (notDst_spec (by kernel_rfl))
                  | 117, _ => exact hout 117 (notDst_spec (by kernel_rfl))
                  | 118, _ => exact hout 118 (notDst_spec (by kernel_rfl))
                  | 119, _ => exact hout 119 (notDst_spec (by kernel_rfl))
                  | 120, _ => exact hout 120 (notDst_spec (by kernel_rfl))
                  | 121, _ => exact hout 121 (notDst_spec (by kernel_rfl))
                  | n + 122, h => exact absurd h (by simp)
                obtain ⟨tt, dd⟩ := aa
                simp only at hat hdf
                subst hat hdf
                clear hsz hout hall
                have HFB := hd (HBF.out w9 hW)
                clear hW
                go_simp
                go_wp2_with fail
                go_ret
                exact ⟨rfl, HFB.out⟩
        · obtain rfl : k = n := by omega
          obtain ⟨hrc, her⟩ := HNM.out HNO.out
          have HRQ : Hid (∀ w, (binOp .eql 38 (.agg #[.int .u64 0, .int .i64 0, .string ⟨#[]⟩, .string ⟨#[]⟩]) (.agg #[.int .u64 0, .int .i64 0, .string ⟨#[]⟩, .string ⟨#[]⟩])).run Tryz.prog w = .ok (.bool true) w) := by
            obtain ⟨b9, h9, h10⟩ := rec_eql zr zr
            rw [h10 rfl] at h9
            exact h9
          have s0 : wr.cell? ⟨w7.heap.size, 0, none⟩ = some (.int .u64 0) := by rw [r0, show rl = 0 from congrArg Rec.lsn hrc]; rfl
          have s1 : wr.cell? ⟨w7.heap.size, 1, none⟩ = some (.int .i64 0) := by rw [r1, show rk = 0 from congrArg Rec.kind hrc]
          have s2 : wr.cell? ⟨w7.heap.size, 2, none⟩ = some (.string ⟨#[]⟩) := by rw [r2, show rky = ByteArray.empty from congrArg Rec.key hrc]; rfl
          have s3 : wr.cell? ⟨w7.heap.size, 3, none⟩ = some (.string ⟨#[]⟩) := by rw [r3, show rvl = ByteArray.empty from congrArg Rec.val hrc]; rfl
          clear r0 r1 r2 r3 hrc hno hqr hrr hTr hB
          by_cases hb1 : qa < 0
          · rw [if_pos (.inl hb1)] at her
            subst her
            have hrq := HRQ.out
            go_wp2_with fail
            go_ret
            exact ⟨rfl, HBW'.out⟩
          · by_cases hb2 : qn < 1
            · rw [if_pos (.inr hb2)] at her
              subst her
              have hrq := HRQ.out
              go_wp2_with fail
              go_ret
              exact ⟨rfl, HBW'.out⟩
            · rw [if_neg (fun q => q.elim hb1 hb2)] at her
              subst her
              have hrq := HRQ.out
              go_wp2_with fail
              go_ret
              exact ⟨rfl, HBW'.out⟩
    --END q
end Sg
end Go.Proofs.YtnakaomgceoobaaGreat
