/-
  PROVED: for every frame and every number the Go law FrameCut answers true and changes nothing that came in: a frame that is cut short is none. No condition.
-/
import Derived.Test.YticcmeicpkgfnaaA1
namespace Go.Proofs.Yticcmeicpkgfnaa
open Go.ChangeShapes Go.WideShapes Go.ChangeAt Go.RowKit
namespace Fcu
open Vt
theorem heq0 : ∀ w, (binOp .eql 34 (.agg #[.int .i64 0, .int .u64 0, .int .i64 0, .string ⟨#[]⟩, .string ⟨#[]⟩, .int .u64 0, .int .i64 0, .int .i64 0, .int .i64 0, .string ⟨#[]⟩, .int .i64 0, .int .i64 0, .int .i64 0, .int .u32 0]) (.agg #[.int .i64 0, .int .u64 0, .int .i64 0, .string ⟨#[]⟩, .string ⟨#[]⟩, .int .u64 0, .int .i64 0, .int .i64 0, .int .i64 0, .string ⟨#[]⟩, .int .i64 0, .int .i64 0, .int .i64 0, .int .u32 0])).run Try.prog w = .ok (.bool true) w := eql_yes (f := zf) (g := zf) rfl
set_option maxRecDepth 100000 in
set_option maxHeartbeats 1000000 in
theorem walk_no (f : Fr) (x : Int) (w : World) (h : rf f ≠ 0) :
    Calls Try.prog 5 #[.agg (fv f), .int .i64 x] w fun e w' => e = .returned (.bool true) ∧ Below w.heap.size w w' := by
  have HEN := hd (fun w => encF_no f w h)
  have q1 : (((rf f : Nat) : Int) != 0) = true := by simp; omega
  generalize rf f = code at *
  obtain ⟨k, ⟨rl, rk, rkey, rval⟩, ⟨pl, pk, pa, pn, pkey⟩, ⟨ec, eb, ef, es⟩⟩ := f
  simp only [fv] at *
  clear h
  have HX : Hid (Blk (w.alloc (.cells #[.int .i64 k, .int .u64 (rl : Int), .int .i64 rk, .string rkey, .string rval, .int .u64 (pl : Int), .int .i64 pk, .int .i64 pa, .int .i64 pn, .string pkey, .int .i64 ec, .int .i64 eb, .int .i64 ef, .int .u32 (es : Int)] 34)) w.heap.size 34 [.int .i64 k, .int .u64 (rl : Int), .int .i64 rk, .string rkey, .string rval, .int .u64 (pl : Int), .int .i64 pk, .int .i64 pa, .int .i64 pn, .string pkey, .int .i64 ec, .int .i64 eb, .int .i64 ef, .int .u32 (es : Int)]) := Blk.new w _ _
  go_enter Try.func5, Try.ntmps5
  go_wp2_with fail
  refine Calls.mono (known_is _) ?_
  rintro e w1 ⟨rfl, hb⟩
  have HB1 := hd (below_alloc1 hb)
  have HX1 := hd (HX.out.keep hb)
  clear hb HX
  have c0 := HX1.out.cell 0 _ rfl
  have c1 := HX1.out.cell 1 _ rfl
  have c2 := HX1.out.cell 2 _ rfl
  have c3 := HX1.out.cell 3 _ rfl
  have c4 := HX1.out.cell 4 _ rfl
  have c5 := HX1.out.cell 5 _ rfl
  have c6 := HX1.out.cell 6 _ rfl
  have c7 := HX1.out.cell 7 _ rfl
  have c8 := HX1.out.cell 8 _ rfl
  have c9 := HX1.out.cell 9 _ rfl
  have c10 := HX1.out.cell 10 _ rfl
  have c11 := HX1.out.cell 11 _ rfl
  have c12 := HX1.out.cell 12 _ rfl
  have c13 := HX1.out.cell 13 _ rfl
  go_wp2_with fail
  refine Calls.mono (HEN.out w1) ?_
  rintro e w2 ⟨rfl, hb⟩
  have HB2 : Hid (Below w.heap.size w w2) := HB1.out.trans (hb.mono HB1.out.size)
  clear hb HEN HB1
  go_wp2_with fail
  go_ret
  exact ⟨rfl, HB2.out⟩
set_option maxRecDepth 100000 in
set_option maxHeartbeats 1000000 in
theorem walk_yes (f : Fr) (x : Int) (w : World) (hw : f.Wf) (h : rf f = 0) :
    Calls Try.prog 5 #[.agg (fv f), .int .i64 x] w fun e w' => e = .returned (.bool true) ∧ Below w.heap.size w w' := by
  have HEN := hd (encF_all hw h)
  have HCUT := hd (fun j h1 h2 => dcd_cut hw h (j := j) h1 h2)
  have hlen : 9 ≤ (en f).length ∧ (en f).length ≤ 5000 := by
    have h1 := (bd_len hw h).1
    have h2 := (wr_len (bd f)).2
    rw [en_len]; omega
  clear hw h
  obtain ⟨M, hM⟩ : ∃ M, (en f).length = M + 1 := ⟨(en f).length - 1, by omega⟩
  rw [hM] at hlen
  have HMM := hd hM
  obtain ⟨t, ht, hr⟩ : ∃ t : Nat, t < M ∧ (x.tmod (M : Int) = (t : Int) ∨ x.tmod (M : Int) = -(t : Int) ∧ 0 < t) := by
    have h1 : (x.tmod (M : Int)).natAbs = x.natAbs % M := by rw [Int.natAbs_tmod]; simp
    refine ⟨x.natAbs % M, Nat.mod_lt _ (by omega), ?_⟩
    omega
  clear hM
  generalize en f = EN at *
  obtain ⟨k, ⟨rl, rk, rkey, rval⟩, ⟨pl, pk, pa, pn, pkey⟩, ⟨ec, eb, ef, es⟩⟩ := f
  simp only [fv] at *
  have HDT := hd (HCUT.out (t + 1) (by omega) (by rw [HMM.out]; omega))
  clear HCUT
  have HX : Hid (Blk (w.alloc (.cells #[.int .i64 k, .int .u64 (rl : Int), .int .i64 rk, .string rkey, .string rval, .int .u64 (pl : Int), .int .i64 pk, .int .i64 pa, .int .i64 pn, .string pkey, .int .i64 ec, .int .i64 eb, .int .i64 ef, .int .u32 (es : Int)] 34)) w.heap.size 34 [.int .i64 k, .int .u64 (rl : Int), .int .i64 rk, .string rkey, .string rval, .int .u64 (pl : Int), .int .i64 pk, .int .i64 pa, .int .i64 pn, .string pkey, .int .i64 ec, .int .i64 eb, .int .i64 ef, .int .u32 (es : Int)]) := Blk.new w _ _
  have heq := heq0
  go_enter Try.func5, Try.ntmps5
  go_wp2_with fail
  refine Calls.mono (known_is _) ?_
  rintro e w1 ⟨rfl, hb⟩
  have HB1 := hd (below_alloc1 hb)
  have HX1 := hd (HX.out.keep hb)
  clear hb HX
  have c0 := HX1.out.cell 0 _ rfl
  have c1 := HX1.out.cell 1 _ rfl
  have c2 := HX1.out.cell 2 _ rfl
  have c3 := HX1.out.cell 3 _ rfl
  have c4 := HX1.out.cell 4 _ rfl
  have c5 := HX1.out.cell 5 _ rfl
  have c6 := HX1.out.cell 6 _ rfl
  have c7 := HX1.out.cell 7 _ rfl
  have c8 := HX1.out.cell 8 _ rfl
  have c9 := HX1.out.cell 9 _ rfl
  have c10 := HX1.out.cell 10 _ rfl
  have c11 := HX1.out.cell 11 _ rfl
  have c12 := HX1.out.cell 12 _ rfl
  have c13 := HX1.out.cell 13 _ rfl
  go_wp2_with fail
  refine Calls.mono (HEN.out w1) ?_
  rintro e w2 ⟨u, rfl, hj, hb⟩
  have HB2 : Hid (Below w.heap.size w w2) := HB1.out.trans (hb.mono HB1.out.size)
  have HI2 := hd hj.isB
  obtain ⟨ua, uc, rfl, hcap⟩ := hj.shape
  rw [HMM.out] at HI2 hcap ⊢
  have HT2 := hd (HI2.out.take (t + 1) (by rw [HMM.out]; omega))
  have HDD := hd (decode_all _ _ 0 w2 HT2.out)
  rw [HDT.out, dval_zf] at HDD
  clear hb hj HEN HB1 HI2 HT2 HDT HX1 c0 c1 c2 c3 c4 c5 c6 c7 c8 c9 c10 c11 c12 c13
  rcases hr with hr | ⟨hr, ht0⟩
  all_goals (
    go_wp2_with fail
    refine Calls.mono HDD.out ?_
    rintro e w3 ⟨rfl, hb⟩
    have HB3 : Hid (Below w.heap.size w w3) := HB2.out.trans (hb.mono HB2.out.size)
    clear hb
    go_wp2_with fail
    go_ret
    exact ⟨rfl, HB3.out.alloc HB3.out.size _⟩)
theorem walk (f : Fr) (a1 : Int) (w : World) (hw : f.Wf) (_ : (Lit.int .i64 a1).wf = true) :
    Calls Try.prog 5 #[.agg (fv f), .int .i64 a1] w fun e w' => e = .returned (.bool true) ∧ Below w.heap.size w w' := by
  by_cases h : rf f = 0
  · exact walk_yes f a1 w hw h
  · exact walk_no f a1 w h
set_option linter.unusedVariables false
set_option maxRecDepth 100000 in
theorem lifted (os : Os) (started : os.Started) (H : Type) (enc : TypeId × Value → H) :
    ReturnsInHanded {} Try.checked os 5 .any (Rows.frameCutSpec.pre6 enc Try.prog Try.f5 Rows.frameCutRow.domain false) (Rows.frameCutSpec.post enc Try.prog Try.f5 false true false false) := by
  refine returnsInHanded_of_change (C := Try.checked) own started (by kernel_rfl) Try.func5
    (ChangeSpec.witness6 (enc := enc) (C := Try.checked) false ⟨#[], #[.agg #[.int .i64 0, .int .u64 0, .int .i64 0, .string ⟨#[]⟩, .string ⟨#[]⟩, .int .u64 0, .int .i64 0, .int .i64 0, .int .i64 0, .string ⟨#[]⟩, .int .i64 0, .int .i64 0, .int .i64 0, .int .u32 0], .int .i64 0], []⟩ 8 (by kernel_rfl) (by kernel_rfl) (by kernel_rfl) (by kernel_rfl)) ?_
  intro W base args ds gs before hval0 hW hcnd _
  have hval : ∀ (j : Nat) t v, Try.f5.params[j]? = some t → args[j]? = some v → Value.okWide Try.prog W .any base t v := hval0
  have hW' := hW
  obtain ⟨p, q, hA0, hV, rfl, hfz, hnd⟩ := hW
  have hA : DataW.TrodAll enc Try.prog W 0 (fun _ => true) true Try.f5.params.toList args.toList ds p := hA0
  rw [Try.params5] at hA hval
  obtain ⟨v0, vs0, d0, ds0, p0, q0, hargs, rfl, rfl, h0, r0⟩ := trodAll_cons hA
  obtain ⟨v1, vs1, d1, ds1, p1, q1, rfl, rfl, rfl, h1, r1⟩ := trodAll_cons r0
  obtain ⟨rfl, rfl, rfl⟩ := trodAll_nil r1
  obtain rfl : args = #[v0, v1] := by cases args; simp_all
  obtain ⟨rfl, rfl⟩ := trodVars_none hV
  obtain ⟨f0, rfl, w0⟩ := frame_arg (hval 0 34 v0 rfl rfl)
  have lt0 : ∀ x ∈ p0, x.block < W.heap.size := by obtain ⟨m, hm⟩ := h0; exact DataW.trod_lt m _ _ _ hm
  obtain ⟨a1, rfl, rfl, rfl, w1⟩ := open_int Try.underlying3 (hval 1 3 v1 rfl rfl) h1
  clear hA0 hval0
  refine (walk f0 a1 W w0 w1).mono fun e W' ⟨he, bel⟩ => ?_
  subst he
  exact ⟨_, rfl, _, _, _, [], _, [], hW', trodAll_mk1 (shut_bool Try.underlying4 _), (trodAll_cons_mk (Below.trod laidOut (by kernel_rfl) (of_decide_eq_true (by kernel_rfl)) h0 bel lt0) (trodAll_cons_mk (shut_int Try.underlying3 w1) trodAll_mk0)), rfl, bel.frame _, fun h => by cases h⟩

theorem over : Rows.frameCutRow.holds Try.pinned (OpenSpec.ofChange Rows.frameCutSpec) :=
  OpenClaim.holds_of_wide 5 Try.f5 rfl rfl rfl rfl rfl rfl rfl ⟨rfl, rfl, rfl, rfl, rfl⟩ rfl rfl rfl rfl rfl (by kernel_rfl) Try.func5 (by kernel_rfl)
    (of_decide_eq_true (by kernel_rfl)) (by unfold Func.isWrapper; first | (rw [if_pos (by decide +kernel)]; kernel_rfl) | (rw [if_neg (by decide +kernel)]; exact ⟨rfl, rfl⟩))
    (fun os started H enc _ => lifted os started H enc)
end Fcu

theorem frameCut_holds : Rows.FrameCutSaid := Fcu.over
#print axioms frameCut_holds
end Go.Proofs.Yticcmeicpkgfnaa
