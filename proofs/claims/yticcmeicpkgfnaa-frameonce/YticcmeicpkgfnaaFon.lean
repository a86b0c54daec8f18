/-
  PROVED: for every text b and every place the Go law FrameOnce answers true and changes nothing that came in: what is read as a frame is written again just so. No condition.
-/
import Derived.Test.YticcmeicpkgfnaaN1
import Derived.Test.YticcmeicpkgfnaaG3
import Derived.Test.YticcmeicpkgfnaaSa
namespace Go.Proofs.Yticcmeicpkgfnaa
open Go.ChangeShapes Go.WideShapes Go.ChangeAt Go.RowKit
namespace Fon
open Vt
theorem heq0 : ∀ w, (binOp .eql 34 (.agg #[.int .i64 0, .int .u64 0, .int .i64 0, .string ⟨#[]⟩, .string ⟨#[]⟩, .int .u64 0, .int .i64 0, .int .i64 0, .int .i64 0, .string ⟨#[]⟩, .int .i64 0, .int .i64 0, .int .i64 0, .int .u32 0]) (.agg #[.int .i64 0, .int .u64 0, .int .i64 0, .string ⟨#[]⟩, .string ⟨#[]⟩, .int .u64 0, .int .i64 0, .int .i64 0, .int .i64 0, .string ⟨#[]⟩, .int .i64 0, .int .i64 0, .int .i64 0, .int .u32 0])).run Try.prog w = .ok (.bool true) w := eql_yes (f := zf) (g := zf) rfl
set_option maxRecDepth 100000 in
set_option maxHeartbeats 1000000 in
theorem walk_no (v : Value) (l : List Nat) (x : Int) (w : World) (hI : Vt.IsB w v l) (he : (decF l x).2.2 ≠ 0) :
    Calls Try.prog 7 #[v, .int .i64 x] w fun e w' => e = .returned (.bool true) ∧ Below w.heap.size w w' := by
  have HD1 := hd (fun w h => decode_all v l x w h)
  have HI := hd hI
  obtain ⟨h1, h2⟩ := decF_err he
  obtain ⟨f, n, er, hq⟩ : ∃ f n e, decF l x = (f, n, e) := ⟨_, _, _, rfl⟩
  rw [hq] at HD1 h1 h2 he
  simp only at h1 h2 he
  subst h1 h2
  rw [dval_zf] at HD1
  obtain ⟨va, vc, rfl⟩ := hI.shape
  clear hI hq
  have q1 : (((er : Nat) : Int) != 0) = true := by simp; omega
  have heq := heq0
  go_enter Try.func7, Try.ntmps7
  go_wp2_with fail
  refine Calls.mono (known_is w) ?_
  rintro e w1 ⟨rfl, hb⟩
  have HB1 := hd hb
  have HI1 := hd (HI.out.below hb)
  clear hb HI
  go_wp2_with fail
  refine Calls.mono (HD1.out w1 HI1.out) ?_
  rintro e w2 ⟨rfl, hb⟩
  have HB2 : Hid (Below w.heap.size w w2) := HB1.out.trans (hb.mono HB1.out.size)
  clear hb HI1 HD1 HB1
  go_wp2_with fail
  go_ret
  exact ⟨rfl, HB2.out.alloc HB2.out.size _⟩
set_option maxRecDepth 100000 in
set_option maxHeartbeats 1000000 in
theorem walk_yes (b off c a n : Nat) (l : List Nat) (f : Fr) (w : World) (hI : Vt.IsB w (.slice (some ⟨b, off, none⟩) l.length c) l) (hd1 : decF l (a : Int) = (f, n, 0)) :
    Calls Try.prog 7 #[.slice (some ⟨b, off, none⟩) l.length c, .int .i64 (a : Int)] w fun e w' => e = .returned (.bool true) ∧ Below w.heap.size w w' := by
  obtain ⟨a', ha', ha, e1, e2, e3, e4, e5⟩ := decF_ok (z := (a : Int)) hI.1 (by rw [hd1])
  rw [hd1] at e1 e2 e3 e4 e5
  simp only at e1 e2 e3 e4 e5
  obtain rfl : a' = a := by omega
  have hcap := hI.cap
  have hcm : c ≤ maxLen := by
    obtain ⟨_, _, ⟨rfl, _⟩ | ⟨b', off', c', e, _, q, _⟩⟩ := hI
    · simp at ha
    · injection e with e1 e2 e3
      omega
  unfold maxLen at hcm
  have hn10 : 10 ≤ n := by
    have h1 := (bd_len e2 e1).2
    have h2 := (wr_len (bd f)).1
    rw [e3, en_len]; omega
  have HD1 := hd (fun w h => decode_all (.slice (some ⟨b, off, none⟩) l.length c) l (a' : Int) w h)
  rw [hd1] at HD1
  have HEN := hd (encF_all e2 e1)
  have HIT := hd (fun (w' : World) (h : Below w.heap.size w w') => ((hI.below h).drop a' (by omega) (off + a') (l.length - a') (c - a') (fun _ => rfl) rfl rfl).take n (by rw [List.length_drop]; omega))
  rw [e5] at HIT
  have HI := hd hI
  have E3 := hd e3
  rw [← e3] at *
  clear hI hd1 e1 e2 e3 e5 ha'
  generalize en f = EN at *
  obtain ⟨k, ⟨rl, rk, rkey, rval⟩, ⟨pl, pk, pa, pn, pkey⟩, ⟨ec, eb, ef, es⟩⟩ := f
  simp only [dval, fv] at HD1 HEN
  go_enter Try.func7, Try.ntmps7
  go_wp2_with fail
  refine Calls.mono (known_is w) ?_
  rintro e w1 ⟨rfl, hb⟩
  have HB1 := hd hb
  have HI1 := hd (HI.out.below hb)
  clear hb HI
  go_wp2_with fail
  refine Calls.mono (HD1.out w1 HI1.out) ?_
  rintro e w2 ⟨rfl, hb⟩
  have HB2 : Hid (Below w.heap.size w w2) := HB1.out.trans (hb.mono HB1.out.size)
  clear hb HI1 HD1 HB1
  go_wp2_with fail
  refine Calls.mono (HEN.out _) ?_
  rintro e w3 ⟨u, rfl, hj, hb⟩
  have HB3 : Hid (Below w.heap.size w w3) := HB2.out.trans ((below_alloc1 hb).mono HB2.out.size)
  have HJ3 := hd hj.isB
  have HT3 := hd (HIT.out w3 HB3.out)
  clear hj hb HIT HEN HB2
  go_wp2_with fail
  refine Calls.mono (fsame_is _ _ _ _ _ HJ3.out HT3.out) ?_
  rw [decide_eq_true rfl]
  rintro e w4 ⟨rfl, m, hw4⟩
  have HB4 : Hid (Below w.heap.size w w4) := by rw [hw4]; exact below_drewN HB3.out m
  clear hw4
  go_wp2_with fail
  go_ret
  exact ⟨rfl, HB4.out⟩
theorem walk (a0 : Option Addr) (len0 cap0 : Nat) (z0 : List Int) (a1 : Int) (w : World) (w0 : IsRow .u8 w a0 len0 cap0 z0) (_ : (Lit.int .i64 a1).wf = true) :
    Calls Try.prog 7 #[.slice a0 len0 cap0, .int .i64 a1] w fun e w' => e = .returned (.bool true) ∧ Below w.heap.size w w' := by
  obtain ⟨l, hl, hI⟩ := w0.isB
  by_cases he : (decF l a1).2.2 = 0
  · obtain ⟨a, rfl, ha, _⟩ := decF_ok hI.1 he
    obtain ⟨f, n, er, hq⟩ : ∃ f n e, decF l (a : Int) = (f, n, e) := ⟨_, _, _, rfl⟩
    rw [hq] at he
    simp only at he
    subst he
    subst hl
    obtain ⟨_, _, ⟨rfl, _⟩ | ⟨b, off, c, e, _⟩⟩ := id hI
    · simp at ha
    · injection e with i1 i2 i3
      subst i1 i3
      exact walk_yes b off cap0 a n l f w hI hq
  · exact walk_no _ l a1 w hI he
set_option linter.unusedVariables false
set_option maxRecDepth 100000 in
theorem lifted (os : Os) (started : os.Started) (H : Type) (enc : TypeId × Value → H) :
    ReturnsInHanded {} Try.checked os 7 .any (Rows.frameOnceSpec.pre6 enc Try.prog Try.f7 Rows.frameOnceRow.domain false) (Rows.frameOnceSpec.post enc Try.prog Try.f7 false true false false) := by
  refine returnsInHanded_of_change (C := Try.checked) own started (by kernel_rfl) Try.func7
    (ChangeSpec.witness6 (enc := enc) (C := Try.checked) false ⟨#[], #[.slice none 0 0, .int .i64 0], []⟩ 8 (by kernel_rfl) (by kernel_rfl) (by kernel_rfl) (by kernel_rfl)) ?_
  intro W base args ds gs before hval0 hW hcnd _
  have hval : ∀ (j : Nat) t v, Try.f7.params[j]? = some t → args[j]? = some v → Value.okWide Try.prog W .any base t v := hval0
  have hW' := hW
  obtain ⟨p, q, hA0, hV, rfl, hfz, hnd⟩ := hW
  have hA : DataW.TrodAll enc Try.prog W 0 (fun _ => true) true Try.f7.params.toList args.toList ds p := hA0
  rw [Try.params7] at hA hval
  obtain ⟨v0, vs0, d0, ds0, p0, q0, hargs, rfl, rfl, h0, r0⟩ := trodAll_cons hA
  obtain ⟨v1, vs1, d1, ds1, p1, q1, rfl, rfl, rfl, h1, r1⟩ := trodAll_cons r0
  obtain ⟨rfl, rfl, rfl⟩ := trodAll_nil r1
  obtain rfl : args = #[v0, v1] := by cases args; simp_all
  obtain ⟨rfl, rfl⟩ := trodVars_none hV
  obtain ⟨a0, len0, cap0, rfl⟩ := okWide_slice Try.underlying35 (hval 0 35 v0 rfl rfl)
  have k0 := h0
  have lt0 : ∀ x ∈ p0, x.block < W.heap.size := by obtain ⟨m, hm⟩ := k0; exact DataW.trod_lt m _ _ _ hm
  obtain ⟨z0, w0⟩ : ∃ zs, IsRow .u8 W a0 len0 cap0 zs := by
    obtain ⟨fuel, hf⟩ := h0
    rcases open_ints Try.underlying35 Try.underlying5 (by kernel_rfl) hf with ⟨hcs, _⟩ | ⟨x, l, c, zs, hcs, _, hl, hm, hz, _, hcell, hwz⟩
    · simp [Value.cells] at hcs
      obtain ⟨rfl, rfl, rfl⟩ := hcs
      exact ⟨[], .inl ⟨rfl, rfl, rfl, rfl⟩⟩
    · simp [Value.cells] at hcs
      obtain ⟨rfl, rfl, rfl⟩ := hcs
      exact ⟨zs, .inr ⟨_, rfl, hl, hm, by simpa using hz, hcell, hwz⟩⟩
  obtain ⟨a1, rfl, rfl, rfl, w1⟩ := open_int Try.underlying3 (hval 1 3 v1 rfl rfl) h1
  clear hA0 hval0
  refine (walk a0 len0 cap0 z0 a1 W w0 w1).mono fun e W' ⟨he, bel⟩ => ?_
  subst he
  exact ⟨_, rfl, _, _, _, [], _, [], hW', trodAll_mk1 (shut_bool Try.underlying4 _), (trodAll_cons_mk (Below.trod laidOut (by kernel_rfl) (of_decide_eq_true (by kernel_rfl)) k0 bel lt0) (trodAll_cons_mk (shut_int Try.underlying3 w1) trodAll_mk0)), rfl, bel.frame _, fun h => by cases h⟩

theorem over : Rows.frameOnceRow.holds Try.pinned (OpenSpec.ofChange Rows.frameOnceSpec) :=
  OpenClaim.holds_of_wide 7 Try.f7 rfl rfl rfl rfl rfl rfl rfl ⟨rfl, rfl, rfl, rfl, rfl⟩ rfl rfl rfl rfl rfl (by kernel_rfl) Try.func7 (by kernel_rfl)
    (of_decide_eq_true (by kernel_rfl)) (by unfold Func.isWrapper; first | (rw [if_pos (by decide +kernel)]; kernel_rfl) | (rw [if_neg (by decide +kernel)]; exact ⟨rfl, rfl⟩))
    (fun os started H enc _ => lifted os started H enc)

end Fon

theorem frameOnce_holds : Rows.FrameOnceSaid := Fon.over
#print axioms frameOnce_holds
end Go.Proofs.Yticcmeicpkgfnaa
