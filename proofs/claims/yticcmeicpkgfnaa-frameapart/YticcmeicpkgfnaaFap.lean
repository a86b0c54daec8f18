/-
  PROVED: for every text b and all places the Go law FrameApart answers true and changes nothing that came in: no two frames have a byte in common. No condition.
-/
import Derived.Test.YticcmeicpkgfnaaN1
namespace Go.Proofs.Yticcmeicpkgfnaa
open Go.ChangeShapes Go.WideShapes Go.ChangeAt Go.RowKit
namespace Fap
open Vt
set_option maxRecDepth 100000 in
set_option maxHeartbeats 1000000 in
theorem walkB (v : Value) (l : List Nat) (x y : Int) (w : World) (hI : IsB w v l) (hx1 : -9223372036854775808 ≤ x) (hx2 : x < 9223372036854775808) (hy1 : -9223372036854775808 ≤ y) (hy2 : y < 9223372036854775808) :
    Calls Try.prog 4 #[v, .int .i64 x, .int .i64 y] w fun e w' => e = .returned (.bool true) ∧ Below w.heap.size w w' := by
  have hml : l.length ≤ maxLen := hI.2.1
  unfold maxLen at hml
  have HA : Hid ((decF l x).2.2 = 0 → (decF l y).2.2 = 0 → x ≠ y → (x + ((decF l x).2.1 : Int) ≤ y ∨ (¬ x + ((decF l x).2.1 : Int) ≤ y ∧ y + ((decF l y).2.1 : Int) ≤ x)) ∧ 0 ≤ x ∧ 0 ≤ y ∧ x + ((decF l x).2.1 : Int) ≤ (l.length : Int) ∧ y + ((decF l y).2.1 : Int) ≤ (l.length : Int)) := by
    intro h1 h2 hne
    obtain ⟨a, ea, _, _, _, _, a4, _⟩ := decF_ok hI.1 h1
    obtain ⟨b, eb, _, _, _, _, b4, _⟩ := decF_ok hI.1 h2
    refine ⟨?_, by omega, by omega, by omega, by omega⟩
    rcases Int.lt_or_gt_of_ne hne with h | h
    · exact .inl (apart hI.1 h1 h2 h)
    · have := apart hI.1 h2 h1 h
      by_cases hq : x + ((decF l x).2.1 : Int) ≤ y
      · exact .inl hq
      · exact .inr ⟨hq, this⟩
  have HD1 := hd (fun w h => decode_all v l x w h)
  have HD2 := hd (fun w h => decode_all v l y w h)
  have HI := hd hI
  obtain ⟨va, vc, rfl⟩ := hI.shape
  clear hI
  obtain ⟨⟨k, ⟨rl, rk, rkey, rval⟩, ⟨pl, pk, pa, pn, pkey⟩, ⟨ec, eb, ef, es⟩⟩, n1, e1, h1⟩ : ∃ f n e, decF l x = (f, n, e) := ⟨_, _, _, rfl⟩
  obtain ⟨⟨k', ⟨rl', rk', rkey', rval'⟩, ⟨pl', pk', pa', pn', pkey'⟩, ⟨ec', eb', ef', es'⟩⟩, n2, e2, h2⟩ : ∃ f n e, decF l y = (f, n, e) := ⟨_, _, _, rfl⟩
  rw [h1] at HA HD1
  rw [h2] at HA HD2
  simp only [dval, fv] at HA HD1 HD2
  clear h1 h2
  go_enter Try.func4, Try.ntmps4
  go_wp2_with fail
  refine Calls.mono (known_is w) ?_
  rintro e w1 ⟨rfl, hb⟩
  have HB1 := hd hb
  have HI1 := hd (HI.out.below hb)
  clear hb HI
  go_wp2_with fail
  refine Calls.mono (HD1.out w1 HI1.out) ?_
  rintro e w2 ⟨rfl, hb⟩
  have HB2 : Hid (Below w.heap.size w w2) := HB1.out.trans (hb.mono HB1.out.size)
  have HI2 := hd (HI1.out.below hb)
  clear hb HI1 HD1 HB1
  go_wp2_with fail
  refine Calls.mono (HD2.out _ (HI2.out.below ((Below.refl _ _).alloc (Nat.le_refl _) _))) ?_
  rintro e w3 ⟨rfl, hb⟩
  have HB3 : Hid (Below w.heap.size w w3) := HB2.out.trans ((below_alloc1 hb).mono HB2.out.size)
  clear hb HI2 HD2 HB2
  by_cases c1 : e1 = 0
  · subst c1
    by_cases c2 : e2 = 0
    · subst c2
      by_cases c3 : x = y
      · subst c3
        go_wp2_with fail
        go_ret
        exact ⟨rfl, HB3.out.alloc HB3.out.size _⟩
      · have q3 : (x == y) = false := by simpa using c3
        obtain ⟨hor, g1, g2, g3, g4⟩ := HA.out rfl rfl c3
        rcases hor with h | ⟨h, h'⟩
        · go_wp2_with fail
          go_ret
          exact ⟨rfl, HB3.out.alloc HB3.out.size _⟩
        · have q4 : decide (x + (n1 : Int) ≤ y) = false := by simpa using h
          go_wp2_with fail
          go_ret
          exact ⟨rfl, HB3.out.alloc HB3.out.size _⟩
    · have q2 : (((e2 : Nat) : Int) != 0) = true := by simp; omega
      go_wp2_with fail
      go_ret
      exact ⟨rfl, HB3.out.alloc HB3.out.size _⟩
  · have q1 : (((e1 : Nat) : Int) != 0) = true := by simp; omega
    go_wp2_with fail
    go_ret
    exact ⟨rfl, HB3.out.alloc HB3.out.size _⟩
theorem walk (a0 : Option Addr) (len0 cap0 : Nat) (z0 : List Int) (a1 a2 : Int) (w : World) (w0 : IsRow .u8 w a0 len0 cap0 z0) (w1 : (Lit.int .i64 a1).wf = true) (w2 : (Lit.int .i64 a2).wf = true) :
    Calls Try.prog 4 #[.slice a0 len0 cap0, .int .i64 a1, .int .i64 a2] w fun e w' => e = .returned (.bool true) ∧ Below w.heap.size w w' := by
  obtain ⟨l, hl, hI⟩ := w0.isB
  have h1 := bounds_i64 w1
  have h2 := bounds_i64 w2
  exact walkB _ l a1 a2 w hI (by omega) (by omega) (by omega) (by omega)
set_option linter.unusedVariables false
set_option maxRecDepth 100000 in
theorem lifted (os : Os) (started : os.Started) (H : Type) (enc : TypeId × Value → H) :
    ReturnsInHanded {} Try.checked os 4 .any (Rows.frameApartSpec.pre6 enc Try.prog Try.f4 Rows.frameApartRow.domain false) (Rows.frameApartSpec.post enc Try.prog Try.f4 false true false false) := by
  refine returnsInHanded_of_change (C := Try.checked) own started (by kernel_rfl) Try.func4
    (ChangeSpec.witness6 (enc := enc) (C := Try.checked) false ⟨#[], #[.slice none 0 0, .int .i64 0, .int .i64 0], []⟩ 8 (by kernel_rfl) (by kernel_rfl) (by kernel_rfl) (by kernel_rfl)) ?_
  intro W base args ds gs before hval0 hW hcnd _
  have hval : ∀ (j : Nat) t v, Try.f4.params[j]? = some t → args[j]? = some v → Value.okWide Try.prog W .any base t v := hval0
  have hW' := hW
  obtain ⟨p, q, hA0, hV, rfl, hfz, hnd⟩ := hW
  have hA : DataW.TrodAll enc Try.prog W 0 (fun _ => true) true Try.f4.params.toList args.toList ds p := hA0
  rw [Try.params4] at hA hval
  obtain ⟨v0, vs0, d0, ds0, p0, q0, hargs, rfl, rfl, h0, r0⟩ := trodAll_cons hA
  obtain ⟨v1, vs1, d1, ds1, p1, q1, rfl, rfl, rfl, h1, r1⟩ := trodAll_cons r0
  obtain ⟨v2, vs2, d2, ds2, p2, q2, rfl, rfl, rfl, h2, r2⟩ := trodAll_cons r1
  obtain ⟨rfl, rfl, rfl⟩ := trodAll_nil r2
  obtain rfl : args = #[v0, v1, v2] := by cases args; simp_all
  obtain ⟨rfl, rfl⟩ := trodVars_none hV
  obtain ⟨a0, len0, cap0, rfl⟩ := okWide_slice Try.underlying35 (hval 0 35 v0 rfl rfl)
  have k0 := h0
  have lt0 : ∀ x ∈ p0, x.block < W.heap.size := by obtain ⟨m, hm⟩ := k0; exact DataW.trod_lt m _ _ _ hm
  obtain ⟨z0, w0⟩ : ∃ zs, IsRow .u8 W a0 len0 cap0 zs := by
    obtain ⟨fuel, hf⟩ := h0
    rcases open_ints Try.underlying35 Try.underlying5 (by kernel_rfl) hf with ⟨hcs, _⟩ | ⟨x, l, c, zs, hcs, _, hl, hm, hz, _, hcell, hwz⟩
    · simp [Value.cells] at hcs
      obtain ⟨rfl, rfl, rfl⟩ := hcs
      exact ⟨[], .inl ⟨rfl, rfl, rfl, rfl⟩⟩
    · simp [Value.cells] at hcs
      obtain ⟨rfl, rfl, rfl⟩ := hcs
      exact ⟨zs, .inr ⟨_, rfl, hl, hm, by simpa using hz, hcell, hwz⟩⟩
  obtain ⟨a1, rfl, rfl, rfl, w1⟩ := open_int Try.underlying3 (hval 1 3 v1 rfl rfl) h1
  obtain ⟨a2, rfl, rfl, rfl, w2⟩ := open_int Try.underlying3 (hval 2 3 v2 rfl rfl) h2
  clear hA0 hval0
  refine (walk a0 len0 cap0 z0 a1 a2 W w0 w1 w2).mono fun e W' ⟨he, bel⟩ => ?_
  subst he
  exact ⟨_, rfl, _, _, _, [], _, [], hW', trodAll_mk1 (shut_bool Try.underlying4 _), (trodAll_cons_mk (Below.trod laidOut (by kernel_rfl) (of_decide_eq_true (by kernel_rfl)) k0 bel lt0) (trodAll_cons_mk (shut_int Try.underlying3 w1) (trodAll_cons_mk (shut_int Try.underlying3 w2) trodAll_mk0))), rfl, bel.frame _, fun h => by cases h⟩

theorem over : Rows.frameApartRow.holds Try.pinned (OpenSpec.ofChange Rows.frameApartSpec) :=
  OpenClaim.holds_of_wide 4 Try.f4 rfl rfl rfl rfl rfl rfl rfl ⟨rfl, rfl, rfl, rfl, rfl⟩ rfl rfl rfl rfl rfl (by kernel_rfl) Try.func4 (by kernel_rfl)
    (of_decide_eq_true (by kernel_rfl)) (by unfold Func.isWrapper; first | (rw [if_pos (by decide +kernel)]; kernel_rfl) | (rw [if_neg (by decide +kernel)]; exact ⟨rfl, rfl⟩))
    (fun os started H enc _ => lifted os started H enc)

end Fap

theorem frameApart_holds : Rows.FrameApartSaid := Fap.over
#print axioms frameApart_holds
end Go.Proofs.Yticcmeicpkgfnaa
