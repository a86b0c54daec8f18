/-
  PROVED: for every text b and all numbers want and other, the Go law CrcWill answers true and changes nothing that came in: four bytes make the sum what one will, and no other four do. No condition.
-/
import Derived.Test.YtfodnbbpkonfpaaL0
namespace Go.Proofs.Ytfodnbbpkonfpaa
open Go.ChangeShapes Go.WideShapes Go.ChangeAt Go.RowKit
namespace Will
set_option maxRecDepth 100000 in
set_option maxHeartbeats 400000 in
theorem walkB (v : Value) (l : List Nat) (x y : Nat) (w : World) (hI : IsB w v l) (hx : x < 4294967296) (hy : y < 4294967296) :
    Calls Try.prog 5 #[v, .int .u32 (x : Int), .int .u32 (y : Int)] w fun e w' => e = .returned (.bool true) ∧ Below w.heap.size w w' := by
  obtain ⟨a, c, rfl⟩ := hI.shape
  have HI : Hid (IsB w (.slice a l.length c) l) := hI
  clear hI
  have HS : Hid (Crc.go 0 l < 4294967296) := Crc.go_lt 0 l
  go_enter Try.func5, Try.ntmps5
  go_wp2_with fail
  refine (known_any _).mono ?_
  rintro e w1 ⟨rfl, hb1⟩
  have HB1 : Hid (Below w.heap.size w w1) := hb1
  clear hb1
  go_wp2_with fail
  refine Calls.mono (sum_one w1 w1.heap.size rfl _ l (HI.out.below HB1.out)) ?_
  rintro e w2 ⟨rfl, hb2⟩
  have HB2 : Hid (Below w.heap.size w w2) := HB1.out.trans (hb2.mono HB1.out.size)
  clear hb2 HB1
  go_wp2_with fail
  refine Calls.mono (forge_is _ x w2 HS.out hx) ?_
  rintro e w3 ⟨rfl, hi3, hb3⟩
  have HI3 := hd (hi3)
  have HB3 : Hid (Below w.heap.size w w3) := HB2.out.trans (hb3.mono HB2.out.size)
  clear hi3 hb3
  go_wp2_with fail
  refine Calls.mono (sum_one w3 w3.heap.size rfl _ l (HI.out.below HB3.out)) ?_
  rintro e w4 ⟨rfl, hb4⟩
  have HB4 : Hid (Below w.heap.size w w4) := HB3.out.trans (hb4.mono HB3.out.size)
  have HI4 := hd (HI3.out.below hb4)
  clear hb4 HB3 HI3
  go_wp2_with fail
  refine Calls.mono (forge_is _ y w4 HS.out hy) ?_
  rintro e w5 ⟨rfl, hi5, hb5⟩
  have HI5 := hd (hi5)
  have HJ5 := hd (HI4.out.below hb5)
  have HB5 : Hid (Below w.heap.size w w5) := HB4.out.trans (hb5.mono HB4.out.size)
  clear hi5 hb5 HB4 HI4
  have hp := HJ5.out.row
  have hq := HI5.out.row
  have p0 := hp 0 (by simp [Crc.by4])
  have p1 := hp 1 (by simp [Crc.by4])
  have p2 := hp 2 (by simp [Crc.by4])
  have p3 := hp 3 (by simp [Crc.by4])
  have q0 := hq 0 (by simp [Crc.by4])
  have q1 := hq 1 (by simp [Crc.by4])
  have q2 := hq 2 (by simp [Crc.by4])
  have q3 := hq 3 (by simp [Crc.by4])
  have E1 := Crc.go_fg (Crc.go 0 l) hx
  have E2 := Crc.go_fg (Crc.go 0 l) hy
  have D := five (x := (x : Int)) (y := (y : Int)) (f := Crc.fg (Crc.go 0 l) x) (g := Crc.fg (Crc.go 0 l) y) ⟨fun h => by rw [h] at E1; rw [E1] at E2; rw [E2], fun h => by rw [show x = y by omega]⟩
  have HS1 := hd (fun (U : World) (hU : Below w5.heap.size w5 U) => sum_two U U.heap.size rfl _ _ l _ (HI.out.below (HB5.out.trans (hU.mono HB5.out.size))) (HJ5.out.below hU))
  have HS2 := hd (fun (U : World) (hU : Below w5.heap.size w5 U) => sum_two U U.heap.size rfl _ _ l _ (HI.out.below (HB5.out.trans (hU.mono HB5.out.size))) (HI5.out.below hU))
  rw [Crc.go_append _ HI.out.1, E1] at HS1
  rw [Crc.go_append _ HI.out.1, E2] at HS2
  clear hp hq E1 E2 HI HS HI5 HJ5
  generalize (Crc.by4 (Crc.fg (Crc.go 0 l) x)).getD 0 0 = P0 at *
  generalize (Crc.by4 (Crc.fg (Crc.go 0 l) x)).getD 1 0 = P1 at *
  generalize (Crc.by4 (Crc.fg (Crc.go 0 l) x)).getD 2 0 = P2 at *
  generalize (Crc.by4 (Crc.fg (Crc.go 0 l) x)).getD 3 0 = P3 at *
  generalize (Crc.by4 (Crc.fg (Crc.go 0 l) y)).getD 0 0 = Q0 at *
  generalize (Crc.by4 (Crc.fg (Crc.go 0 l) y)).getD 1 0 = Q1 at *
  generalize (Crc.by4 (Crc.fg (Crc.go 0 l) y)).getD 2 0 = Q2 at *
  generalize (Crc.by4 (Crc.fg (Crc.go 0 l) y)).getD 3 0 = Q3 at *
  have HD := hd D
  clear D
  go_wp2_with fail
  rcases HD.out with ⟨d0, d1, d2, d3, dx⟩ | ⟨d0, dx⟩ | ⟨d0, d1, dx⟩ | ⟨d0, d1, d2, dx⟩ | ⟨d0, d1, d2, d3, dx⟩
  all_goals
    clear HD
    go_quiet (fail)
    clear p0 p1 p2 p3 q0 q1 q2 q3
    go_wp2_with fail
    refine Calls.mono (HS1.out (w5.drewN nq) (below_drewN (Below.refl _ _) nq)) ?_
    rintro e w6 ⟨rfl, hb6⟩
    have HB6 := hd ((below_drewN (Below.refl w5.heap.size w5) nq).trans hb6)
    clear hb6
    go_wp2_with fail
    refine Calls.mono (HS2.out w6 HB6.out) ?_
    rintro e w7 ⟨rfl, hb7⟩
    have HB7 := hd (HB6.out.trans (hb7.mono HB6.out.size))
    clear hb7
    go_wp2
    go_ret
    exact ⟨rfl, HB5.out.trans (HB7.out.mono HB5.out.size)⟩
theorem walk (a0 : Option Addr) (len0 cap0 : Nat) (z0 : List Int) (a1 : Int) (a2 : Int) (w : World) (w0 : IsRow .u8 w a0 len0 cap0 z0) (w1 : (Lit.int .u32 a1).wf = true) (w2 : (Lit.int .u32 a2).wf = true) :
    Calls Try.prog 5 #[.slice a0 len0 cap0, .int .u32 a1, .int .u32 a2] w fun e w' => e = .returned (.bool true) ∧ Below w.heap.size w w' := by
  obtain ⟨l, _, hI⟩ := w0.isB
  obtain ⟨x, rfl, hx⟩ := wf_u32 w1
  obtain ⟨y, rfl, hy⟩ := wf_u32 w2
  exact walkB _ l x y w hI hx hy
set_option linter.unusedVariables false
set_option maxRecDepth 100000 in
theorem lifted (os : Os) (started : os.Started) (H : Type) (enc : TypeId × Value → H) :
    ReturnsInHanded {} Try.checked os 5 .any (Rows.crcWillSpec.pre6 enc Try.prog Try.f5 Rows.crcWillRow.domain false) (Rows.crcWillSpec.post enc Try.prog Try.f5 false true false false) := by
  refine returnsInHanded_of_change (C := Try.checked) own started (by kernel_rfl) Try.func5
    (ChangeSpec.witness6 (enc := enc) (C := Try.checked) false ⟨#[], #[.slice none 0 0, .int .u32 0, .int .u32 0], []⟩ 8 (by kernel_rfl) (by kernel_rfl) (by kernel_rfl) (by kernel_rfl)) ?_
  intro W base args ds gs before hval0 hW hcnd _
  have hval : ∀ (j : Nat) t v, Try.f5.params[j]? = some t → args[j]? = some v → Value.okWide Try.prog W .any base t v := hval0
  have hW' := hW
  obtain ⟨p, q, hA0, hV, rfl, hfz, hnd⟩ := hW
  have hA : DataW.TrodAll enc Try.prog W 0 (fun _ => true) true Try.f5.params.toList args.toList ds p := hA0
  rw [Try.params5] at hA hval
  obtain ⟨v0, vs0, d0, ds0, p0, q0, hargs, rfl, rfl, h0, r0⟩ := trodAll_cons hA
  obtain ⟨v1, vs1, d1, ds1, p1, q1, rfl, rfl, rfl, h1, r1⟩ := trodAll_cons r0
  obtain ⟨v2, vs2, d2, ds2, p2, q2, rfl, rfl, rfl, h2, r2⟩ := trodAll_cons r1
  obtain ⟨rfl, rfl, rfl⟩ := trodAll_nil r2
  obtain rfl : args = #[v0, v1, v2] := by cases args; simp_all
  obtain ⟨rfl, rfl⟩ := trodVars_none hV
  obtain ⟨a0, len0, cap0, rfl⟩ := okWide_slice Try.underlying22 (hval 0 22 v0 rfl rfl)
  have k0 := h0
  have lt0 : ∀ x ∈ p0, x.block < W.heap.size := by obtain ⟨m, hm⟩ := k0; exact DataW.trod_lt m _ _ _ hm
  obtain ⟨z0, w0⟩ : ∃ zs, IsRow .u8 W a0 len0 cap0 zs := by
    obtain ⟨fuel, hf⟩ := h0
    rcases open_ints Try.underlying22 Try.underlying5 (by kernel_rfl) hf with ⟨hcs, _⟩ | ⟨x, l, c, zs, hcs, _, hl, hm, hz, _, hcell, hwz⟩
    · simp [Value.cells] at hcs
      obtain ⟨rfl, rfl, rfl⟩ := hcs
      exact ⟨[], .inl ⟨rfl, rfl, rfl, rfl⟩⟩
    · simp [Value.cells] at hcs
      obtain ⟨rfl, rfl, rfl⟩ := hcs
      exact ⟨zs, .inr ⟨_, rfl, hl, hm, by simpa using hz, hcell, hwz⟩⟩
  obtain ⟨a1, rfl, rfl, rfl, w1⟩ := open_int Try.underlying23 (hval 1 23 v1 rfl rfl) h1
  obtain ⟨a2, rfl, rfl, rfl, w2⟩ := open_int Try.underlying23 (hval 2 23 v2 rfl rfl) h2
  clear hA0 hval0
  refine (walk a0 len0 cap0 z0 a1 a2 W w0 w1 w2).mono fun e W' ⟨he, bel⟩ => ?_
  subst he
  exact ⟨_, rfl, _, _, _, [], _, [], hW', trodAll_mk1 (shut_bool Try.underlying4 _), (trodAll_cons_mk (Below.trod laidOut (by kernel_rfl) (of_decide_eq_true (by kernel_rfl)) k0 bel lt0) (trodAll_cons_mk (shut_int Try.underlying23 w1) (trodAll_cons_mk (shut_int Try.underlying23 w2) trodAll_mk0))), rfl, bel.frame _, fun h => by cases h⟩

theorem over : Rows.crcWillRow.holds Try.pinned (OpenSpec.ofChange Rows.crcWillSpec) :=
  OpenClaim.holds_of_wide 5 Try.f5 rfl rfl rfl rfl rfl rfl rfl ⟨rfl, rfl, rfl, rfl, rfl⟩ rfl rfl rfl rfl rfl (by kernel_rfl) Try.func5 (by kernel_rfl)
    (of_decide_eq_true (by kernel_rfl)) (by unfold Func.isWrapper; first | (rw [if_pos (by decide +kernel)]; kernel_rfl) | (rw [if_neg (by decide +kernel)]; exact ⟨rfl, rfl⟩))
    (fun os started H enc _ => lifted os started H enc)

end Will

theorem crcWill_holds : Rows.CrcWillSaid := Will.over
#print axioms crcWill_holds
end Go.Proofs.Ytfodnbbpkonfpaa
