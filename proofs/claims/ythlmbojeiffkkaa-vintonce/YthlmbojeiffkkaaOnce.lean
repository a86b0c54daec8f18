/-
  PROVED: for every text b the Go law VintOnce answers true and changes nothing that came in: what is decoded is encoded again, byte by byte. No condition.
-/
import Derived.Test.YthlmbojeiffkkaaV7
namespace Go.Proofs.Ythlmbojeiffkkaa
open Go.ChangeShapes Go.WideShapes Go.ChangeAt Go.RowKit
namespace Once
open Vt
set_option maxRecDepth 100000 in
set_option maxHeartbeats 400000 in
theorem walkB (v : Value) (l : List Nat) (w : World) (hI : IsB w v l) :
    Calls Try.prog 3 #[v] w fun e w' => e = .returned (.bool true) ∧ Below w.heap.size w w' := by
  obtain ⟨a, c, rfl⟩ := hI.shape
  have HI := hd hI
  have HC := hd (decode_is _ l w hI)
  have hcap : l.length ≤ c := by
    obtain ⟨_, _, ⟨rfl, a', c', e⟩ | ⟨b, off, c', e, h1, _⟩⟩ := hI
    · simp
    · injection e with e1 e2 e3
      omega
  clear hI
  obtain ⟨n, k, e, hdd⟩ : ∃ n k e, dec l = (n, k, e) := ⟨_, _, _, rfl⟩
  rw [hdd] at HC
  unfold ans at HC
  go_enter Try.func3, Try.ntmps3
  go_wp2_with fail
  refine Calls.mono HC.out ?_
  rintro e w1 ⟨rfl, rfl⟩
  clear HC
  have HD := hd hdd
  clear hdd
  go_wp2_with fail
  refine Calls.mono (works_any w1) ?_
  rintro e w2 ⟨rfl, hb2⟩
  have HI2 := hd (HI.out.below hb2)
  have HB2 := hd hb2
  clear hb2
  by_cases he : e = 0
  · subst he
    obtain ⟨h1, h2, h3, h4, h5, h6⟩ := dec_ok HI.out.1 HD.out
    have HV := hd h1
    clear h1 h6 HI HD
    go_wp2_with fail
    have hlit := lit_isK .u64 18446744073709551616 w2 #[.int .u64 (n : Int)] 23 [n] 1 rfl rfl (by simpa using h5) (by simp [maxLen])
    refine Calls.mono (encode_is _ [n] _ hlit (by simp)) ?_
    rw [enc_one]
    rintro e w3 ⟨rfl, hj3, hb3⟩
    have HB3 : Hid (Below w1.heap.size w1 w3) := (HB2.out.alloc HB2.out.size _).trans (hb3.mono (by have := HB2.out.size; simp; omega))
    have HI3 : Hid (IsB w3 (.slice a l.length c) l) := HI2.out.below (((Below.refl _ _).alloc (Nat.le_refl _) _).trans (hb3.mono (by simp)))
    have HT3 := hd (HI3.out.take k h4)
    have HJ3 := hd hj3.isB
    clear hj3 hb3 hlit HI3
    rw [HV.out, show (l.take k).length = k by rw [List.length_take]; omega, World.size_alloc] at HJ3
    rw [HV.out]
    go_wp2_with fail
    refine Calls.mono (same_is _ _ _ _ _ HJ3.out HT3.out) ?_
    rw [decide_eq_true rfl]
    rintro e w4 ⟨rfl, m, hw4⟩
    have HB4 : Hid (Below w1.heap.size w1 w4) := by rw [hw4]; exact below_drewN HB3.out m
    clear hw4
    go_wp2_with fail
    go_ret
    exact ⟨rfl, HB4.out⟩
  · obtain ⟨h1, h2⟩ := dec_err (l := l) (by rw [HD.out]; exact he)
    rw [HD.out] at h1 h2
    simp only at h1 h2
    subst h1 h2
    have he2 : ((e : Int) != 0) = true := by simp; omega
    go_wp2_with fail
    go_ret
    exact ⟨rfl, HB2.out⟩
theorem walk (a0 : Option Addr) (len0 cap0 : Nat) (z0 : List Int) (w : World) (w0 : IsRow .u8 w a0 len0 cap0 z0) :
    Calls Try.prog 3 #[.slice a0 len0 cap0] w fun e w' => e = .returned (.bool true) ∧ Below w.heap.size w w' := by
  obtain ⟨l, _, hI⟩ := w0.isB
  exact walkB _ l w hI
set_option linter.unusedVariables false
set_option maxRecDepth 100000 in
theorem lifted (os : Os) (started : os.Started) (H : Type) (enc : TypeId × Value → H) :
    ReturnsInHanded {} Try.checked os 3 .any (Rows.vintOnceSpec.pre6 enc Try.prog Try.f3 Rows.vintOnceRow.domain false) (Rows.vintOnceSpec.post enc Try.prog Try.f3 false true false false) := by
  refine returnsInHanded_of_change (C := Try.checked) own started (by kernel_rfl) Try.func3
    (ChangeSpec.witness6 (enc := enc) (C := Try.checked) false ⟨#[], #[.slice none 0 0], []⟩ 8 (by kernel_rfl) (by kernel_rfl) (by kernel_rfl) (by kernel_rfl)) ?_
  intro W base args ds gs before hval0 hW hcnd _
  have hval : ∀ (j : Nat) t v, Try.f3.params[j]? = some t → args[j]? = some v → Value.okWide Try.prog W .any base t v := hval0
  have hW' := hW
  obtain ⟨p, q, hA0, hV, rfl, hfz, hnd⟩ := hW
  have hA : DataW.TrodAll enc Try.prog W 0 (fun _ => true) true Try.f3.params.toList args.toList ds p := hA0
  rw [Try.params3] at hA hval
  obtain ⟨v0, vs0, d0, ds0, p0, q0, hargs, rfl, rfl, h0, r0⟩ := trodAll_cons hA
  obtain ⟨rfl, rfl, rfl⟩ := trodAll_nil r0
  obtain rfl : args = #[v0] := by cases args; simp_all
  obtain ⟨rfl, rfl⟩ := trodVars_none hV
  obtain ⟨a0, len0, cap0, rfl⟩ := okWide_slice Try.underlying22 (hval 0 22 v0 rfl rfl)
  have k0 := h0
  have lt0 : ∀ x ∈ p0, x.block < W.heap.size := by obtain ⟨m, hm⟩ := k0; exact DataW.trod_lt m _ _ _ hm
  obtain ⟨z0, w0⟩ : ∃ zs, IsRow .u8 W a0 len0 cap0 zs := by
    obtain ⟨fuel, hf⟩ := h0
    rcases open_ints Try.underlying22 Try.underlying5 (by kernel_rfl) hf with ⟨hcs, _⟩ | ⟨x, l, c, zs, hcs, _, hl, hm, hz, _, hcell, hwz⟩
    · simp [Value.cells] at hcs
      obtain ⟨rfl, rfl, rfl⟩ := hcs
      exact ⟨[], .inl ⟨rfl, rfl, rfl, rfl⟩⟩
    · simp [Value.cells] at hcs
      obtain ⟨rfl, rfl, rfl⟩ := hcs
      exact ⟨zs, .inr ⟨_, rfl, hl, hm, by simpa using hz, hcell, hwz⟩⟩
  clear hA0 hval0
  refine (walk a0 len0 cap0 z0 W w0).mono fun e W' ⟨he, bel⟩ => ?_
  subst he
  exact ⟨_, rfl, _, _, _, [], _, [], hW', trodAll_mk1 (shut_bool Try.underlying4 _), (trodAll_cons_mk (Below.trod laidOut (by kernel_rfl) (of_decide_eq_true (by kernel_rfl)) k0 bel lt0) trodAll_mk0), rfl, bel.frame _, fun h => by cases h⟩

theorem over : Rows.vintOnceRow.holds Try.pinned (OpenSpec.ofChange Rows.vintOnceSpec) :=
  OpenClaim.holds_of_wide 3 Try.f3 rfl rfl rfl rfl rfl rfl rfl ⟨rfl, rfl, rfl, rfl, rfl⟩ rfl rfl rfl rfl rfl (by kernel_rfl) Try.func3 (by kernel_rfl)
    (of_decide_eq_true (by kernel_rfl)) (by unfold Func.isWrapper; first | (rw [if_pos (by decide +kernel)]; kernel_rfl) | (rw [if_neg (by decide +kernel)]; exact ⟨rfl, rfl⟩))
    (fun os started H enc _ => lifted os started H enc)

end Once

theorem vintOnce_holds : Rows.VintOnceSaid := Once.over
#print axioms vintOnce_holds
end Go.Proofs.Ythlmbojeiffkkaa
