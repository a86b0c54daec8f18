/-
  PROVED: for every number, every place and every pattern the Go law VintCut answers true: a varint that is cut off is too short; one of whose bytes is turned is another number, or none. No condition.
-/
import Derived.Test.YthlmbojeiffkkaaV7
namespace Go.Proofs.Ythlmbojeiffkkaa
open Go.ChangeShapes Go.WideShapes Go.ChangeAt Go.RowKit
namespace Cut
open Vt
theorem xor8_ne {x y : Nat} (hy : y ≠ 0) : x ^^^ y ≠ x := by
  intro h
  have : x ^^^ (x ^^^ y) = x ^^^ x := by rw [h]
  rw [← Nat.xor_assoc, Nat.xor_self, Nat.zero_xor] at this
  exact hy this
/-- a varint of which one byte is turned is not read as that number -/
theorem turned {n k y : Nat} (hk : k < (vrt n).length) (hy : y ≠ 0) (hy2 : y < 256) : dec ((vrt n).set k ((vrt n).getD k 0 ^^^ y)) ≠ (n, (vrt n).length, 0) := by
  intro e
  have hx := getD_lt (vrt_byt n) k
  have hb : Byt ((vrt n).set k ((vrt n).getD k 0 ^^^ y)) := by
    intro z hz
    rcases List.mem_or_eq_of_mem_set hz with hz | hz
    · exact vrt_byt n z hz
    · rw [hz]; exact Nat.xor_lt_two_pow (n := 8) hx hy2
  obtain ⟨h1, _⟩ := dec_ok hb e
  rw [List.take_of_length_le (by rw [List.length_set]; omega)] at h1
  have : (vrt n).getD k 0 = ((vrt n).set k ((vrt n).getD k 0 ^^^ y)).getD k 0 := by rw [← h1]
  rw [List.getD_eq_getElem?_getD (l := (vrt n).set k _), List.getElem?_set_self hk] at this
  exact xor8_ne hy this.symm
set_option maxRecDepth 100000 in
set_option maxHeartbeats 400000 in
theorem walkB (n y : Nat) (x : Int) (w : World) (hn : n < 18446744073709551616) (hy : y < 256) (hx1 : -9223372036854775808 ≤ x) (hx2 : x < 9223372036854775808) :
    Calls Try.prog 4 #[.int .u64 (n : Int), .int .i64 x, .int .u8 (y : Int)] w fun e w' => e = .returned (.bool true) ∧ Below w.heap.size w w' := by
  obtain ⟨u, hu⟩ : ∃ u : Nat, (if x < 0 then -(x + 1) else x) = (u : Int) := ⟨(if x < 0 then -(x + 1) else x).toNat, by split <;> omega⟩
  have HU := hd hu
  clear hu
  go_enter Try.func4, Try.ntmps4
  go_wp2_with fail
  have hlit := lit_isK .u64 18446744073709551616 w #[.int .u64 (n : Int)] 23 [n] 1 rfl rfl (by simpa using hn) (by simp [maxLen])
  refine Calls.mono (encode_is _ [n] _ hlit (by simp)) ?_
  rw [enc_one, World.size_alloc]
  rintro e w3 ⟨rfl, hj3, hb3⟩
  have HB3 : Hid (Below w.heap.size w w3) := ((Below.refl _ _).alloc (Nat.le_refl _) _).trans (hb3.mono (by omega))
  have HJ3 := hd hj3
  have hl1 := vrt_len n
  have hl2 := vrt_ten hn
  obtain ⟨L, hL⟩ : ∃ L, L = (vrt n).length := ⟨_, rfl⟩
  rw [← hL] at HJ3 hl1 hl2 ⊢
  have HL := hd hL
  clear hj3 hb3 hlit hL
  go_wp2_with fail
  refine Calls.mono (works_any w3) ?_
  rintro e w4 ⟨rfl, hb4⟩
  have HB4 : Hid (Below w.heap.size w w4) := HB3.out.trans (hb4.mono HB3.out.size)
  have hg : w.heap.size + 1 < w3.heap.size := HJ3.out.buf.2.2.1
  have HF4 := hd (HJ3.out.buf.below hg hb4)
  clear hb4 HJ3 HB3 hg
  by_cases hx0 : x < 0
  · rw [if_pos hx0] at HU
    obtain ⟨t, ht, he⟩ : ∃ t : Nat, t < L ∧ -((x + 1).tmod (L : Int)) = (t : Int) := ⟨u % L, Nat.mod_lt _ (by omega), by rw [← Int.neg_tmod, HU.out]; exact Int.ofNat_tmod u L⟩
    clear HU
    go_wp2_with fail
    refine Calls.mono (decode_is _ _ w4 ((HF4.out.isB HL.out).take t (by rw [← HL.out]; omega))) ?_
    rw [dec_cut hn (by rw [← HL.out]; exact ht)]
    unfold ans
    rintro e w5 ⟨rfl, rfl⟩
    by_cases h0 : y = 0
    · subst h0
      go_wp2_with fail
      go_ret
      exact ⟨rfl, HB4.out⟩
    · have hy0 : ((y : Int) == 0) = false := by simp; omega
      have hc := HF4.out.cell (j := t) (by rw [← HL.out]; exact ht)
      have hf := HF4.out.2.2.2.2.2 t (by rw [← HL.out]; exact ht)
      have hp := getD_lt (vrt_byt n) t
      have HT := hd (turned (n := n) (k := t) (y := y) (by rw [← HL.out]; exact ht) h0 hy)
      have HS := hd (HF4.out.set (j := t) (y := (vrt n).getD t 0 ^^^ y) (by rw [← HL.out]; exact ht) (Nat.xor_lt_two_pow (n := 8) hp hy))
      have HX := hd (u8_xor_nat ((vrt n).getD t 0) y hp hy)
      obtain ⟨p, hpe⟩ : ∃ p, p = (vrt n).getD t 0 := ⟨_, rfl⟩
      rw [← hpe] at hc hp HT HS HX
      clear hpe
      go_wp2_with fail
      rw [HX.out]
      refine Calls.mono (decode_is _ _ _ (HS.out.isB (by rw [List.length_set]; exact HL.out))) ?_
      obtain ⟨m, j, f, hdd⟩ : ∃ m j f, dec ((vrt n).set t (p ^^^ y)) = (m, j, f) := ⟨_, _, _, rfl⟩
      rw [hdd]
      have hor : f ≠ 0 ∨ m ≠ n ∨ j ≠ L := by
        have := HT.out
        rw [hdd, ← HL.out] at this
        simp only [ne_eq, Prod.mk.injEq] at this
        omega
      have HB5 := hd (HB4.out.setCell (p := ⟨w.heap.size + 1, t, none⟩) (by simp) (.int .u8 ((p ^^^ y : Nat) : Int)))
      clear hdd HT HS hc hf
      unfold ans
      rintro e w6 ⟨rfl, rfl⟩
      by_cases hf0 : f = 0
      · subst hf0
        by_cases hm : m = n
        · subst hm
          have hj : ((j : Int) != (L : Int)) = true := by simp; omega
          go_wp2_with fail
          go_ret
          exact ⟨rfl, HB5.out⟩
        · have hm2 : ((m : Int) != (n : Int)) = true := by simp; omega
          go_wp2_with fail
          go_ret
          exact ⟨rfl, HB5.out⟩
      · have hf2 : ((f : Int) != 0) = true := by simp; omega
        go_wp2_with fail
        go_ret
        exact ⟨rfl, HB5.out⟩
  · rw [if_neg hx0] at HU
    obtain ⟨t, ht, he⟩ : ∃ t : Nat, t < L ∧ x % (L : Int) = (t : Int) := ⟨u % L, Nat.mod_lt _ (by omega), by rw [HU.out]; rfl⟩
    clear HU
    go_wp2_with fail
    refine Calls.mono (decode_is _ _ w4 ((HF4.out.isB HL.out).take t (by rw [← HL.out]; omega))) ?_
    rw [dec_cut hn (by rw [← HL.out]; exact ht)]
    unfold ans
    rintro e w5 ⟨rfl, rfl⟩
    by_cases h0 : y = 0
    · subst h0
      go_wp2_with fail
      go_ret
      exact ⟨rfl, HB4.out⟩
    · have hy0 : ((y : Int) == 0) = false := by simp; omega
      have hc := HF4.out.cell (j := t) (by rw [← HL.out]; exact ht)
      have hf := HF4.out.2.2.2.2.2 t (by rw [← HL.out]; exact ht)
      have hp := getD_lt (vrt_byt n) t
      have HT := hd (turned (n := n) (k := t) (y := y) (by rw [← HL.out]; exact ht) h0 hy)
      have HS := hd (HF4.out.set (j := t) (y := (vrt n).getD t 0 ^^^ y) (by rw [← HL.out]; exact ht) (Nat.xor_lt_two_pow (n := 8) hp hy))
      have HX := hd (u8_xor_nat ((vrt n).getD t 0) y hp hy)
      obtain ⟨p, hpe⟩ : ∃ p, p = (vrt n).getD t 0 := ⟨_, rfl⟩
      rw [← hpe] at hc hp HT HS HX
      clear hpe
      go_wp2_with fail
      rw [HX.out]
      refine Calls.mono (decode_is _ _ _ (HS.out.isB (by rw [List.length_set]; exact HL.out))) ?_
      obtain ⟨m, j, f, hdd⟩ : ∃ m j f, dec ((vrt n).set t (p ^^^ y)) = (m, j, f) := ⟨_, _, _, rfl⟩
      rw [hdd]
      have hor : f ≠ 0 ∨ m ≠ n ∨ j ≠ L := by
        have := HT.out
        rw [hdd, ← HL.out] at this
        simp only [ne_eq, Prod.mk.injEq] at this
        omega
      have HB5 := hd (HB4.out.setCell (p := ⟨w.heap.size + 1, t, none⟩) (by simp) (.int .u8 ((p ^^^ y : Nat) : Int)))
      clear hdd HT HS hc hf
      unfold ans
      rintro e w6 ⟨rfl, rfl⟩
      by_cases hf0 : f = 0
      · subst hf0
        by_cases hm : m = n
        · subst hm
          have hj : ((j : Int) != (L : Int)) = true := by simp; omega
          go_wp2_with fail
          go_ret
          exact ⟨rfl, HB5.out⟩
        · have hm2 : ((m : Int) != (n : Int)) = true := by simp; omega
          go_wp2_with fail
          go_ret
          exact ⟨rfl, HB5.out⟩
      · have hf2 : ((f : Int) != 0) = true := by simp; omega
        go_wp2_with fail
        go_ret
        exact ⟨rfl, HB5.out⟩
theorem walk (a0 : Int) (a1 : Int) (a2 : Int) (w : World) (w0 : (Lit.int .u64 a0).wf = true) (w1 : (Lit.int .i64 a1).wf = true) (w2 : (Lit.int .u8 a2).wf = true) :
    Calls Try.prog 4 #[.int .u64 a0, .int .i64 a1, .int .u8 a2] w fun e w' => e = .returned (.bool true) ∧ Below w.heap.size w w' := by
  have h0 := wf_u64 w0
  have h1 := bounds_i64 w1
  have h2 := wf_u8 w2
  obtain ⟨n, rfl⟩ : ∃ n : Nat, a0 = (n : Int) := ⟨a0.toNat, by omega⟩
  obtain ⟨y, rfl⟩ : ∃ y : Nat, a2 = (y : Int) := ⟨a2.toNat, by omega⟩
  exact walkB n y a1 w (by omega) (by omega) (by omega) (by omega)
set_option linter.unusedVariables false
set_option maxRecDepth 100000 in
theorem lifted (os : Os) (started : os.Started) (H : Type) (enc : TypeId × Value → H) :
    ReturnsInHanded {} Try.checked os 4 .any (Rows.vintCutSpec.pre6 enc Try.prog Try.f4 Rows.vintCutRow.domain false) (Rows.vintCutSpec.post enc Try.prog Try.f4 false true false false) := by
  refine returnsInHanded_of_change (C := Try.checked) own started (by kernel_rfl) Try.func4
    (ChangeSpec.witness6 (enc := enc) (C := Try.checked) false ⟨#[], #[.int .u64 0, .int .i64 0, .int .u8 0], []⟩ 8 (by kernel_rfl) (by kernel_rfl) (by kernel_rfl) (by kernel_rfl)) ?_
  intro W base args ds gs before hval0 hW hcnd _
  have hval : ∀ (j : Nat) t v, Try.f4.params[j]? = some t → args[j]? = some v → Value.okWide Try.prog W .any base t v := hval0
  have hW' := hW
  obtain ⟨p, q, hA0, hV, rfl, hfz, hnd⟩ := hW
  have hA : DataW.TrodAll enc Try.prog W 0 (fun _ => true) true Try.f4.params.toList args.toList ds p := hA0
  rw [Try.params4] at hA hval
  obtain ⟨v0, vs0, d0, ds0, p0, q0, hargs, rfl, rfl, h0, r0⟩ := trodAll_cons hA
  obtain ⟨v1, vs1, d1, ds1, p1, q1, rfl, rfl, rfl, h1, r1⟩ := trodAll_cons r0
  obtain ⟨v2, vs2, d2, ds2, p2, q2, rfl, rfl, rfl, h2, r2⟩ := trodAll_cons r1
  obtain ⟨rfl, rfl, rfl⟩ := trodAll_nil r2
  obtain rfl : args = #[v0, v1, v2] := by cases args; simp_all
  obtain ⟨rfl, rfl⟩ := trodVars_none hV
  obtain ⟨a0, rfl, rfl, rfl, w0⟩ := open_int Try.underlying23 (hval 0 23 v0 rfl rfl) h0
  obtain ⟨a1, rfl, rfl, rfl, w1⟩ := open_int Try.underlying3 (hval 1 3 v1 rfl rfl) h1
  obtain ⟨a2, rfl, rfl, rfl, w2⟩ := open_int Try.underlying5 (hval 2 5 v2 rfl rfl) h2
  clear hA0 hval0
  refine (walk a0 a1 a2 W w0 w1 w2).mono fun e W' ⟨he, bel⟩ => ?_
  subst he
  exact ⟨_, rfl, _, _, _, [], _, [], hW', trodAll_mk1 (shut_bool Try.underlying4 _), (trodAll_cons_mk (shut_int Try.underlying23 w0) (trodAll_cons_mk (shut_int Try.underlying3 w1) (trodAll_cons_mk (shut_int Try.underlying5 w2) trodAll_mk0))), rfl, bel.frame _, fun h => by cases h⟩

theorem over : Rows.vintCutRow.holds Try.pinned (OpenSpec.ofChange Rows.vintCutSpec) :=
  OpenClaim.holds_of_wide 4 Try.f4 rfl rfl rfl rfl rfl rfl rfl ⟨rfl, rfl, rfl, rfl, rfl⟩ rfl rfl rfl rfl rfl (by kernel_rfl) Try.func4 (by kernel_rfl)
    (of_decide_eq_true (by kernel_rfl)) (by unfold Func.isWrapper; first | (rw [if_pos (by decide +kernel)]; kernel_rfl) | (rw [if_neg (by decide +kernel)]; exact ⟨rfl, rfl⟩))
    (fun os started H enc _ => lifted os started H enc)

end Cut

theorem vintCut_holds : Rows.VintCutSaid := Cut.over
#print axioms vintCut_holds
end Go.Proofs.Ythlmbojeiffkkaa
