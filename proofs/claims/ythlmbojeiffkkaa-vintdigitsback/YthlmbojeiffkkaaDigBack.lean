/-
  PROVED: for every number, every count and every text the Go law VintDigitsBack answers true and changes nothing that came in: digits are read again, and what is read as digits is written again. No condition.
-/
import Derived.Test.YthlmbojeiffkkaaV7
namespace Go.Proofs.Ythlmbojeiffkkaa
open Go.ChangeShapes Go.WideShapes Go.ChangeAt Go.RowKit
namespace DigBack
open Vt
set_option maxRecDepth 100000 in
set_option maxHeartbeats 400000 in
theorem walkArg (n : Nat) (c : Int) (v : Value) (l : List Nat) (w : World) (h : c < 1 ∨ 9 < c) (hI : IsB w v l) :
    Calls Try.prog 5 #[.int .u64 (n : Int), .int .i64 c, v] w fun e w' => e = .returned (.bool true) ∧ Below w.heap.size w w' := by
  obtain ⟨a, k, rfl⟩ := hI.shape
  clear hI
  go_enter Try.func5, Try.ntmps5
  go_wp2_with fail
  refine Calls.mono (digits_arg n c w h) ?_
  rintro e w1 ⟨rfl, rfl⟩
  go_wp2_with fail
  refine Calls.mono (works_any w1) ?_
  rintro e w2 ⟨rfl, hb2⟩
  have HB2 := hd hb2
  clear hb2
  go_wp2_with fail
  refine Calls.mono (number_arg _ c w2 h) ?_
  rintro e w3 ⟨rfl, rfl⟩
  go_wp2_with fail
  go_ret
  exact ⟨rfl, HB2.out⟩
set_option maxRecDepth 100000 in
set_option maxHeartbeats 400000 in
theorem walkMany (n c : Nat) (v : Value) (l : List Nat) (w : World) (h1 : 1 ≤ c) (h9 : c ≤ 9) (hn : n < 18446744073709551616) (hn2 : 128 ^ c ≤ n) (hI : IsB w v l) :
    Calls Try.prog 5 #[.int .u64 (n : Int), .int .i64 (c : Int), v] w fun e w' => e = .returned (.bool true) ∧ Below w.heap.size w w' := by
  obtain ⟨a, k, rfl⟩ := hI.shape
  have HI := hd hI
  have hcap : l.length ≤ k := by
    obtain ⟨_, _, ⟨rfl, a', c', e⟩ | ⟨b, off, c', e, h1, _⟩⟩ := hI
    · simp
    · injection e with e1 e2 e3
      omega
  clear hI
  have HC := hd (digits_many n c w h1 h9 hn hn2)
  clear hn2
  go_enter Try.func5, Try.ntmps5
  go_wp2_with fail
  refine Calls.mono HC.out ?_
  rintro e w1 ⟨rfl, rfl⟩
  go_wp2_with fail
  refine Calls.mono (works_any w1) ?_
  rintro e w2 ⟨rfl, hb2⟩
  have HI2 := hd (HI.out.below hb2)
  have HB2 := hd hb2
  clear hb2 HI HC
  by_cases hlc : c ≤ l.length
  · go_wp2_with fail
    refine Calls.mono (number_is _ c l _ HI2.out h1 h9 hlc) ?_
    rintro e w8 ⟨rfl, rfl⟩
    by_cases hall : ∀ x ∈ l.take c, x < 128
    · rw [numAns_ok hall]
      have hlk : (l.take c).length = c := by rw [List.length_take]; omega
      have hx := nm_lt hall
      rw [hlk] at hx
      have HDG := hd (dg_nm hall)
      rw [hlk] at HDG
      have hx2 : nm (l.take c) < 18446744073709551616 := Nat.lt_trans hx (Nat.lt_of_le_of_lt (Nat.pow_le_pow_right (by omega) h9) (by decide))
      obtain ⟨x, hxe⟩ : ∃ x, x = nm (l.take c) := ⟨_, rfl⟩
      rw [← hxe] at hx hx2 HDG ⊢
      clear hxe
      have HX := hd hx
      clear hx
      go_wp2_with fail
      refine Calls.mono (digits_ok x c _ h1 h9 hx2 HX.out) ?_
      rintro e w9 ⟨rfl, hj9, hb9⟩
      rw [HDG.out] at hj9
      have HJ9 := hd hj9.isB
      have HT9 := hd ((HI2.out.below hb9).take c hlc)
      have HB9 := hd (HB2.out.trans (hb9.mono HB2.out.size))
      clear hj9 hb9
      go_wp2_with fail
      refine Calls.mono (same_is _ _ _ _ _ HJ9.out HT9.out) ?_
      rw [decide_eq_true rfl]
      rintro e w10 ⟨rfl, m, hw10⟩
      have HB10 : Hid (Below w1.heap.size w1 w10) := by rw [hw10]; exact below_drewN HB9.out m
      clear hw10
      go_wp2_with fail
      go_ret
      exact ⟨rfl, HB10.out⟩
    · rw [numAns_bad hall]
      go_wp2_with fail
      go_ret
      exact ⟨rfl, HB2.out⟩
  · have hlc : l.length < c := by omega
    go_wp2_with fail
    refine Calls.mono (number_short _ _ _ c _ h1 h9 hlc) ?_
    rintro e w8 ⟨rfl, rfl⟩
    go_wp2_with fail
    go_ret
    exact ⟨rfl, HB2.out⟩
set_option maxRecDepth 100000 in
set_option maxHeartbeats 400000 in
theorem walkOk (n c : Nat) (v : Value) (l : List Nat) (w : World) (h1 : 1 ≤ c) (h9 : c ≤ 9) (hn : n < 18446744073709551616) (hn2 : n < 128 ^ c) (hI : IsB w v l) (hm : l.length ≤ 140737488351232) :
    Calls Try.prog 5 #[.int .u64 (n : Int), .int .i64 (c : Int), v] w fun e w' => e = .returned (.bool true) ∧ Below w.heap.size w w' := by
  obtain ⟨i0, hi, hz0, hz1, hz2⟩ := info_parts info_u8
  obtain ⟨a, k, rfl⟩ := hI.shape
  have HI := hd hI
  have hcap : l.length ≤ k := by
    obtain ⟨_, _, ⟨rfl, a', c', e⟩ | ⟨b, off, c', e, h1, _⟩⟩ := hI
    · simp
    · injection e with e1 e2 e3
      omega
  clear hI
  have HC := hd (digits_ok n c w h1 h9 hn hn2)
  have HN := hd hn2
  clear hn2
  go_enter Try.func5, Try.ntmps5
  go_wp2_with fail
  refine Calls.mono HC.out ?_
  rintro e w1 ⟨rfl, hj1, hb1⟩
  have HB1 := hd hb1
  have HI1 := hd (HI.out.below hb1)
  have HJ1 := hd hj1
  clear hj1 hb1 HC
  go_wp2_with fail
  refine Calls.mono (works_any w1) ?_
  rintro e w4 ⟨rfl, hb4⟩
  have HI4 := hd (HI1.out.below hb4)
  have HB4 := hd (HB1.out.trans (hb4.mono HB1.out.size))
  have HO4 : Hid (w4.ownsRow w.heap.size 5 1 (.slice (some ⟨w.heap.size, 0, none⟩) c c) c (bs (dg c n))) := by
    have := HJ1.out.2
    rw [dg_len] at this
    exact own_below this HJ1.out.buf.2.2.1 hb4
  clear hb4 HI1 HB1 HJ1
  by_cases h0 : l.length = 0
  · obtain rfl : l = [] := List.length_eq_zero_iff.1 h0
    have hlc : ([] : List Nat).length < c := by simp; omega
    have HJ3 : Hid (IsB w4 (.slice (some ⟨w.heap.size, 0, none⟩) c c) (dg c n ++ [])) := by
      rw [List.append_nil]
      exact (buf_of_own (dg_byt c n) (dg_len c n).symm (own_lt HO4.out).1 HO4.out).isB (dg_len c n).symm
    have HI2 := HI4
    have HB2 := HB4
    rw [List.length_nil] at *
    clear HI4 HB4 HO4
    cases a with
    | none =>
      go_wp2_with fail
      refine Calls.mono (number_is _ c _ _ HJ3.out h1 h9 (by rw [List.length_append, dg_len]; omega)) ?_
      rw [numAns_ok (by rw [List.take_left' (dg_len c n)]; exact dg_lt c n), List.take_left' (dg_len c n), nm_dg, Nat.mod_eq_of_lt HN.out]
      rintro e w7 ⟨rfl, rfl⟩
      go_wp2_with fail
      refine Calls.mono (number_short _ _ _ c _ h1 h9 hlc) ?_
      rintro e w8 ⟨rfl, rfl⟩
      go_wp2_with fail
      go_ret
      exact ⟨rfl, HB2.out⟩
    | some ad =>
      obtain ⟨ab, ao, asp⟩ := ad
      go_wp2_with fail
      refine Calls.mono (number_is _ c _ _ HJ3.out h1 h9 (by rw [List.length_append, dg_len]; omega)) ?_
      rw [numAns_ok (by rw [List.take_left' (dg_len c n)]; exact dg_lt c n), List.take_left' (dg_len c n), nm_dg, Nat.mod_eq_of_lt HN.out]
      rintro e w7 ⟨rfl, rfl⟩
      go_wp2_with fail
      refine Calls.mono (number_short _ _ _ c _ h1 h9 hlc) ?_
      rintro e w8 ⟨rfl, rfl⟩
      go_wp2_with fail
      go_ret
      exact ⟨rfl, HB2.out⟩
  · obtain ⟨hbl, hml, ⟨rfl, a', c', e⟩ | ⟨bb, oo, cc, e, hlc2, hcm, hbb, hrow⟩⟩ := HI4.out
    · simp at h0
    · injection e with e1 e2 e3
      subst e1 e3
      have hlen : (bs l).length = l.length * 1 := by simp [bs]
      go_wp2_with (at_builtin; refine wpList_append_lies _ rfl _ _ 22 rfl w.heap.size 5 i0 (.int .u8 0) 1 1 Try.underlying22 hi hz0 hz1 hz2 rfl (by decide) _ c (bs (dg c n)) rfl HO4.out ⟨bb, oo, none⟩ l.length k (bs l) rfl hlen (news_of_row hrow) (bs_one l) (by omega) (by unfold maxLen; omega) (by omega) HB4.out.size w4.heap.size rfl ?_; intro g cap w5 hown5 hgrow5 hat5 hlt5)
      have HB2 : Hid (Below w.heap.size w w5) := HB4.out.grown hgrow5 HB4.out.size (fun k hk => by cases hk; exact Nat.le_refl _)
      have HJ3 : Hid (IsB w5 (.slice (some ⟨g, 0, none⟩) (c + l.length) cap) (dg c n ++ l)) := by
        rw [bs_app] at hown5
        exact (buf_of_own (byt_app (dg_byt c n) hbl) (by rw [List.length_append, dg_len]) hlt5 hown5).isB (by rw [List.length_append, dg_len])
      have HI2 : Hid (IsB w5 (.slice (some ⟨bb, oo, none⟩) l.length k) l) := HI.out.below HB2.out
      clear hown5 hgrow5 hat5 hlt5 HI4 HB4 HO4 HI
      refine Calls.mono (number_is _ c _ _ HJ3.out h1 h9 (by rw [List.length_append, dg_len]; omega)) ?_
      rw [numAns_ok (by rw [List.take_left' (dg_len c n)]; exact dg_lt c n), List.take_left' (dg_len c n), nm_dg, Nat.mod_eq_of_lt HN.out]
      rintro e w7 ⟨rfl, rfl⟩
      by_cases hlc : c ≤ l.length
      · go_wp2_with fail
        refine Calls.mono (number_is _ c l _ HI2.out h1 h9 hlc) ?_
        rintro e w8 ⟨rfl, rfl⟩
        by_cases hall : ∀ x ∈ l.take c, x < 128
        · rw [numAns_ok hall]
          have hlk : (l.take c).length = c := by rw [List.length_take]; omega
          have hx := nm_lt hall
          rw [hlk] at hx
          have HDG := hd (dg_nm hall)
          rw [hlk] at HDG
          have hx2 : nm (l.take c) < 18446744073709551616 := Nat.lt_trans hx (Nat.lt_of_le_of_lt (Nat.pow_le_pow_right (by omega) h9) (by decide))
          obtain ⟨x, hxe⟩ : ∃ x, x = nm (l.take c) := ⟨_, rfl⟩
          rw [← hxe] at hx hx2 HDG ⊢
          clear hxe
          have HX := hd hx
          clear hx
          go_wp2_with fail
          refine Calls.mono (digits_ok x c _ h1 h9 hx2 HX.out) ?_
          rintro e w9 ⟨rfl, hj9, hb9⟩
          rw [HDG.out] at hj9
          have HJ9 := hd hj9.isB
          have HT9 := hd ((HI2.out.below hb9).take c hlc)
          have HB9 := hd (HB2.out.trans (hb9.mono HB2.out.size))
          clear hj9 hb9
          go_wp2_with fail
          refine Calls.mono (same_is _ _ _ _ _ HJ9.out HT9.out) ?_
          rw [decide_eq_true rfl]
          rintro e w10 ⟨rfl, m, hw10⟩
          have HB10 : Hid (Below w.heap.size w w10) := by rw [hw10]; exact below_drewN HB9.out m
          clear hw10
          go_wp2_with fail
          go_ret
          exact ⟨rfl, HB10.out⟩
        · rw [numAns_bad hall]
          go_wp2_with fail
          go_ret
          exact ⟨rfl, HB2.out⟩
      · have hlc : l.length < c := by omega
        go_wp2_with fail
        refine Calls.mono (number_short _ _ _ c _ h1 h9 hlc) ?_
        rintro e w8 ⟨rfl, rfl⟩
        go_wp2_with fail
        go_ret
        exact ⟨rfl, HB2.out⟩
theorem walk (a0 : Int) (a1 : Int) (a2 : Option Addr) (len2 cap2 : Nat) (z2 : List Int) (w : World) (w0 : (Lit.int .u64 a0).wf = true) (w1 : (Lit.int .i64 a1).wf = true) (w2 : IsRow .u8 w a2 len2 cap2 z2) (rc2 : cap2 ≤ 140737488351232) (hlc : len2 ≤ cap2) :
    Calls Try.prog 5 #[.int .u64 a0, .int .i64 a1, .slice a2 len2 cap2] w fun e w' => e = .returned (.bool true) ∧ Below w.heap.size w w' := by
  have h0 := wf_u64 w0
  obtain ⟨n, rfl⟩ : ∃ n : Nat, a0 = (n : Int) := ⟨a0.toNat, by omega⟩
  obtain ⟨l, hl, hI⟩ := w2.isB
  by_cases h : a1 < 1 ∨ 9 < a1
  · exact walkArg n a1 _ l w h hI
  · obtain ⟨c, rfl⟩ : ∃ c : Nat, a1 = (c : Int) := ⟨a1.toNat, by omega⟩
    by_cases h2 : n < 128 ^ c
    · exact walkOk n c _ l w (by omega) (by omega) (by omega) h2 hI (by omega)
    · exact walkMany n c _ l w (by omega) (by omega) (by omega) (by omega) hI
set_option linter.unusedVariables false
set_option maxRecDepth 100000 in
theorem lifted (os : Os) (started : os.Started) (H : Type) (enc : TypeId × Value → H) :
    ReturnsInHanded {} Try.checked os 5 .any (Rows.vintDigitsBackSpec.pre6 enc Try.prog Try.f5 Rows.vintDigitsBackRow.domain false) (Rows.vintDigitsBackSpec.post enc Try.prog Try.f5 false true false false) := by
  refine returnsInHanded_of_change_sized (C := Try.checked) own started (by kernel_rfl) Try.func5
    (ChangeSpec.witness6 (enc := enc) (C := Try.checked) false ⟨#[], #[.int .u64 0, .int .i64 0, .slice none 0 0], []⟩ 8 (by kernel_rfl) (by kernel_rfl) (by kernel_rfl) (by kernel_rfl)) ?_
  intro W base args ds gs before hval0 hW hcnd hsz0 _
  have hsz : (DataW.weightsEach Try.prog (Try.f5.params.toList ++ Rows.vintDigitsBackSpec.plain.varTypes Try.prog) (ds ++ gs)).all (· ≤ reachBytes) = true := hsz0
  clear hsz0
  have hval : ∀ (j : Nat) t v, Try.f5.params[j]? = some t → args[j]? = some v → Value.okWide Try.prog W .any base t v := hval0
  have hW' := hW
  obtain ⟨p, q, hA0, hV, rfl, hfz, hnd⟩ := hW
  have hA : DataW.TrodAll enc Try.prog W 0 (fun _ => true) true Try.f5.params.toList args.toList ds p := hA0
  rw [Try.params5] at hA hval hsz
  obtain ⟨v0, vs0, d0, ds0, p0, q0, hargs, rfl, rfl, h0, r0⟩ := trodAll_cons hA
  obtain ⟨v1, vs1, d1, ds1, p1, q1, rfl, rfl, rfl, h1, r1⟩ := trodAll_cons r0
  obtain ⟨v2, vs2, d2, ds2, p2, q2, rfl, rfl, rfl, h2, r2⟩ := trodAll_cons r1
  obtain ⟨rfl, rfl, rfl⟩ := trodAll_nil r2
  obtain rfl : args = #[v0, v1, v2] := by cases args; simp_all
  obtain ⟨rfl, rfl⟩ := trodVars_none hV
  obtain ⟨a0, rfl, rfl, rfl, w0⟩ := open_int Try.underlying23 (hval 0 23 v0 rfl rfl) h0
  obtain ⟨a1, rfl, rfl, rfl, w1⟩ := open_int Try.underlying3 (hval 1 3 v1 rfl rfl) h1
  obtain ⟨a2, len2, cap2, rfl⟩ := okWide_slice Try.underlying22 (hval 2 22 v2 rfl rfl)
  have k2 := h2
  have lt2 : ∀ x ∈ p2, x.block < W.heap.size := by obtain ⟨m, hm⟩ := k2; exact DataW.trod_lt m _ _ _ hm
  obtain ⟨z2, w2, rc2, hlc2⟩ : ∃ zs, IsRow .u8 W a2 len2 cap2 zs ∧ cap2 ≤ 140737488351232 ∧ len2 ≤ cap2 := by
    obtain ⟨fuel, hf⟩ := h2
    rcases open_ints Try.underlying22 Try.underlying5 (by kernel_rfl) hf with ⟨hcs, _⟩ | ⟨x, l, c, zs, hcs, _, hl, hm, hz, hx, hcell, hwz⟩
    · simp [Value.cells] at hcs
      obtain ⟨rfl, rfl, rfl⟩ := hcs
      exact ⟨[], .inl ⟨rfl, rfl, rfl, rfl⟩, by omega, by omega⟩
    · simp [Value.cells] at hcs
      obtain ⟨rfl, rfl, rfl⟩ := hcs
      have hz2 : zs.length = cap2 := by simpa using hz
      simp only [Prod.mk.injEq] at hx
      have hs := sized_slice hsz (j := 2) rfl (by rw [hx.1]; rfl) Try.underlying22
      rw [bytes_u8] at hs
      simp only [lits, List.length_map, List.length_take, List.length_drop, reachBytes] at hs
      exact ⟨zs, .inr ⟨_, rfl, hl, hm, hz2, hcell, hwz⟩, by omega, hl⟩
  clear hA0 hval0
  refine (walk a0 a1 a2 len2 cap2 z2 W w0 w1 w2 rc2 hlc2).mono fun e W' ⟨he, bel⟩ => ?_
  subst he
  exact ⟨_, rfl, _, _, _, [], _, [], hW', trodAll_mk1 (shut_bool Try.underlying4 _), (trodAll_cons_mk (shut_int Try.underlying23 w0) (trodAll_cons_mk (shut_int Try.underlying3 w1) (trodAll_cons_mk (Below.trod laidOut (by kernel_rfl) (of_decide_eq_true (by kernel_rfl)) k2 bel lt2) trodAll_mk0))), rfl, bel.frame _, fun h => by cases h⟩

theorem over : Rows.vintDigitsBackRow.holds Try.pinned (OpenSpec.ofChange Rows.vintDigitsBackSpec) :=
  OpenClaim.holds_of_wide 5 Try.f5 rfl rfl rfl rfl rfl rfl rfl ⟨rfl, rfl, rfl, rfl, rfl⟩ rfl rfl rfl rfl rfl (by kernel_rfl) Try.func5 (by kernel_rfl)
    (of_decide_eq_true (by kernel_rfl)) (by unfold Func.isWrapper; first | (rw [if_pos (by decide +kernel)]; kernel_rfl) | (rw [if_neg (by decide +kernel)]; exact ⟨rfl, rfl⟩))
    (fun os started H enc _ => lifted os started H enc)

end DigBack

theorem vintDigitsBack_holds : Rows.VintDigitsBackSaid := DigBack.over
#print axioms vintDigitsBack_holds
end Go.Proofs.Ythlmbojeiffkkaa
