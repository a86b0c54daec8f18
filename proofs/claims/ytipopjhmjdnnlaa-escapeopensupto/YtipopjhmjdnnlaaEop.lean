/-
  PROVED: for all texts s, other (of up to 1048576 bytes together) the Go law EscapeOpens answers true and changes nothing that came in: Open is as the document says; the lists that came out are their owner's.
-/
import Derived.Test.YtipopjhmjdnnlaaBk8
namespace Go.Proofs.Ytipopjhmjdnnlaa
open Go.ChangeShapes Go.WideShapes Go.ChangeAt Go.RowKit
namespace Eop
open Vt Ow
set_option maxRecDepth 100000 in
set_option maxHeartbeats 4000000 in
theorem walkB (v vt : Value) (l t : List Nat) (w : World) (hI : IsB w v l) (hT : IsB w vt t) (hm : l.length + t.length ≤ 1048576) :
    Calls Try.prog 3 #[v, vt] w fun e w' => e = .returned (.bool true) ∧ Below w.heap.size w w' := by
  have HI := hd hI
  have HT := hd hT
  obtain ⟨a, c, rfl⟩ := hI.shape
  obtain ⟨at_, ct, rfl⟩ := hT.shape
  clear hI hT
  obtain ⟨N, hN⟩ : ∃ N, N = w.heap.size := ⟨_, rfl⟩
  have HN := hd hN
  have HB0 : Hid (BK (w.alloc (.cells #[.int .u8 0, .slice none 0 0, .slice none 0 0] TB)) N N 0 (.slice none 0 0) (.slice none 0 0) [] []) := by
    rw [hN]
    exact ⟨Blk.new w TB [.int .u8 0, .slice none 0 0, .slice none 0 0], jp_nil _ _, jp_nil _ _, (fun p hp => by cases hp), (fun i j p q g _ hp => by simp at hp), (fun p hp => by cases hp), (fun p hp => by cases hp)⟩
  have HW0 : Hid (Below N w (w.alloc (.cells #[.int .u8 0, .slice none 0 0, .slice none 0 0] TB))) := (Below.refl _ _).alloc (by omega) _
  rw [← hN]
  clear hN
  go_enter Try.func3, Try.ntmps3
  go_wp2_with fail
  rw [← HN.out]
  obtain ⟨w0, hw0⟩ : ∃ w0, w0 = w.alloc (.cells #[.int .u8 0, .slice none 0 0, .slice none 0 0] TB) := ⟨_, rfl⟩
  rw [← hw0] at HB0 HW0
  rw [← hw0]
  clear hw0
  refine Calls.mono (bopen_is N N 0 _ _ _ [] [] l w0 HB0.out (Nat.le_refl _) (HI.out.below (HN.out ▸ HW0.out)) (by simp) (by omega)) ?_
  rintro e w1 ⟨rfl, ⟨VH1, ad1, hk1, hl1, hp1⟩, hb1⟩
  have HB1 := hd hk1
  have HL1 := hd hl1
  have HP1 := hd hp1
  have HW1 := hd (HW0.out.trans hb1)
  clear hk1 hl1 hp1 hb1 HB0 HW0
  go_wp2_with fail
  refine Calls.mono (bopen_is N N 0 _ _ _ ([] ++ ad1) [] t w1 HB1.out (Nat.le_refl _) (HT.out.below (HN.out ▸ HW1.out)) (by simp [HL1.out]) (by omega)) ?_
  rintro e w2 ⟨rfl, ⟨VH2, ad2, hk2, hl2, hp2⟩, hb2⟩
  have HB2 := hd hk2
  have HL2 := hd hl2
  have HP2 := hd hp2
  have HW2 := hd (HW1.out.trans hb2)
  clear hk2 hl2 hp2 hb2 HB1 HW1
  go_wp2_with fail
  refine Calls.mono (bopen_is N N 0 _ _ _ ([] ++ ad1 ++ ad2) [] l w2 HB2.out (Nat.le_refl _) (HI.out.below (HN.out ▸ HW2.out)) (by simp [HL1.out, HL2.out]) (by omega)) ?_
  rintro e w3 ⟨rfl, ⟨VH3, ad3, hk3, hl3, hp3⟩, hb3⟩
  have HB3 := hd hk3
  have HL3 := hd hl3
  have HP3 := hd hp3
  have HW3 := hd (HW2.out.trans hb3)
  clear hk3 hl3 hp3 hb3 HB2 HW2
  go_wp2_with fail
  obtain ⟨wa, hwa⟩ : ∃ wa, wa = w3.alloc (.cells #[.int .u8 97, .int .u8 166, .int .u8 1, .int .u8 0] E8) := ⟨_, rfl⟩
  have HILwa : Hid (IsB wa (.slice (some ⟨w3.heap.size, 0, none⟩) 4 4) [97, 166, 1, 0]) := by rw [hwa]; exact lit_isK .u8 256 w3 #[.int .u8 97, .int .u8 166, .int .u8 1, .int .u8 0] 5 [97, 166, 1, 0] 4 rfl rfl (by decide) (by decide)
  have HBwa : Hid (BK wa N N 0 VH3 (.slice none 0 0) ([] ++ ad1 ++ ad2 ++ ad3) []) := by rw [hwa]; exact HB3.out.keep ((Below.refl _ _).alloc (Nat.le_refl _) _)
  have HWwa : Hid (Below N w wa) := by
    rw [hwa]
    exact HW3.out.alloc (by have := HB3.out.box.lt; omega) _
  rw [← hwa]
  clear hwa HB3 HW3
  refine Calls.mono (bopen_is N N 0 _ _ _ ([] ++ ad1 ++ ad2 ++ ad3) [] [97, 166, 1, 0] wa HBwa.out (Nat.le_refl _) HILwa.out (by simp [HL1.out, HL2.out, HL3.out]) (by decide)) ?_
  rintro e w4 ⟨rfl, ⟨VH4, ad4, hk4, hl4, hp4⟩, hb4⟩
  have HB4 := hd hk4
  have HL4 := hd hl4
  have HP4 := hd hp4
  have HW4 := hd (HWwa.out.trans hb4)
  clear hk4 hl4 hp4 hb4 HBwa HWwa HILwa
  go_wp2_with fail
  obtain ⟨wb, hwb⟩ : ∃ wb, wb = w4.alloc (.cells #[.int .u8 166, .int .u8 166, .int .u8 0] E8) := ⟨_, rfl⟩
  have HILwb : Hid (IsB wb (.slice (some ⟨w4.heap.size, 0, none⟩) 3 3) [166, 166, 0]) := by rw [hwb]; exact lit_isK .u8 256 w4 #[.int .u8 166, .int .u8 166, .int .u8 0] 5 [166, 166, 0] 3 rfl rfl (by decide) (by decide)
  have HBwb : Hid (BK wb N N 0 VH4 (.slice none 0 0) ([] ++ ad1 ++ ad2 ++ ad3 ++ ad4) []) := by rw [hwb]; exact HB4.out.keep ((Below.refl _ _).alloc (Nat.le_refl _) _)
  have HWwb : Hid (Below N w wb) := by
    rw [hwb]
    exact HW4.out.alloc (by have := HB4.out.box.lt; omega) _
  rw [← hwb]
  clear hwb HB4 HW4
  refine Calls.mono (bopen_is N N 0 _ _ _ ([] ++ ad1 ++ ad2 ++ ad3 ++ ad4) [] [166, 166, 0] wb HBwb.out (Nat.le_refl _) HILwb.out (by simp [HL1.out, HL2.out, HL3.out, HL4.out]) (by decide)) ?_
  rintro e w4b ⟨rfl, ⟨VH4b, ad4b, hk4, hl4, hp4⟩, hb4⟩
  have HW4 := hd (HWwb.out.trans hb4)
  obtain ⟨hs, hhs⟩ : ∃ hs, hs = [] ++ ad1 ++ ad2 ++ ad3 ++ ad4 ++ ad4b := ⟨_, rfl⟩
  have HHS : Hid (hs.length = 15) := by show hs.length = 15; rw [hhs]; simp [HL1.out, HL2.out, HL3.out, HL4.out, hl4]
  have HPS : Hid (∀ p ∈ hs, p.2.length ≤ 130000000000000) := by
    intro p hp
    rw [hhs] at hp
    simp only [List.nil_append, List.mem_append] at hp
    rcases hp with (((hp | hp) | hp) | hp) | hp
    · exact HP1.out p hp
    · exact HP2.out p hp
    · exact HP3.out p hp
    · exact HP4.out p hp
    · exact hp4 p hp
  rw [← hhs] at hk4
  have HB4 := hd hk4
  clear hk4 hl4 hp4 hb4 HBwb HWwb hhs HILwb
  go_wp2_with fail
  refine Calls.mono (settle_is N N 0 _ _ hs [] w4b HB4.out (Nat.le_refl _) (by simp) (by rw [HHS.out]; omega) HPS.out) ?_
  rintro e w5 ⟨rfl, ⟨VA5, al5, hk5, hl5⟩, hb5⟩
  have HB5 : Hid (BK w5 N N 15 (.slice none 0 0) VA5 [] al5) := by rw [HHS.out] at hk5; exact hk5
  have HL5 : Hid (al5.length = 45) := by rw [HHS.out] at hl5; show al5.length = 45; simpa using hl5
  have HW5 := hd (HW4.out.trans hb5)
  clear hk5 hl5 hb5 HB4 HW4
  go_wp2_with fail
  refine Calls.mono (bopen_is N N 15 _ _ _ [] al5 l w5 HB5.out (Nat.le_refl _) (HI.out.below (HN.out ▸ HW5.out)) (by simp) (by omega)) ?_
  rintro e w6 ⟨rfl, ⟨VH6, ad6, hk6, hl6, hp6⟩, hb6⟩
  have HB6 := hd hk6
  have HL6 := hd hl6
  have HP6 := hd hp6
  have HW6 := hd (HW5.out.trans hb6)
  clear hk6 hl6 hp6 hb6 HB5 HW5
  go_wp2_with fail
  refine Calls.mono (settle_is N N 15 _ _ ([] ++ ad6) al5 w6 HB6.out (Nat.le_refl _) (by rw [HL5.out]; omega) (by simp [HL6.out]) (fun p hp => HP6.out p (by simpa using hp))) ?_
  rintro e w7 ⟨rfl, ⟨VA7, al7, hk7, hl7⟩, hb7⟩
  have HB7 := hd hk7
  have HL7 : Hid (al7.length = 54) := by show _ = _; rw [hl7, HL5.out]; simp [HL6.out]
  have HW7 := hd (HW6.out.trans hb7)
  clear hk7 hl7 hb7 HB6 HW6
  go_wp2_with fail
  refine Calls.mono (dry_is N N _ _ _ [] al7 w7 HB7.out (by rw [HL7.out]; omega)) ?_
  rintro e w8 ⟨rfl, hb8⟩
  have HW8 : Hid (Below N w w8) := HW7.out.trans (hb8.mono (by have := HB7.out.box.lt; omega))
  clear hb8 HB7 HW7
  go_wp2_with fail
  go_ret
  exact ⟨rfl, HW8.out⟩
theorem walk (a0 : Option Addr) (len0 cap0 : Nat) (z0 : List Int) (a1 : Option Addr) (len1 cap1 : Nat) (z1 : List Int) (w : World) (w0 : IsRow .u8 w a0 len0 cap0 z0) (w1 : IsRow .u8 w a1 len1 cap1 z1) (hm : len0 + len1 ≤ 1048576) :
    Calls Try.prog 3 #[.slice a0 len0 cap0, .slice a1 len1 cap1] w fun e w' => e = .returned (.bool true) ∧ Below w.heap.size w w' := by
  obtain ⟨l, hl, hI⟩ := w0.isB
  obtain ⟨t, ht, hT⟩ := w1.isB
  exact walkB _ _ l t w hI hT (by omega)
/-- numbers weigh one each -/
theorem lits_bulk {H : Type} (k : IntKind) (zs : List Int) : zs.length ≤ Rows.uptoBulkAll (lits (H := H) k zs) := by
  induction zs with
  | nil => exact Nat.zero_le _
  | cons z r ih =>
    rw [show lits (H := H) k (z :: r) = .lit (.int k z) :: lits k r from rfl]
    simp only [Rows.uptoBulkAll, Rows.uptoBulk, List.length_cons]
    omega
set_option linter.unusedVariables false
set_option maxRecDepth 100000 in
theorem lifted (os : Os) (started : os.Started) (H : Type) (enc : TypeId × Value → H) (F : Stop.Interp) :
    ReturnsInHanded {} Try.checked os 3 .any ((Rows.OpenSpec.upto Rows.escapeOpensSpec).pre6 enc Try.prog Try.f3 Rows.escapeOpensUptoRow.domain false) (((Rows.OpenSpec.upto Rows.escapeOpensSpec).at F).post enc Try.prog Try.f3 false true false false) := by
  refine returnsInHanded_of_cond (C := Try.checked) (s := Rows.OpenSpec.upto Rows.escapeOpensSpec) (k := Rows.uptoSmall) rfl own started (by kernel_rfl) Try.func3
    (OpenSpec.witness (enc := enc) (C := Try.checked) (s := Rows.OpenSpec.upto Rows.escapeOpensSpec) (k := Rows.uptoSmall) rfl false ⟨#[], #[.slice none 0 0, .slice none 0 0], []⟩ 8 (by kernel_rfl) (by kernel_rfl) (by kernel_rfl)
      (x := ([.nil, .nil], [], [])) (by kernel_rfl) rfl (by kernel_rfl)) ?_
  intro W base args ds gs before hval0 hW _ hk0 _
  have hk : Rows.uptoBulkAll (ds ++ gs) ≤ 1048576 := of_decide_eq_true hk0
  clear hk0
  have hval : ∀ (j : Nat) t v, Try.f3.params[j]? = some t → args[j]? = some v → Value.okWide Try.prog W .any base t v := hval0
  have hW' := hW
  obtain ⟨p, q, hA0, hV, rfl, hfz, hnd⟩ := hW
  have hA : DataW.TrodAll enc Try.prog W 0 (fun _ => true) true Try.f3.params.toList args.toList ds p := hA0
  rw [Try.params3] at hA hval
  obtain ⟨v0, vs0, d0, ds0, p0, q0, hargs, rfl, rfl, h0, r0⟩ := trodAll_cons hA
  obtain ⟨v1, vs1, d1, ds1, p1, q1, rfl, rfl, rfl, h1, r1⟩ := trodAll_cons r0
  obtain ⟨rfl, rfl, rfl⟩ := trodAll_nil r1
  obtain rfl : args = #[v0, v1] := by cases args; simp_all
  obtain ⟨rfl, rfl⟩ := trodVars_none hV
  have opens_u8 : ∀ (v : Value) (d : DataW H) (pl : List MemPlace) (a : Option Addr) (len cap : Nat), v = .slice a len cap → DataW.Trod enc Try.prog W 0 (fun _ => true) true 22 v d pl → ∃ zs, IsRow .u8 W a len cap zs ∧ len ≤ Rows.uptoBulk d := by
    rintro v d pl a len cap rfl ⟨fuel, hf⟩
    rcases open_ints Try.underlying22 Try.underlying5 (by kernel_rfl) hf with ⟨hcs, _⟩ | ⟨x, l, c, zs, hcs, _, hl, hm, hz, hx, hcell, hwz⟩
    · simp [Value.cells] at hcs
      obtain ⟨rfl, rfl, rfl⟩ := hcs
      exact ⟨[], .inl ⟨rfl, rfl, rfl, rfl⟩, by omega⟩
    · simp [Value.cells] at hcs
      obtain ⟨rfl, rfl, rfl⟩ := hcs
      have hz2 : zs.length = cap := by simpa using hz
      simp only [Prod.mk.injEq] at hx
      refine ⟨zs, .inr ⟨_, rfl, hl, hm, hz2, hcell, hwz⟩, ?_⟩
      rw [hx.1]
      have h1 := lits_bulk (H := H) .u8 (zs.take len)
      rw [List.length_take] at h1
      simp only [Rows.uptoBulk]
      omega
  obtain ⟨a0, len0, cap0, rfl⟩ := okWide_slice Try.underlying22 (hval 0 22 v0 rfl rfl)
  obtain ⟨a1, len1, cap1, rfl⟩ := okWide_slice Try.underlying22 (hval 1 22 v1 rfl rfl)
  have k0 := h0
  have k1 := h1
  have lt0 : ∀ x ∈ p0, x.block < W.heap.size := by obtain ⟨m, hm⟩ := k0; exact DataW.trod_lt m _ _ _ hm
  have lt1 : ∀ x ∈ p1, x.block < W.heap.size := by obtain ⟨m, hm⟩ := k1; exact DataW.trod_lt m _ _ _ hm
  obtain ⟨z0, w0, b0⟩ := opens_u8 _ d0 p0 a0 len0 cap0 rfl h0
  obtain ⟨z1, w1, b1⟩ := opens_u8 _ d1 p1 a1 len1 cap1 rfl h1
  have hm : len0 + len1 ≤ 1048576 := by
    simp only [List.cons_append, Rows.uptoBulkAll] at hk
    omega
  clear hA0 hval0
  refine (walk a0 len0 cap0 z0 a1 len1 cap1 z1 W w0 w1 hm).mono fun e W' ⟨he, bel⟩ => ?_
  subst he
  exact ⟨_, rfl, _, _, _, [], _, [], hW', trodAll_mk1 (shut_bool Try.underlying4 _), (trodAll_cons_mk (Below.trod laidOut (by kernel_rfl) (of_decide_eq_true (by kernel_rfl)) k0 bel lt0) (trodAll_cons_mk (Below.trod laidOut (by kernel_rfl) (of_decide_eq_true (by kernel_rfl)) k1 bel lt1) trodAll_mk0)), rfl, bel.frame _, fun h => by cases h⟩
theorem over : Rows.EscapeOpensUptoSaid :=
  OpenClaim.holds_of_cond 3 Try.f3 rfl rfl rfl rfl rfl rfl rfl ⟨rfl, rfl, rfl, rfl, rfl⟩ rfl rfl rfl rfl rfl (by kernel_rfl) Try.func3 (by kernel_rfl)
    (of_decide_eq_true (by kernel_rfl)) (by unfold Func.isWrapper; first | (rw [if_pos (by decide +kernel)]; kernel_rfl) | (rw [if_neg (by decide +kernel)]; exact ⟨rfl, rfl⟩))
    (fun os started H enc _ F => lifted os started H enc F)
end Eop

theorem escapeOpens_upto : Rows.EscapeOpensUptoSaid := Eop.over
#print axioms escapeOpens_upto
end Go.Proofs.Ytipopjhmjdnnlaa
