/-
  PROVED: for all texts s and t, of bulk at most 1048576, the Go law EscapeJoined answers true and changes nothing that came in: wrapping goes piece by piece; two rows that are opened are opened together.
-/
import Derived.Test.YtojogadklhmkbaaE4
import Derived.Test.YtojogadklhmkbaaU1
import Derived.JoinedCond
namespace Go.Proofs.Ytojogadklhmkbaa
open Go.ChangeShapes Go.WideShapes Go.ChangeAt Go.RowKit
namespace Ejoin
open Vt
theorem both {s t : List Nat} (hs : (badB 0 s).1 = 0) (ht : (badB 0 t).1 = 0) : badB 0 (s ++ t) = (0, 0) ∧ plain (s ++ t) = plain s ++ plain t := by
  have h1 := only hs
  have h2 := only ht
  have h : s ++ t = wr (plain s ++ plain t) := by rw [wr_append, h1, h2]
  rw [h]
  exact ⟨badB_wr _ _, by rw [plain_wr]⟩
set_option maxRecDepth 100000 in
set_option maxHeartbeats 1000000 in
theorem walkB (v vt : Value) (s t : List Nat) (w : World) (hI : IsB w v s) (hT : IsB w vt t) (hm : s.length + t.length ≤ 1048576) :
    Calls Try.prog 7 #[v, vt] w fun e w' => e = .returned (.bool true) ∧ Below w.heap.size w w' := by
  obtain ⟨a, c, rfl⟩ := hI.shape
  obtain ⟨at_, ct, rfl⟩ := hT.shape
  have HI := hd hI
  have HT := hd hT
  have hws := wr_len s
  have hwt := wr_len t
  have hps := plain_len s
  have hpt := plain_len t
  clear hI hT
  go_enter Try.func7, Try.ntmps7
  go_wp2_with fail
  refine Calls.mono (awake_is w) ?_
  rintro e w1 ⟨rfl, hb1⟩
  have HB1 := hd hb1
  have HI1 := hd (HI.out.below hb1)
  have HT1 := hd (HT.out.below hb1)
  clear hb1 HI HT
  have tok1 : True := trivial
  go_wp2_with (first
    | (at_builtin; have _t := tok1; refine wpList_append_jb _ rfl _ _ rfl w1.heap.size (.slice none 0 0) (.slice a s.length c) [] s rfl rfl (jb_nil _ _) HI1.out s.length (by simp) s rfl (by omega) (Nat.le_refl _) ?_; intro a2 c2 w2 hj2 hg2 hc2; clear tok1; have tok2 : True := trivial; have hb2 := (jb_nil w1 w1.heap.size).grown (Below.refl w1.heap.size w1) (Nat.le_refl _) (Nat.le_refl _) hg2)
    | (at_builtin; have _t := tok2; refine wpList_append_jb _ rfl _ _ rfl w1.heap.size (.slice a2 s.length c2) (.slice at_ t.length ct) s t rfl rfl hj2 (HT1.out.below hb2) (s.length + t.length) rfl (s ++ t) rfl (by omega) hb2.size ?_; intro a3 c3 w3 hj3 hg3 hc3; clear tok2))
  have hb3 := hj2.grown hb2 (Nat.le_refl _) hb2.size hg3
  have HB3 := hd (HB1.out.trans (hb3.mono HB1.out.size))
  have HB3s := HB3
  have HI3 := hd (HI1.out.below hb3)
  have HT3 := hd (HT1.out.below hb3)
  have HA3 := hd hj3.isB
  clear hj2 hg2 hc2 hb2 hj3 hg3 hc3 hb3 HB1 HI1 HT1
  refine Calls.mono (wrap_is _ s w3 HI3.out (by omega)) ?_
  rintro e w4 ⟨rfl, hj4, hb4⟩
  have HB4 := hd (HB3.out.trans (hb4.mono HB3.out.size))
  have HI4 := hd (HI3.out.below hb4)
  have HT4 := hd (HT3.out.below hb4)
  have HA4 := hd (HA3.out.below hb4)
  have HJ4 := hd hj4
  have HL4 := hd hj4.buf.2.2.1
  have HG4 := hd hb4
  clear hj4 hb4 HB3
  go_wp2_with fail
  refine Calls.mono (wrap_is _ t w4 HT4.out (by omega)) ?_
  rintro e w5 ⟨rfl, hj5, hb5⟩
  have HB5 := hd (HB4.out.trans (hb5.mono HB4.out.size))
  have HI5 := hd (HI4.out.below hb5)
  have HT5 := hd (HT4.out.below hb5)
  have HA5 := hd (HA4.out.below hb5)
  have HJ5 := hd (HJ4.out.below HL4.out hb5)
  have HK5 := hd hj5.isB
  have HG5 : Hid (Below w3.heap.size w3 w5) := HG4.out.trans (hb5.mono HG4.out.size)
  have HL5 := hd hj5.buf.2.2.1
  clear hj5 hb5 HB4 HI4 HT4 HJ4 HG4
  go_wp2_with fail
  refine Calls.mono (wrap_is _ (s ++ t) w5 HA5.out (by rw [List.length_append]; omega)) ?_
  rintro e w6 ⟨rfl, hj6, hb6⟩
  rw [wr_append, List.length_append] at hj6 ⊢
  have HB6 := hd (HB5.out.trans (hb6.mono HB5.out.size))
  have HI6 := hd (HI5.out.below hb6)
  have HT6 := hd (HT5.out.below hb6)
  have HA6 := hd (HA5.out.below hb6)
  have HJ6 := hd (HJ5.out.keepAll hb6)
  have HK6 := hd (HK5.out.below hb6)
  have HC6 := hd hj6.isB
  have HG6 : Hid (Below w3.heap.size w3 w6) := HG5.out.trans (hb6.mono HG5.out.size)
  clear hj6 hb6 HB5 HI5 HT5 HA5 HJ5 HK5 HG5
  go_wp2_with (at_builtin; refine wpList_append_jb _ rfl _ _ rfl w3.heap.size _ _ (wr s) (wr t) rfl rfl HJ6.out HK6.out ((wr s).length + (wr t).length) rfl (wr s ++ wr t) rfl (by omega) (Nat.le_of_lt HJ6.out.buf.2.2.1) ?_; intro a7 c7 w7 hj7 hg7 hc7)
  have HG7 := hd (HJ6.out.grown HG6.out (Nat.le_refl _) HG6.out.size hg7)
  have HI7 := hd (HI3.out.below HG7.out)
  have HT7 := hd (HT3.out.below HG7.out)
  have HA7 := hd (HA3.out.below HG7.out)
  have HC7 := hd (HC6.out.grown hg7 (by
    intro b off n c e
    injection e with e1
    injection e1 with e1
    injection e1 with e1
    have := HL4.out
    have := HL5.out
    show some b ≠ some w3.heap.size
    intro h
    injection h
    omega))
  have HD7 := hd hj7.isB
  have HB7 : Hid (Below w.heap.size w w7) := HJ6.out.grown HB6.out (Nat.le_trans HB3s.out.size (Nat.le_refl _)) HB6.out.size hg7
  clear HI3 HT3 HA3 HG6 hj7 hg7 hc7 HI6 HT6 HA6 HJ6 HK6 HC6 HB6
  refine Calls.mono (esame_is _ _ _ _ w7 HC7.out HD7.out) ?_
  rw [decide_eq_true rfl]
  rintro e w8 ⟨rfl, rfl⟩
  clear HC7 HD7
  go_wp2_with fail
  refine Calls.mono (open_is _ s w8 HI7.out (by omega)) ?_
  rintro e w9 ⟨u9, rfl, hj9, hb9⟩
  have HB9 := hd (HB7.out.trans (hb9.mono HB7.out.size))
  have HBS := hd hb9.size
  have HB8 := hd HB7.out.size
  have HT9 := hd (HT7.out.below hb9)
  have HA9 := hd (HA7.out.below hb9)
  have HJ9 := hd hj9
  have HL9 := hd hj9.blk_lt
  clear hb9 hj9 HB7 HT7 HA7 HI7
  go_wp2_with fail
  refine Calls.mono (open_is _ t w9 HT9.out (by omega)) ?_
  rintro e w10 ⟨u10, rfl, hj10, hb10⟩
  have HB10 := hd (HB9.out.trans (hb10.mono HB9.out.size))
  have HA10 := hd (HA9.out.below hb10)
  have HJ10 := hd (HJ9.out.keepAll hb10)
  have HK10 := hd hj10
  have HS10 := hd hb10.size
  clear hb10 hj10 HB9 HT9 HA9 HJ9
  go_wp2_with fail
  refine Calls.mono (open_is _ (s ++ t) w10 HA10.out (by rw [List.length_append]; omega)) ?_
  rintro e w11 ⟨u11, rfl, hj11, hb11⟩
  have HB11 := hd (HB10.out.trans (hb11.mono HB10.out.size))
  have HJ11 := hd (HJ10.out.keepAll hb11)
  have HB11s : Hid (w9.heap.size ≤ w11.heap.size) := Nat.le_trans HS10.out hb11.size
  have HK11 := hd (HK10.out.keepAll hb11)
  have HL11 := hd hj11
  clear hb11 hj11 HB10 HA10 HJ10 HK10
  by_cases hs : (badB 0 s).1 = 0
  · by_cases ht : (badB 0 t).1 = 0
    · have hos : opn s = plain s := by unfold opn; rw [if_pos hs]
      have hot : opn t = plain t := by unfold opn; rw [if_pos ht]
      obtain ⟨hb0, hpl⟩ := both hs ht
      have hol : opn (s ++ t) = plain s ++ plain t := by unfold opn; rw [hb0, if_pos rfl, hpl]
      rw [badB_zero hs, badB_zero ht, hb0]
      rw [hos] at HJ11
      rw [hot] at HK11
      rw [hol] at HL11
      obtain ⟨a9, c9, e9, _⟩ := HJ11.out.shape
      obtain ⟨a10, c10, e10, _⟩ := HK11.out.shape
      obtain ⟨a11, c11, e11, _⟩ := HL11.out.shape
      clear hos hot hb0 hpl hol hs ht
      subst e9 e10 e11
      go_wp2_with (at_builtin; refine wpList_append_jbG _ rfl _ _ rfl w8.heap.size _ _ (plain s) (plain t) rfl rfl HJ11.out HK11.out.isB ((plain s).length + (plain t).length) rfl (plain s ++ plain t) rfl (by omega) (Nat.le_trans HBS.out HB11s.out) ?_; intro a12 c12 w12 hj12 hg12 hc12)
      have HC12 : Hid (IsB w12 (.slice a11 ((plain s).length + (plain t).length) c11) (plain s ++ plain t)) := by
        have := HL11.out.isB
        rw [List.length_append] at this
        refine this.grown hg12 ?_
        intro b off n c e h
        have h1 := HL9.out b h.symm
        have h2 := HL11.out.blk_ge b off n c (by rw [List.length_append]; exact e)
        have := HS10.out
        omega
      have HD12 := hd hj12.isB
      have HB12 : Hid (Below w.heap.size w w12) := HJ11.out.grown HB11.out HB8.out HB11.out.size hg12
      clear hj12 hg12 hc12 HL11 HJ11 HK11 HB11
      refine Calls.mono (esame_is _ _ _ _ w12 HC12.out HD12.out) ?_
      rw [decide_eq_true rfl]
      rintro e w13 ⟨rfl, rfl⟩
      clear HC12 HD12
      go_wp2_with fail
      go_ret
      exact ⟨rfl, HB12.out⟩
    · have ht2 : (((badB 0 t).1 : Int) == 0) = false := by simp; omega
      have hs2 : (((badB 0 s).1 : Int) == 0) = true := by simp; omega
      clear ht hs
      generalize (badB 0 t).1 = p1 at *
      generalize (badB 0 s).1 = p2 at *
      go_wp2_with fail
      go_ret
      exact ⟨rfl, HB11.out⟩
  · have hs2 : (((badB 0 s).1 : Int) == 0) = false := by simp; omega
    clear hs
    generalize (badB 0 s).1 = p2 at *
    go_wp2_with fail
    go_ret
    exact ⟨rfl, HB11.out⟩
theorem walk (a0 : Option Addr) (len0 cap0 : Nat) (z0 : List Int) (a1 : Option Addr) (len1 cap1 : Nat) (z1 : List Int) (w : World) (w0 : IsRow .u8 w a0 len0 cap0 z0) (w1 : IsRow .u8 w a1 len1 cap1 z1) (hm : len0 + len1 ≤ 1048576) :
    Calls Try.prog 7 #[.slice a0 len0 cap0, .slice a1 len1 cap1] w fun e w' => e = .returned (.bool true) ∧ Below w.heap.size w w' := by
  obtain ⟨l, hl, hI⟩ := w0.isB
  obtain ⟨t, ht, hT⟩ := w1.isB
  exact walkB _ _ l t w hI hT (by omega)
/-- numbers weigh one each -/
theorem lits_bulk {H : Type} (k : IntKind) (zs : List Int) : zs.length ≤ Rows.uptoBulkAll (lits (H := H) k zs) := by
  induction zs with
  | nil => exact Nat.zero_le _
  | cons z r ih =>
    rw [show lits (H := H) k (z :: r) = .lit (.int k z) :: lits k r from rfl]
    simp only [Rows.uptoBulkAll, Rows.uptoBulk, List.length_cons]
    omega
set_option linter.unusedVariables false
set_option maxRecDepth 100000 in
theorem lifted (os : Os) (started : os.Started) (H : Type) (enc : TypeId × Value → H) (F : Stop.Interp) :
    ReturnsInHanded {} Try.checked os 7 .any ((Rows.OpenSpec.upto Rows.escapeJoinedSpec).pre6 enc Try.prog Try.f7 Rows.escapeJoinedUptoRow.domain false) (((Rows.OpenSpec.upto Rows.escapeJoinedSpec).at F).post enc Try.prog Try.f7 false true false false) := by
  refine returnsInHanded_of_cond (C := Try.checked) (s := Rows.OpenSpec.upto Rows.escapeJoinedSpec) (k := Rows.uptoSmall) rfl own started (by kernel_rfl) Try.func7
    (OpenSpec.witness (enc := enc) (C := Try.checked) (s := Rows.OpenSpec.upto Rows.escapeJoinedSpec) (k := Rows.uptoSmall) rfl false ⟨#[], #[.slice none 0 0, .slice none 0 0], []⟩ 8 (by kernel_rfl) (by kernel_rfl) (by kernel_rfl)
      (x := ([.nil, .nil], [], [])) (by kernel_rfl) rfl (by kernel_rfl)) ?_
  intro W base args ds gs before hval0 hW _ hk0 _
  have hk : Rows.uptoBulkAll (ds ++ gs) ≤ 1048576 := of_decide_eq_true hk0
  clear hk0
  have hval : ∀ (j : Nat) t v, Try.f7.params[j]? = some t → args[j]? = some v → Value.okWide Try.prog W .any base t v := hval0
  have hW' := hW
  obtain ⟨p, q, hA0, hV, rfl, hfz, hnd⟩ := hW
  have hA : DataW.TrodAll enc Try.prog W 0 (fun _ => true) true Try.f7.params.toList args.toList ds p := hA0
  rw [Try.params7] at hA hval
  obtain ⟨v0, vs0, d0, ds0, p0, q0, hargs, rfl, rfl, h0, r0⟩ := trodAll_cons hA
  obtain ⟨v1, vs1, d1, ds1, p1, q1, rfl, rfl, rfl, h1, r1⟩ := trodAll_cons r0
  obtain ⟨rfl, rfl, rfl⟩ := trodAll_nil r1
  obtain rfl : args = #[v0, v1] := by cases args; simp_all
  obtain ⟨rfl, rfl⟩ := trodVars_none hV
  have opens_u8 : ∀ (v : Value) (d : DataW H) (pl : List MemPlace) (a : Option Addr) (len cap : Nat), v = .slice a len cap → DataW.Trod enc Try.prog W 0 (fun _ => true) true 22 v d pl → ∃ zs, IsRow .u8 W a len cap zs ∧ len ≤ Rows.uptoBulk d := by
    rintro v d pl a len cap rfl ⟨fuel, hf⟩
    rcases open_ints Try.underlying22 Try.underlying5 (by kernel_rfl) hf with ⟨hcs, _⟩ | ⟨x, l, c, zs, hcs, _, hl, hm, hz, hx, hcell, hwz⟩
    · simp [Value.cells] at hcs
      obtain ⟨rfl, rfl, rfl⟩ := hcs
      exact ⟨[], .inl ⟨rfl, rfl, rfl, rfl⟩, by omega⟩
    · simp [Value.cells] at hcs
      obtain ⟨rfl, rfl, rfl⟩ := hcs
      have hz2 : zs.length = cap := by simpa using hz
      simp only [Prod.mk.injEq] at hx
      refine ⟨zs, .inr ⟨_, rfl, hl, hm, hz2, hcell, hwz⟩, ?_⟩
      rw [hx.1]
      have h1 := lits_bulk (H := H) .u8 (zs.take len)
      rw [List.length_take] at h1
      simp only [Rows.uptoBulk]
      omega
  obtain ⟨a0, len0, cap0, rfl⟩ := okWide_slice Try.underlying22 (hval 0 22 v0 rfl rfl)
  obtain ⟨a1, len1, cap1, rfl⟩ := okWide_slice Try.underlying22 (hval 1 22 v1 rfl rfl)
  have k0 := h0
  have k1 := h1
  have lt0 : ∀ x ∈ p0, x.block < W.heap.size := by obtain ⟨m, hm⟩ := k0; exact DataW.trod_lt m _ _ _ hm
  have lt1 : ∀ x ∈ p1, x.block < W.heap.size := by obtain ⟨m, hm⟩ := k1; exact DataW.trod_lt m _ _ _ hm
  obtain ⟨z0, w0, b0⟩ := opens_u8 _ d0 p0 a0 len0 cap0 rfl h0
  obtain ⟨z1, w1, b1⟩ := opens_u8 _ d1 p1 a1 len1 cap1 rfl h1
  have hm : len0 + len1 ≤ 1048576 := by
    simp only [List.cons_append, Rows.uptoBulkAll] at hk
    omega
  clear hA0 hval0
  refine (walk a0 len0 cap0 z0 a1 len1 cap1 z1 W w0 w1 hm).mono fun e W' ⟨he, bel⟩ => ?_
  subst he
  exact ⟨_, rfl, _, _, _, [], _, [], hW', trodAll_mk1 (shut_bool Try.underlying4 _), (trodAll_cons_mk (Below.trod laidOut (by kernel_rfl) (of_decide_eq_true (by kernel_rfl)) k0 bel lt0) (trodAll_cons_mk (Below.trod laidOut (by kernel_rfl) (of_decide_eq_true (by kernel_rfl)) k1 bel lt1) trodAll_mk0)), rfl, bel.frame _, fun h => by cases h⟩
theorem over : Rows.EscapeJoinedUptoSaid :=
  OpenClaim.holds_of_cond 7 Try.f7 rfl rfl rfl rfl rfl rfl rfl ⟨rfl, rfl, rfl, rfl, rfl⟩ rfl rfl rfl rfl rfl (by kernel_rfl) Try.func7 (by kernel_rfl)
    (of_decide_eq_true (by kernel_rfl)) (by unfold Func.isWrapper; first | (rw [if_pos (by decide +kernel)]; kernel_rfl) | (rw [if_neg (by decide +kernel)]; exact ⟨rfl, rfl⟩))
    (fun os started H enc _ F => lifted os started H enc F)
end Ejoin

theorem escapeJoined_upto : Rows.EscapeJoinedUptoSaid := Ejoin.over
#print axioms escapeJoined_upto
end Go.Proofs.Ytojogadklhmkbaa
