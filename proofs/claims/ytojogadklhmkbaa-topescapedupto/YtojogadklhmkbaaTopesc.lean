/-
  PROVED: for all texts a and numbers l, of bulk at most 1048576, the Go law TopEscaped answers true and changes nothing that came in: no lead byte is left, and nothing is lost.
-/
import Derived.Test.YtojogadklhmkbaaE5
import Derived.Test.YtojogadklhmkbaaJ1
import Derived.Test.YtojogadklhmkbaaV5
import Derived.JoinedCond
namespace Go.Proofs.Ytojogadklhmkbaa
open Go.ChangeShapes Go.WideShapes Go.ChangeAt Go.RowKit
namespace Topesc
open Vt
theorem nxt_wr (l : List Nat) : nxt (wr l) 0 = (wr l).length := by
  unfold nxt frm nx
  simp only [Int.toNat_zero, Nat.zero_min, List.drop_zero, Nat.zero_add]
  rw [List.findIdx_eq_length]
  intro x hx
  rw [beq_eq_false_iff_ne]; exact wr_no l x hx
theorem bad_lead (l : List Nat) : badB 0 (wr l ++ [167]) = (31, (wr l).length) := by
  rw [(part_bad (p := l) (r := [167]) (by simp) (by decide)).2]; rfl
set_option maxRecDepth 100000 in
set_option maxHeartbeats 2000000 in
theorem walkB (v u : Value) (s l : List Nat) (w : World) (hI : IsB w v s) (hN : IsN w u l) (hm : s.length + l.length ≤ 1048576) :
    Calls Try.prog 12 #[v, u] w fun e w' => e = .returned (.bool true) ∧ Below w.heap.size w w' := by
  obtain ⟨a, c, rfl⟩ := hI.shape
  obtain ⟨an, cn, rfl⟩ := hN.shape
  have HI0 := hd hI
  have HN0 := hd hN
  have hel := enc_len hN.1
  have hws := wr_len s
  have hwe := wr_len (enc l)
  have hwj := wr_len (s ++ enc l)
  rw [List.length_append] at hwj
  clear hI hN
  go_enter Try.func12, Try.ntmps12
  go_wp2_with fail
  have h1 := wrap_is _ [167, 0, 166] _ (lit_isK .u8 256 w #[.int .u8 167, .int .u8 0, .int .u8 166] 5 [167, 0, 166] 3 rfl rfl (by decide) (by decide)) (by decide)
  rw [awake_wr] at h1
  refine Calls.mono h1 ?_
  rintro e w1 ⟨rfl, hj1, hb1⟩
  have hsz : (w.alloc (.cells #[.int .u8 167, .int .u8 0, .int .u8 166] 5)).heap.size = w.heap.size + 1 := by simp
  rw [hsz] at hj1 hb1 ⊢
  have hb1' : Below w.heap.size w w1 := ((Below.refl _ _).alloc (Nat.le_refl _) _).trans (hb1.mono (by omega))
  have HB1 := hd hb1'
  have HF1 := hd hj1.isB
  have HI1 := hd (HI0.out.below hb1')
  have HN1 := hd (HN0.out.below hb1')
  clear h1 hj1 hb1 hsz hb1' HI0 HN0
  go_wp2_with fail
  refine Calls.mono (encode_is _ l w1 HN1.out (by omega)) ?_
  rintro e w2 ⟨rfl, hj2, hb2⟩
  have HB2 : Hid (Below w.heap.size w w2) := HB1.out.trans (hb2.mono HB1.out.size)
  have HF2 := hd (HF1.out.below hb2)
  have HI2 := hd (HI1.out.below hb2)
  clear HB1 HF1 HI1 HN1
  have HE2 := hd hj2.isB
  clear hb2 hj2
  go_wp2_with fail
  refine Calls.mono (wrap_is _ s w2 HI2.out (by omega)) ?_
  rintro e w3 ⟨rfl, hj3, hb3⟩
  have HB3 : Hid (Below w.heap.size w w3) := HB2.out.trans (hb3.mono HB2.out.size)
  have HF3 := hd (HF2.out.below hb3)
  have HI3 := hd (HI2.out.below hb3)
  have HE3 := hd (HE2.out.below hb3)
  clear HB2 HF2 HI2 HE2
  have HX3 := hd hj3.isB
  clear hb3 hj3
  go_wp2_with fail
  refine Calls.mono (wrap_is _ (enc l) w3 HE3.out (by omega)) ?_
  rintro e w4 ⟨rfl, hj4, hb4⟩
  have HB4 : Hid (Below w.heap.size w w4) := HB3.out.trans (hb4.mono HB3.out.size)
  have HF4 := hd (HF3.out.below hb4)
  have HI4 := hd (HI3.out.below hb4)
  have HE4 := hd (HE3.out.below hb4)
  have HX4 := hd (HX3.out.below hb4)
  clear HB3 HF3 HI3 HE3 HX3
  have HY4 := hd hj4.isB
  clear hb4 hj4
  go_wp2_with fail
  refine Calls.mono (joined_is _ _ s (enc l) w4 HI4.out HE4.out (by omega)) ?_
  rintro e w5 ⟨v5, rfl, hj5, hb5⟩
  have HB5 : Hid (Below w.heap.size w w5) := HB4.out.trans (hb5.mono HB4.out.size)
  have HF5 := hd (HF4.out.below hb5)
  have HI5 := hd (HI4.out.below hb5)
  have HE5 := hd (HE4.out.below hb5)
  have HX5 := hd (HX4.out.below hb5)
  have HY5 := hd (HY4.out.below hb5)
  clear HB4 HF4 HI4 HE4 HX4 HY4
  have HJ5 := hd hj5.isB
  clear hb5 hj5
  go_wp2_with fail
  refine Calls.mono (wrap_is _ (s ++ enc l) w5 HJ5.out (by rw [List.length_append]; omega)) ?_
  rintro e w6 ⟨rfl, hj6, hb6⟩
  have HB6 : Hid (Below w.heap.size w w6) := HB5.out.trans (hb6.mono HB5.out.size)
  have HF6 := hd (HF5.out.below hb6)
  have HI6 := hd (HI5.out.below hb6)
  have HE6 := hd (HE5.out.below hb6)
  have HX6 := hd (HX5.out.below hb6)
  have HY6 := hd (HY5.out.below hb6)
  clear HB5 HF5 HI5 HE5 HX5 HY5 HJ5
  have HZ6 := hd hj6.isB
  have HB6z := hd hj6.buf
  clear hb6 hj6
  have kc : (convert 22 9 (.slice (some ⟨w.heap.size + 1, 0, none⟩) 5 5)).run Try.prog w6 = .ok (.string ⟨#[166, 1, 0, 166, 0]⟩) w6 := conv_is w6 _ _ HF6.out
  have HFX := hd (wr_append s (enc l))
  generalize hG : wr (s ++ enc l) = G at *
  have HG := hd hG
  clear hG
  go_wp2_with fail
  refine Calls.mono (joined_is _ _ (wr s) (wr (enc l)) w6 HX6.out HY6.out (by omega)) ?_
  rintro e w7 ⟨v7, rfl, hj7, hb7⟩
  rw [← HFX.out] at hj7
  have HB7 : Hid (Below w.heap.size w w7) := HB6.out.trans (hb7.mono HB6.out.size)
  have HI7 := hd (HI6.out.below hb7)
  have HE7 := hd (HE6.out.below hb7)
  have HZ7 := hd (HZ6.out.below hb7)
  clear HB6 HI6 HE6 HZ6 HX6 HY6 HF6 kc
  have HB7z := hd (HB6z.out.below HB6z.out.2.2.1 hb7)
  have HJ7 := hd hj7.isB
  clear hb7 hj7 HB6z
  go_wp2_with fail
  refine Calls.mono (sameB_is _ _ G G w7 HZ7.out HJ7.out) ?_
  rw [decide_eq_true rfl]
  rintro e w8 ⟨rfl, rfl⟩
  clear HJ7
  go_wp2_with fail
  refine Calls.mono (joined_is _ _ s (enc l) w8 HI7.out HE7.out (by omega)) ?_
  rintro e w9 ⟨v9, rfl, hj9, hb9⟩
  have HB9 : Hid (Below w.heap.size w w9) := HB7.out.trans (hb9.mono HB7.out.size)
  have HI9 := hd (HI7.out.below hb9)
  have HE9 := hd (HE7.out.below hb9)
  have HZ9 := hd (HZ7.out.below hb9)
  clear HB7 HI7 HE7 HZ7
  have HB9z := hd (HB7z.out.below HB7z.out.2.2.1 hb9)
  have HJ9 := hd hj9.isB
  clear hb9 hj9 HB7z
  go_wp2_with fail
  refine Calls.mono (esize_is _ (s ++ enc l) w9 HJ9.out (by rw [List.length_append]; omega)) ?_
  rw [HG.out]
  rintro e w10 ⟨rfl, hw10⟩
  subst hw10
  clear HJ9
  go_wp2_with fail
  refine Calls.mono (open_is _ G w10 HZ9.out (by omega)) ?_
  rintro e w11 ⟨v11, rfl, hj11, hb11⟩
  have hbz : badB 0 G = (0, 0) := by rw [← HG.out]; exact badB_wr _ _
  have hop : opn G = s ++ enc l := by
    unfold opn; rw [hbz, if_pos rfl, ← HG.out, plain_wr]
  rw [hop] at hj11
  rw [hbz]
  clear hbz hop
  have HB11 : Hid (Below w.heap.size w w11) := HB9.out.trans (hb11.mono HB9.out.size)
  have HI11 := hd (HI9.out.below hb11)
  have HE11 := hd (HE9.out.below hb11)
  have HZ11 := hd (HZ9.out.below hb11)
  clear HB9 HI9 HE9 HZ9
  have HB11z := hd (HB9z.out.below HB9z.out.2.2.1 hb11)
  have HP11 := hd hj11.isB
  clear hb11 hj11 HB9z
  go_wp2_with fail
  refine Calls.mono (joined_is _ _ s (enc l) w11 HI11.out HE11.out (by omega)) ?_
  rintro e w12 ⟨v12, rfl, hj12, hb12⟩
  have HB12 : Hid (Below w.heap.size w w12) := HB11.out.trans (hb12.mono HB11.out.size)
  have HZ12 := hd (HZ11.out.below hb12)
  have HP12 := hd (HP11.out.below hb12)
  clear HB11 HZ11 HP11 HI11 HE11
  have HB12z := hd (HB11z.out.below HB11z.out.2.2.1 hb12)
  have HJ12 := hd hj12.isB
  clear hb12 hj12 HB11z
  go_wp2_with fail
  refine Calls.mono (sameB_is _ _ _ _ w12 HP12.out HJ12.out) ?_
  rw [decide_eq_true rfl]
  rintro e w13 ⟨rfl, hw13⟩
  subst hw13
  clear HJ12 HP12
  have HNX : Hid (nxt G 0 = G.length) := by
    show nxt G 0 = G.length
    rw [← HG.out]; exact nxt_wr _
  go_wp2_with fail
  refine Calls.mono (next_row w5.heap.size 0 _ G 0 w13 HZ12.out.1 HB12z.out.2.2.2.2.1 (Nat.le_refl _) HB12z.out.2.1) ?_
  rw [HNX.out]
  rintro e w14 ⟨rfl, hw14⟩
  subst hw14
  have HNO : Hid (∀ k, k < G.length → G.getD k 0 ≠ 167) := by
    show ∀ k, k < G.length → G.getD k 0 ≠ 167
    rw [← HG.out]; exact fun k hk => wr_no_at hk
  go_wp2_with fail
  go_loop [4, 13] (fun o i => ∃ k : Nat, k ≤ G.length ∧ i = .int .i64 (k : Int) ∧ o = .bool false) (fun _ i => G.length - (intOf i).toNat)
  case atStart => exact ⟨0, by omega, rfl, rfl⟩
  case round =>
    obtain ⟨k, hk, rfl, rfl⟩ := hrel
    by_cases hlt : k < G.length
    · have hc := HB12z.out.cell hlt
      have hn := HNO.out k hlt
      generalize G.getD k 0 = x at *
      have hn2 : ((x : Int) == 167) = false := by simp; omega
      go_wp2_with fail
      go_round
      case rel => exact ⟨k + 1, by omega, by go_num, rfl⟩
      case measure => simp [intOf]; omega
    · obtain rfl : k = G.length := by omega
      go_wp2_with fail
      refine Calls.mono (joined_is _ _ G [167] _ (HZ12.out.below ((Below.refl _ _).alloc (Nat.le_refl _) _)) (lit_isK .u8 256 w14 #[.int .u8 167] 5 [167] 1 rfl rfl (by decide) (by decide)) (by simp; omega)) ?_
      rintro e w15 ⟨v15, rfl, hj15, hb15⟩
      have HB15 : Hid (Below w.heap.size w w15) := (HB12.out.alloc HB12.out.size _).trans (hb15.mono (by have := HB12.out.size; simp; omega))
      have HJ15 := hd hj15.isB
      clear hj15 hb15
      go_wp2_with fail
      refine Calls.mono (open_is _ (G ++ [167]) w15 HJ15.out (by simp; omega)) ?_
      rintro e w16 ⟨v16, rfl, hj16, hb16⟩
      have hbz : badB 0 (G ++ [167]) = (31, G.length) := by rw [← HG.out]; exact bad_lead _
      have hop : opn (G ++ [167]) = [] := by unfold opn; rw [hbz, if_neg (by simp)]
      rw [hop] at hj16
      rw [hbz]
      obtain ⟨a16, c16, rfl, _⟩ := hj16.shape
      have HB16 : Hid (Below w.heap.size w w16) := HB15.out.trans (hb16.mono HB15.out.size)
      clear hbz hop hj16 hb16
      rw [List.length_nil]
      go_wp2_with fail
      go_ret
      exact ⟨rfl, HB16.out⟩
theorem walk (a0 : Option Addr) (len0 cap0 : Nat) (z0 : List Int) (a1 : Option Addr) (len1 cap1 : Nat) (z1 : List Int) (w : World) (w0 : IsRow .u8 w a0 len0 cap0 z0) (w1 : IsRow .u64 w a1 len1 cap1 z1) (hm : len0 + len1 ≤ 1048576) :
    Calls Try.prog 12 #[.slice a0 len0 cap0, .slice a1 len1 cap1] w fun e w' => e = .returned (.bool true) ∧ Below w.heap.size w w' := by
  obtain ⟨l, hl, hI⟩ := w0.isB
  obtain ⟨t, ht, hT⟩ := w1.isN
  exact walkB _ _ l t w hI hT (by omega)
/-- numbers weigh one each -/
theorem lits_bulk {H : Type} (k : IntKind) (zs : List Int) : zs.length ≤ Rows.uptoBulkAll (lits (H := H) k zs) := by
  induction zs with
  | nil => exact Nat.zero_le _
  | cons z r ih =>
    rw [show lits (H := H) k (z :: r) = .lit (.int k z) :: lits k r from rfl]
    simp only [Rows.uptoBulkAll, Rows.uptoBulk, List.length_cons]
    omega
set_option linter.unusedVariables false
set_option maxRecDepth 100000 in
theorem lifted (os : Os) (started : os.Started) (H : Type) (enc : TypeId × Value → H) (F : Stop.Interp) :
    ReturnsInHanded {} Try.checked os 12 .any ((Rows.OpenSpec.upto Rows.topEscapedSpec).pre6 enc Try.prog Try.f12 Rows.topEscapedUptoRow.domain false) (((Rows.OpenSpec.upto Rows.topEscapedSpec).at F).post enc Try.prog Try.f12 false true false false) := by
  refine returnsInHanded_of_cond (C := Try.checked) (s := Rows.OpenSpec.upto Rows.topEscapedSpec) (k := Rows.uptoSmall) rfl own started (by kernel_rfl) Try.func12
    (OpenSpec.witness (enc := enc) (C := Try.checked) (s := Rows.OpenSpec.upto Rows.topEscapedSpec) (k := Rows.uptoSmall) rfl false ⟨#[], #[.slice none 0 0, .slice none 0 0], []⟩ 8 (by kernel_rfl) (by kernel_rfl) (by kernel_rfl)
      (x := ([.nil, .nil], [], [])) (by kernel_rfl) rfl (by kernel_rfl)) ?_
  intro W base args ds gs before hval0 hW _ hk0 _
  have hk : Rows.uptoBulkAll (ds ++ gs) ≤ 1048576 := of_decide_eq_true hk0
  clear hk0
  have hval : ∀ (j : Nat) t v, Try.f12.params[j]? = some t → args[j]? = some v → Value.okWide Try.prog W .any base t v := hval0
  have hW' := hW
  obtain ⟨p, q, hA0, hV, rfl, hfz, hnd⟩ := hW
  have hA : DataW.TrodAll enc Try.prog W 0 (fun _ => true) true Try.f12.params.toList args.toList ds p := hA0
  rw [Try.params12] at hA hval
  obtain ⟨v0, vs0, d0, ds0, p0, q0, hargs, rfl, rfl, h0, r0⟩ := trodAll_cons hA
  obtain ⟨v1, vs1, d1, ds1, p1, q1, rfl, rfl, rfl, h1, r1⟩ := trodAll_cons r0
  obtain ⟨rfl, rfl, rfl⟩ := trodAll_nil r1
  obtain rfl : args = #[v0, v1] := by cases args; simp_all
  obtain ⟨rfl, rfl⟩ := trodVars_none hV
  have opens_u8 : ∀ (v : Value) (d : DataW H) (pl : List MemPlace) (a : Option Addr) (len cap : Nat), v = .slice a len cap → DataW.Trod enc Try.prog W 0 (fun _ => true) true 22 v d pl → ∃ zs, IsRow .u8 W a len cap zs ∧ len ≤ Rows.uptoBulk d := by
    rintro v d pl a len cap rfl ⟨fuel, hf⟩
    rcases open_ints Try.underlying22 Try.underlying5 (by kernel_rfl) hf with ⟨hcs, _⟩ | ⟨x, l, c, zs, hcs, _, hl, hm, hz, hx, hcell, hwz⟩
    · simp [Value.cells] at hcs
      obtain ⟨rfl, rfl, rfl⟩ := hcs
      exact ⟨[], .inl ⟨rfl, rfl, rfl, rfl⟩, by omega⟩
    · simp [Value.cells] at hcs
      obtain ⟨rfl, rfl, rfl⟩ := hcs
      have hz2 : zs.length = cap := by simpa using hz
      simp only [Prod.mk.injEq] at hx
      refine ⟨zs, .inr ⟨_, rfl, hl, hm, hz2, hcell, hwz⟩, ?_⟩
      rw [hx.1]
      have h1 := lits_bulk (H := H) .u8 (zs.take len)
      rw [List.length_take] at h1
      simp only [Rows.uptoBulk]
      omega
  have opens_u64 : ∀ (v : Value) (d : DataW H) (pl : List MemPlace) (a : Option Addr) (len cap : Nat), v = .slice a len cap → DataW.Trod enc Try.prog W 0 (fun _ => true) true 44 v d pl → ∃ zs, IsRow .u64 W a len cap zs ∧ len ≤ Rows.uptoBulk d := by
    rintro v d pl a len cap rfl ⟨fuel, hf⟩
    rcases open_ints Try.underlying44 Try.underlying66 (by kernel_rfl) hf with ⟨hcs, _⟩ | ⟨x, l, c, zs, hcs, _, hl, hm, hz, hx, hcell, hwz⟩
    · simp [Value.cells] at hcs
      obtain ⟨rfl, rfl, rfl⟩ := hcs
      exact ⟨[], .inl ⟨rfl, rfl, rfl, rfl⟩, by omega⟩
    · simp [Value.cells] at hcs
      obtain ⟨rfl, rfl, rfl⟩ := hcs
      have hz2 : zs.length = cap := by simpa using hz
      simp only [Prod.mk.injEq] at hx
      refine ⟨zs, .inr ⟨_, rfl, hl, hm, hz2, hcell, hwz⟩, ?_⟩
      rw [hx.1]
      have h1 := lits_bulk (H := H) .u64 (zs.take len)
      rw [List.length_take] at h1
      simp only [Rows.uptoBulk]
      omega
  obtain ⟨a0, len0, cap0, rfl⟩ := okWide_slice Try.underlying22 (hval 0 22 v0 rfl rfl)
  obtain ⟨a1, len1, cap1, rfl⟩ := okWide_slice Try.underlying44 (hval 1 44 v1 rfl rfl)
  have k0 := h0
  have k1 := h1
  have lt0 : ∀ x ∈ p0, x.block < W.heap.size := by obtain ⟨m, hm⟩ := k0; exact DataW.trod_lt m _ _ _ hm
  have lt1 : ∀ x ∈ p1, x.block < W.heap.size := by obtain ⟨m, hm⟩ := k1; exact DataW.trod_lt m _ _ _ hm
  obtain ⟨z0, w0, b0⟩ := opens_u8 _ d0 p0 a0 len0 cap0 rfl h0
  obtain ⟨z1, w1, b1⟩ := opens_u64 _ d1 p1 a1 len1 cap1 rfl h1
  have hm : len0 + len1 ≤ 1048576 := by
    simp only [List.cons_append, Rows.uptoBulkAll] at hk
    omega
  clear hA0 hval0
  refine (walk a0 len0 cap0 z0 a1 len1 cap1 z1 W w0 w1 hm).mono fun e W' ⟨he, bel⟩ => ?_
  subst he
  exact ⟨_, rfl, _, _, _, [], _, [], hW', trodAll_mk1 (shut_bool Try.underlying4 _), (trodAll_cons_mk (Below.trod laidOut (by kernel_rfl) (of_decide_eq_true (by kernel_rfl)) k0 bel lt0) (trodAll_cons_mk (Below.trod laidOut (by kernel_rfl) (of_decide_eq_true (by kernel_rfl)) k1 bel lt1) trodAll_mk0)), rfl, bel.frame _, fun h => by cases h⟩
theorem over : Rows.TopEscapedUptoSaid :=
  OpenClaim.holds_of_cond 12 Try.f12 rfl rfl rfl rfl rfl rfl rfl ⟨rfl, rfl, rfl, rfl, rfl⟩ rfl rfl rfl rfl rfl (by kernel_rfl) Try.func12 (by kernel_rfl)
    (of_decide_eq_true (by kernel_rfl)) (by unfold Func.isWrapper; first | (rw [if_pos (by decide +kernel)]; kernel_rfl) | (rw [if_neg (by decide +kernel)]; exact ⟨rfl, rfl⟩))
    (fun os started H enc _ F => lifted os started H enc F)
end Topesc

theorem topEscaped_upto : Rows.TopEscapedUptoSaid := Topesc.over
#print axioms topEscaped_upto
end Go.Proofs.Ytojogadklhmkbaa
