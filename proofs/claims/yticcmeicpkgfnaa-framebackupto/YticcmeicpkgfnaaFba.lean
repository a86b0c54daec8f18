/-
  PROVED: for every frame and all texts ahead of it and behind, where what the law reads is of bulk at most 1048576, the Go law FrameBack answers true and changes nothing that came in: what was written is read, whatever stands ahead and behind; the lead byte stands first alone.
-/
import Derived.Test.YticcmeicpkgfnaaA1
import Derived.JoinedCond
import Derived.Test.YticcmeicpkgfnaaRows
namespace Go.Proofs.Yticcmeicpkgfnaa
open Go.ChangeShapes Go.WideShapes Go.ChangeAt Go.RowKit
namespace Fba
open Vt
set_option maxRecDepth 100000 in
set_option maxHeartbeats 1000000 in
theorem walk_no (f : Fr) (a1 : Option Addr) (n1 c1 : Nat) (a2 : Option Addr) (n2 c2 : Nat) (w : World) (h : rf f ≠ 0) :
    Calls Try.prog 3 #[.agg (fv f), .slice a1 n1 c1, .slice a2 n2 c2] w fun e w' => e = .returned (.bool true) ∧ Below w.heap.size w w' := by
  have HEN := hd (fun w => encF_no f w h)
  have q1 : (((rf f : Nat) : Int) != 0) = true := by simp; omega
  generalize rf f = code at *
  obtain ⟨k, ⟨rl, rk, rkey, rval⟩, ⟨pl, pk, pa, pn, pkey⟩, ⟨ec, eb, ef, es⟩⟩ := f
  simp only [fv] at *
  clear h
  have HX : Hid (Blk (w.alloc (.cells #[.int .i64 k, .int .u64 (rl : Int), .int .i64 rk, .string rkey, .string rval, .int .u64 (pl : Int), .int .i64 pk, .int .i64 pa, .int .i64 pn, .string pkey, .int .i64 ec, .int .i64 eb, .int .i64 ef, .int .u32 (es : Int)] 34)) w.heap.size 34 [.int .i64 k, .int .u64 (rl : Int), .int .i64 rk, .string rkey, .string rval, .int .u64 (pl : Int), .int .i64 pk, .int .i64 pa, .int .i64 pn, .string pkey, .int .i64 ec, .int .i64 eb, .int .i64 ef, .int .u32 (es : Int)]) := Blk.new w _ _
  go_enter Try.func3, Try.ntmps3
  go_wp2_with fail
  refine Calls.mono (known_is _) ?_
  rintro e w1 ⟨rfl, hb⟩
  have HB1 := hd (below_alloc1 hb)
  have HX1 := hd (HX.out.keep hb)
  clear hb HX
  have c0 := HX1.out.cell 0 _ rfl
  have c1 := HX1.out.cell 1 _ rfl
  have c2 := HX1.out.cell 2 _ rfl
  have c3 := HX1.out.cell 3 _ rfl
  have c4 := HX1.out.cell 4 _ rfl
  have c5 := HX1.out.cell 5 _ rfl
  have c6 := HX1.out.cell 6 _ rfl
  have c7 := HX1.out.cell 7 _ rfl
  have c8 := HX1.out.cell 8 _ rfl
  have c9 := HX1.out.cell 9 _ rfl
  have c10 := HX1.out.cell 10 _ rfl
  have c11 := HX1.out.cell 11 _ rfl
  have c12 := HX1.out.cell 12 _ rfl
  have c13 := HX1.out.cell 13 _ rfl
  go_wp2_with fail
  refine Calls.mono (HEN.out w1) ?_
  rintro e w2 ⟨rfl, hb⟩
  have HB2 : Hid (Below w.heap.size w w2) := HB1.out.trans (hb.mono HB1.out.size)
  clear hb HEN HB1
  go_wp2_with fail
  go_ret
  exact ⟨rfl, HB2.out⟩
set_option maxRecDepth 100000 in
set_option maxHeartbeats 2000000 in
theorem walk_yes (f : Fr) (v1 v2 : Value) (l1 l2 : List Nat) (w : World) (hw : f.Wf) (h : rf f = 0) (h1 : Vt.IsB w v1 l1) (h2 : Vt.IsB w v2 l2) (hm : l1.length + l2.length ≤ 1048576) :
    Calls Try.prog 3 #[.agg (fv f), v1, v2] w fun e w' => e = .returned (.bool true) ∧ Below w.heap.size w w' := by
  have HEN := hd (encF_all hw h)
  have HDC : Hid (decF (l1 ++ en f ++ l2) (l1.length : Int) = (f, (en f).length, 0)) := by
    show decF (l1 ++ en f ++ l2) (l1.length : Int) = _
    have hp := en_pos f
    unfold decF
    rw [if_neg (by rw [List.length_append, List.length_append]; omega), Int.toNat_natCast, List.append_assoc, List.drop_left, dcd_en hw h]
  have hlen : 9 ≤ (en f).length ∧ (en f).length ≤ 5000 := by
    have h1 := (bd_len hw h).1
    have h2 := (wr_len (bd f)).2
    rw [en_len]; omega
  have HNO := hd (fun j (h1 : 1 ≤ j) h2 => en_no (f := f) (j := j) h1 h2)
  have HHD := hd (en_head f)
  have heq0 := eql_yes (f := f) (g := f) rfl
  clear hw h
  obtain ⟨a1, c1, rfl⟩ := h1.shape
  obtain ⟨a2, c2, rfl⟩ := h2.shape
  have H1 := hd h1
  have H2 := hd h2
  clear h1 h2
  generalize en f = EN at *
  obtain ⟨L, hL⟩ : ∃ L, L = EN.length := ⟨_, rfl⟩
  rw [← hL] at HDC hlen HNO
  have HL := hd hL
  clear hL
  obtain ⟨k, ⟨rl, rk, rkey, rval⟩, ⟨pl, pk, pa, pn, pkey⟩, ⟨ec, eb, ef, es⟩⟩ := f
  simp only [fv] at *
  have heq : ∀ w, (binOp .eql 34 (.agg #[.int .i64 k, .int .u64 (rl : Int), .int .i64 rk, .string rkey, .string rval, .int .u64 (pl : Int), .int .i64 pk, .int .i64 pa, .int .i64 pn, .string pkey, .int .i64 ec, .int .i64 eb, .int .i64 ef, .int .u32 (es : Int)]) (.agg #[.int .i64 k, .int .u64 (rl : Int), .int .i64 rk, .string rkey, .string rval, .int .u64 (pl : Int), .int .i64 pk, .int .i64 pa, .int .i64 pn, .string pkey, .int .i64 ec, .int .i64 eb, .int .i64 ef, .int .u32 (es : Int)])).run Try.prog w = .ok (.bool true) w := heq0
  clear heq0
  have HX : Hid (Blk (w.alloc (.cells #[.int .i64 k, .int .u64 (rl : Int), .int .i64 rk, .string rkey, .string rval, .int .u64 (pl : Int), .int .i64 pk, .int .i64 pa, .int .i64 pn, .string pkey, .int .i64 ec, .int .i64 eb, .int .i64 ef, .int .u32 (es : Int)] 34)) w.heap.size 34 [.int .i64 k, .int .u64 (rl : Int), .int .i64 rk, .string rkey, .string rval, .int .u64 (pl : Int), .int .i64 pk, .int .i64 pa, .int .i64 pn, .string pkey, .int .i64 ec, .int .i64 eb, .int .i64 ef, .int .u32 (es : Int)]) := Blk.new w _ _
  go_enter Try.func3, Try.ntmps3
  go_wp2_with fail
  refine Calls.mono (known_is _) ?_
  rintro e w1 ⟨rfl, hb⟩
  have HB1 := hd (below_alloc1 hb)
  have HX1 := hd (HX.out.keep hb)
  clear hb HX
  have c0 := HX1.out.cell 0 _ rfl
  have c1 := HX1.out.cell 1 _ rfl
  have c2 := HX1.out.cell 2 _ rfl
  have c3 := HX1.out.cell 3 _ rfl
  have c4 := HX1.out.cell 4 _ rfl
  have c5 := HX1.out.cell 5 _ rfl
  have c6 := HX1.out.cell 6 _ rfl
  have c7 := HX1.out.cell 7 _ rfl
  have c8 := HX1.out.cell 8 _ rfl
  have c9 := HX1.out.cell 9 _ rfl
  have c10 := HX1.out.cell 10 _ rfl
  have c11 := HX1.out.cell 11 _ rfl
  have c12 := HX1.out.cell 12 _ rfl
  have c13 := HX1.out.cell 13 _ rfl
  go_wp2_with fail
  refine Calls.mono (HEN.out w1) ?_
  rintro e w2 ⟨u, rfl, hj, hb⟩
  have HB2 : Hid (Below w.heap.size w w2) := HB1.out.trans (hb.mono HB1.out.size)
  have HX2 := hd (HX1.out.keep hb)
  have HI2 := hd hj.isB
  obtain ⟨ua, uc, rfl, hcap⟩ := hj.shape
  rw [← HL.out] at HI2 hcap ⊢
  have HI12 := hd (H1.out.below HB2.out)
  have HI22 := hd (H2.out.below HB2.out)
  clear hb hj HEN HB1 HX1 H1 H2 c0 c1 c2 c3 c4 c5 c6 c7 c8 c9 c10 c11 c12 c13
  go_wp2_with (first
    | (at_builtin; refine wpList_append_jb _ rfl _ _ rfl w2.heap.size _ _ [] l1 rfl rfl (jb_nil _ _) HI12.out l1.length (by simp) l1 (by simp) (by omega) (Nat.le_refl _) ?_; intro a3 c3 w3 hJ3 hg3 hc3; have HJ3 := hd hJ3; have HG3 := hd ((jb_nil w2 w2.heap.size).grown (Below.refl _ _) (Nat.le_refl _) (Nat.le_refl _) hg3); clear hJ3 hg3; have HI3 := hd (HI2.out.below HG3.out); have hs3 := HG3.out.size)
    | (at_builtin; refine wpList_append_jb _ rfl _ _ rfl w2.heap.size _ _ l1 EN rfl rfl HJ3.out HI3.out (l1.length + L) (by rw [HL.out]) (l1 ++ EN) rfl (by omega) hs3 ?_; intro a4 c4 w4 hJ4 hg4 hc4; have HJ4 := hd hJ4; have HG4 := hd (HJ3.out.grown HG3.out (Nat.le_refl _) hs3 hg4); clear hJ4 hg4; have HI4 := hd (HI22.out.below HG4.out); have hs4 := HG4.out.size)
    | (at_builtin; refine wpList_append_jb _ rfl _ _ rfl w2.heap.size _ _ (l1 ++ EN) l2 rfl rfl HJ4.out HI4.out (l1.length + L + l2.length) (by rw [List.length_append, HL.out]) (l1 ++ EN ++ l2) rfl (by omega) hs4 ?_; intro a5 c5 w5 hJ5 hg5 hc5; have HJ5 := hd hJ5; have HG5 := hd (HJ4.out.grown HG4.out (Nat.le_refl _) hs4 hg5); clear hJ5 hg5))
  have HDD := hd (decode_all _ _ (l1.length : Int) w5 HJ5.out.isB)
  rw [HDC.out] at HDD
  simp only [dval, fv] at HDD
  clear HDC HJ3 HJ4 HI3 HI4 HG3 HG4
  refine Calls.mono HDD.out ?_
  rintro e w6 ⟨rfl, hb⟩
  have HB6 : Hid (Below w2.heap.size w2 w6) := HG5.out.trans (hb.mono HG5.out.size)
  have HB6w : Hid (Below w.heap.size w w6) := HB2.out.trans (HB6.out.mono HB2.out.size)
  have HX6 := hd (HX2.out.keep HB6.out)
  have HI6 := hd (HI2.out.below HB6.out)
  have hs6 := HB6.out.size
  have hsx := HX6.out.lt
  clear hb HDD HG5 HJ5 HX2 HI2 HI12 HI22 HB6
  obtain ⟨g, off, hg⟩ : ∃ g off, ua = some ⟨g, off, none⟩ := by
    obtain ⟨_, _, ⟨q, _⟩ | ⟨b, off, c', e, _⟩⟩ := HI6.out
    · have := HL.out; rw [q] at this; simp at this; omega
    · injection e with e1
      exact ⟨b, off, e1⟩
  subst hg
  have hblk : g < w6.heap.size := lt_of_cell (HI6.out.row 0 (by rw [← HL.out]; omega))
  have r0 := HI6.out.row 0 (by rw [← HL.out]; omega)
  rw [HHD.out, Nat.add_zero] at r0
  have n1 : ¬ g = w6.heap.size := by omega
  have n2 : ¬ w6.heap.size = g := by omega
  have m1 : ¬ w.heap.size = w6.heap.size := by omega
  have m2 : ¬ w6.heap.size = w.heap.size := by omega
  have hL0 : (((L : Nat) : Int) == 0) = false := by simp; omega
  have x0 := HX6.out.cell 0 _ rfl
  have x1 := HX6.out.cell 1 _ rfl
  have x2 := HX6.out.cell 2 _ rfl
  have x3 := HX6.out.cell 3 _ rfl
  have x4 := HX6.out.cell 4 _ rfl
  have x5 := HX6.out.cell 5 _ rfl
  have x6 := HX6.out.cell 6 _ rfl
  have x7 := HX6.out.cell 7 _ rfl
  have x8 := HX6.out.cell 8 _ rfl
  have x9 := HX6.out.cell 9 _ rfl
  have x10 := HX6.out.cell 10 _ rfl
  have x11 := HX6.out.cell 11 _ rfl
  have x12 := HX6.out.cell 12 _ rfl
  have x13 := HX6.out.cell 13 _ rfl
  go_wp2_with fail
  go_loop [14] (fun i => ∃ j : Nat, 1 ≤ j ∧ j ≤ L ∧ i = .int .i64 (j : Int)) (fun i => L - (intOf i).toNat)
  case atStart => exact ⟨1, by omega, by omega, rfl⟩
  case round =>
    obtain ⟨j, hj1, hj2, rfl⟩ := hrel
    by_cases hlt : j < L
    · have hc := HI6.out.row j (by rw [← HL.out]; exact hlt)
      have hne := HNO.out j hj1 hlt
      have hyb := getD_lt HI6.out.1 j
      generalize EN.getD j 0 = y at *
      have hq : ((y : Int) == 167) = false := by simp; omega
      go_wp2_with fail
      go_round
      case rel => exact ⟨j + 1, by omega, by omega, by go_num⟩
      case measure => simp [intOf]; omega
    · obtain rfl : j = L := by omega
      go_wp2_with fail
      go_ret
      exact ⟨rfl, HB6w.out.alloc HB6w.out.size _⟩
theorem walk (f : Fr) (a1 : Option Addr) (len1 cap1 : Nat) (z1 : List Int) (a2 : Option Addr) (len2 cap2 : Nat) (z2 : List Int) (w : World) (hw : f.Wf) (w1 : IsRow .u8 w a1 len1 cap1 z1) (w2 : IsRow .u8 w a2 len2 cap2 z2) (hm : len1 + len2 ≤ 1048576) :
    Calls Try.prog 3 #[.agg (fv f), .slice a1 len1 cap1, .slice a2 len2 cap2] w fun e w' => e = .returned (.bool true) ∧ Below w.heap.size w w' := by
  obtain ⟨l1, h1, i1⟩ := w1.isB
  obtain ⟨l2, h2, i2⟩ := w2.isB
  by_cases h : rf f = 0
  · exact walk_yes f _ _ l1 l2 w hw h i1 i2 (by omega)
  · exact walk_no f a1 len1 cap1 a2 len2 cap2 w h
/-- numbers weigh one each -/
theorem lits_bulk {H : Type} (k : IntKind) (zs : List Int) : zs.length ≤ Rows.uptoBulkAll (lits (H := H) k zs) := by
  induction zs with
  | nil => exact Nat.zero_le _
  | cons z r ih =>
    rw [show lits (H := H) k (z :: r) = .lit (.int k z) :: lits k r from rfl]
    simp only [Rows.uptoBulkAll, Rows.uptoBulk, List.length_cons]
    omega
set_option linter.unusedVariables false
set_option maxRecDepth 100000 in
theorem lifted (os : Os) (started : os.Started) (H : Type) (enc : TypeId × Value → H) (F : Stop.Interp) :
    ReturnsInHanded {} Try.checked os 3 .any ((Rows.OpenSpec.upto Rows.frameBackSpec).pre6 enc Try.prog Try.f3 Rows.frameBackUptoRow.domain false) (((Rows.OpenSpec.upto Rows.frameBackSpec).at F).post enc Try.prog Try.f3 false true false false) := by
  refine returnsInHanded_of_cond (C := Try.checked) (s := Rows.OpenSpec.upto Rows.frameBackSpec) (k := Rows.uptoSmall) rfl own started (by kernel_rfl) Try.func3
    (OpenSpec.witness (enc := enc) (C := Try.checked) (s := Rows.OpenSpec.upto Rows.frameBackSpec) (k := Rows.uptoSmall) rfl false ⟨#[], #[.agg #[.int .i64 0, .int .u64 0, .int .i64 0, .string ⟨#[]⟩, .string ⟨#[]⟩, .int .u64 0, .int .i64 0, .int .i64 0, .int .i64 0, .string ⟨#[]⟩, .int .i64 0, .int .i64 0, .int .i64 0, .int .u32 0], .slice none 0 0, .slice none 0 0], []⟩ 8 (by kernel_rfl) (by kernel_rfl) (by kernel_rfl)
      (x := ([.agg [.lit (.int .i64 0), .agg [.lit (.int .u64 0), .lit (.int .i64 0), .lit (.string []), .lit (.string [])], .agg [.lit (.int .u64 0), .lit (.int .i64 0), .lit (.int .i64 0), .lit (.int .i64 0), .lit (.string [])], .agg [.lit (.int .i64 0), .agg [.lit (.int .i64 0), .lit (.int .i64 0), .lit (.int .u32 0)]]], .nil, .nil], [], [])) (by kernel_rfl) rfl (by kernel_rfl)) ?_
  intro W base args ds gs before hval0 hW _ hk0 _
  have hk : Rows.uptoBulkAll (ds ++ gs) ≤ 1048576 := of_decide_eq_true hk0
  clear hk0
  have hval : ∀ (j : Nat) t v, Try.f3.params[j]? = some t → args[j]? = some v → Value.okWide Try.prog W .any base t v := hval0
  have hW' := hW
  obtain ⟨p, q, hA0, hV, rfl, hfz, hnd⟩ := hW
  have hA : DataW.TrodAll enc Try.prog W 0 (fun _ => true) true Try.f3.params.toList args.toList ds p := hA0
  rw [Try.params3] at hA hval
  obtain ⟨v0, vs0, d0, ds0, p0, q0, hargs, rfl, rfl, h0, r0⟩ := trodAll_cons hA
  obtain ⟨v1, vs1, d1, ds1, p1, q1, rfl, rfl, rfl, h1, r1⟩ := trodAll_cons r0
  obtain ⟨v2, vs2, d2, ds2, p2, q2, rfl, rfl, rfl, h2, r2⟩ := trodAll_cons r1
  obtain ⟨rfl, rfl, rfl⟩ := trodAll_nil r2
  obtain rfl : args = #[v0, v1, v2] := by cases args; simp_all
  obtain ⟨rfl, rfl⟩ := trodVars_none hV
  have opens_u8 : ∀ (v : Value) (d : DataW H) (pl : List MemPlace) (a : Option Addr) (len cap : Nat), v = .slice a len cap → DataW.Trod enc Try.prog W 0 (fun _ => true) true 35 v d pl → ∃ zs, IsRow .u8 W a len cap zs ∧ len ≤ Rows.uptoBulk d := by
    rintro v d pl a len cap rfl ⟨fuel, hf⟩
    rcases open_ints Try.underlying35 Try.underlying5 (by kernel_rfl) hf with ⟨hcs, _⟩ | ⟨x, l, c, zs, hcs, _, hl, hm, hz, hx, hcell, hwz⟩
    · simp [Value.cells] at hcs
      obtain ⟨rfl, rfl, rfl⟩ := hcs
      exact ⟨[], .inl ⟨rfl, rfl, rfl, rfl⟩, by omega⟩
    · simp [Value.cells] at hcs
      obtain ⟨rfl, rfl, rfl⟩ := hcs
      have hz2 : zs.length = cap := by simpa using hz
      simp only [Prod.mk.injEq] at hx
      refine ⟨zs, .inr ⟨_, rfl, hl, hm, hz2, hcell, hwz⟩, ?_⟩
      rw [hx.1]
      have h1 := lits_bulk (H := H) .u8 (zs.take len)
      rw [List.length_take] at h1
      simp only [Rows.uptoBulk]
      omega
  obtain ⟨a1, len1, cap1, rfl⟩ := okWide_slice Try.underlying35 (hval 1 35 v1 rfl rfl)
  obtain ⟨a2, len2, cap2, rfl⟩ := okWide_slice Try.underlying35 (hval 2 35 v2 rfl rfl)
  have k1 := h1
  have k2 := h2
  have lt1 : ∀ x ∈ p1, x.block < W.heap.size := by obtain ⟨m, hm⟩ := k1; exact DataW.trod_lt m _ _ _ hm
  have lt2 : ∀ x ∈ p2, x.block < W.heap.size := by obtain ⟨m, hm⟩ := k2; exact DataW.trod_lt m _ _ _ hm
  obtain ⟨z1, w1, b1⟩ := opens_u8 _ d1 p1 a1 len1 cap1 rfl h1
  obtain ⟨z2, w2, b2⟩ := opens_u8 _ d2 p2 a2 len2 cap2 rfl h2
  have hm : len1 + len2 ≤ 1048576 := by
    simp only [List.cons_append, Rows.uptoBulkAll] at hk
    omega
  obtain ⟨a0, rfl, w0⟩ := frame_arg (hval 0 34 v0 rfl rfl)
  have lt0 : ∀ x ∈ p0, x.block < W.heap.size := by obtain ⟨m, hm⟩ := h0; exact DataW.trod_lt m _ _ _ hm
  clear hA0 hval0
  refine (walk a0 a1 len1 cap1 z1 a2 len2 cap2 z2 W w0 w1 w2 hm).mono fun e W' ⟨he, bel⟩ => ?_
  subst he
  exact ⟨_, rfl, _, _, _, [], _, [], hW', trodAll_mk1 (shut_bool Try.underlying4 _), (trodAll_cons_mk (Below.trod laidOut (by kernel_rfl) (of_decide_eq_true (by kernel_rfl)) h0 bel lt0) (trodAll_cons_mk (Below.trod laidOut (by kernel_rfl) (of_decide_eq_true (by kernel_rfl)) k1 bel lt1) (trodAll_cons_mk (Below.trod laidOut (by kernel_rfl) (of_decide_eq_true (by kernel_rfl)) k2 bel lt2) trodAll_mk0))), rfl, bel.frame _, fun h => by cases h⟩
theorem over : Rows.FrameBackUptoSaid :=
  OpenClaim.holds_of_cond 3 Try.f3 rfl rfl rfl rfl rfl rfl rfl ⟨rfl, rfl, rfl, rfl, rfl⟩ rfl rfl rfl rfl rfl (by kernel_rfl) Try.func3 (by kernel_rfl)
    (of_decide_eq_true (by kernel_rfl)) (by unfold Func.isWrapper; first | (rw [if_pos (by decide +kernel)]; kernel_rfl) | (rw [if_neg (by decide +kernel)]; exact ⟨rfl, rfl⟩))
    (fun os started H enc _ F => lifted os started H enc F)
end Fba

theorem frameBack_upto : Rows.FrameBackUptoSaid := Fba.over
#print axioms frameBack_upto
end Go.Proofs.Yticcmeicpkgfnaa
