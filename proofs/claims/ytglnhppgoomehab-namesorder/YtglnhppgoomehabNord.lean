/-
  NamesOrder: Sorted does not hang on the order in which names are handed in, nor on how often; sorted again it is the same; it has just these names, each once, segments ahead of all others, by rising numbers. Without a condition.
-/
import Derived.Test.YtglnhppgoomehabNor1
namespace Go.Proofs.Ytglnhppgoomehab
open Go.ChangeShapes Go.WideShapes Go.ChangeAt Go.RowKit
namespace Nord
open Vt Nam
theorem bytes_str : Try.prog.bytesOf 9 = 16 := by kernel_rfl
theorem seq (s : ByteArray) {a : List Nat} (ha : Byt a) : (s.toList == (str a).toList) = decide (bl s = a) := by
  rw [show s.toList = (str (bl s)).toList by rw [str_bl], str_eq (bl_byt s) ha]
theorem seqs (s t : ByteArray) : (s.toList == t.toList) = decide (s = t) := by
  rw [show t.toList = (str (bl t)).toList by rw [str_bl], seq s (bl_byt t)]
  refine decide_eq_decide.2 ⟨bl_inj, fun h => by rw [h]⟩
theorem getD_mem {ss : List ByteArray} {j : Nat} (h : j < ss.length) : ss.getD j ByteArray.empty ∈ ss := by
  rw [List.getD_eq_getElem?_getD, List.getElem?_eq_getElem h]; exact List.getElem_mem h
theorem next_lt {L : List ByteArray} (h : L.Pairwise lt) {i : Nat} (hi : i + 1 < L.length) : lt (L.getD i ByteArray.empty) (L.getD (i + 1) ByteArray.empty) := by
  have := (List.pairwise_iff_getElem.1 h) i (i + 1) (by omega) hi (by omega)
  rw [List.getD_eq_getElem?_getD, List.getD_eq_getElem?_getD, List.getElem?_eq_getElem hi, List.getElem?_eq_getElem (by omega : i < L.length)]
  exact this
theorem drew_b {B : Nat} {a b : World} (h : Below B a b) {b' : World} {q : Nat} (e : b' = b.drewN q) : Below B a b' := by rw [e]; exact h.trans ⟨rfl, rfl, rfl, Nat.le_refl _, fun _ _ => rfl⟩
theorem drew_s {w w' : World} {q : Nat} {v : Value} {l : List ByteArray} (h : IsS w v l) (e : w' = w.drewN q) : IsS w' v l := by rw [e]; exact h
set_option maxRecDepth 100000 in
set_option maxHeartbeats 2000000 in
theorem walkB (v : Value) (ss : List ByteArray) (vb : Value) (zs : List Int) (w : World) (hS : IsS w v ss) (hZ : IsI w vb zs) (hlen : ss.length * 16 ≤ 140737488351232) :
    Calls Try.prog 3 #[v, vb] w fun e w' => e = .returned (.bool true) ∧ Below w.heap.size w w' := by
  obtain ⟨a, cap, rfl⟩ := hS.shape
  obtain ⟨a2, cap2, rfl⟩ := hZ.shape
  have HS := hd hS
  have HZ := hd hZ
  clear hS hZ
  go_enter Try.func3, Try.ntmps3
  go_wp2_with fail
  refine Calls.mono (awake_is w) ?_
  rintro e w1 ⟨rfl, hB1⟩
  have HB1 := hd hB1
  clear hB1
  go_wp2_with fail
  refine Calls.mono (sorted_is _ ss w1 (HS.out.below HB1.out rfl) (by omega)) ?_
  rintro e w2 ⟨⟨v2, rfl, hJ2⟩, hB⟩
  have HB2 := hd (HB1.out.trans (hB.mono HB1.out.size))
  obtain ⟨a3, c3, rfl, hle3⟩ := hJ2.shape
  have HA2 := hd hJ2.isS
  have hsl := srt_le ss
  clear hB hJ2 hle3
  go_wp2_with fail
  refine Calls.mono (turned_is _ _ ss zs w2 (HS.out.below HB2.out rfl) (HZ.out.below HB2.out rfl) hlen) ?_
  rintro e w3 ⟨⟨v3, rfl, out, hJ3, hom, hol⟩, hB⟩
  have HB3 := hd (HB2.out.trans (hB.mono HB2.out.size))
  have HA3 := hd (HA2.out.below hB rfl)
  have HE := hd (srt_same hom)
  have HJ3 := hd hJ3.isS
  clear hB hJ3 hom
  go_wp2_with fail
  refine Calls.mono (sorted_is _ out w3 HJ3.out (by omega)) ?_
  rintro e w4 ⟨⟨v4, rfl, hJ4⟩, hB⟩
  have HB4 := hd (HB3.out.trans (hB.mono HB3.out.size))
  have HA4 := hd (HA3.out.below hB rfl)
  rw [HE.out] at hJ4
  have HJ4 := hd hJ4.isS
  clear hB hJ4
  go_wp2_with fail
  refine Calls.mono (sorted_is _ (srt ss) w4 HA4.out (by omega)) ?_
  rintro e w5 ⟨⟨v5, rfl, hJ5⟩, hB⟩
  have HB5 := hd (HB4.out.trans (hB.mono HB4.out.size))
  have HA5 := hd (HA4.out.below hB rfl)
  have HJ45 := hd (HJ4.out.below hB rfl)
  rw [srt_srt] at hJ5
  have HJ5 := hd hJ5.isS
  clear hB hJ5
  go_wp2_with fail
  refine Calls.mono (same_is _ _ (srt ss) w5 HA5.out HJ45.out) ?_
  rintro e w6 ⟨rfl, q6, hw6⟩
  have HB6 := hd (drew_b HB5.out hw6)
  have HA6 := hd (drew_s HA5.out hw6)
  have HJ6 := hd (drew_s HJ5.out hw6)
  clear hw6
  go_wp2_with fail
  refine Calls.mono (same_is _ _ (srt ss) w6 HA6.out HJ6.out) ?_
  rintro e w7 ⟨rfl, q7, hw7⟩
  have HB7 := hd (drew_b HB6.out hw7)
  have HA7 := hd (drew_s HA6.out hw7)
  clear hw7
  have HPW := hd (srt_pw ss)
  have HCT := hd (fun s h => srt_count ss s h)
  clear HJ4 HJ45 HJ5 HJ6 HE HA2 HA3 HA4 HA5 HA6 HB1 HB2 HB3 HB4 HB5 HB6 HJ3
  generalize srt ss = L at *
  have hlm := HA7.out.2.1
  unfold maxLen at hlm
  go_wp2_with fail
  go_loopw [11] (fun i wx => ∃ t q : Nat, t ≤ ss.length ∧ i = .int .i64 (t : Int) ∧ wx = w7.drewN q) (fun i _ => ss.length - (intOf i).toNat)
  case atStart => exact ⟨0, 0, by omega, rfl, rfl⟩
  case round =>
    obtain ⟨t, q4, ht, rfl, hwr⟩ := hrel
    obtain ⟨w8, hww⟩ : ∃ w8, w8 = wr := ⟨_, rfl⟩
    subst hww
    have HW8 := Vt.hd hwr
    have HB8 := hd (drew_b HB7.out hwr)
    have HS8 := hd (drew_s HA7.out hwr)
    clear hwr
    by_cases htl : t < ss.length
    · have HTL : Hid (t + 1 ≤ ss.length) := htl
      have HC1 := hd (HCT.out _ (getD_mem htl))
      have HTL2 := hd htl
      have htli : ((t : Nat) : Int) < (ss.length : Int) := by omega
      clear ht
      go_wp2_with fail
      go_loopw [12, 13] (fun x i wx => ∃ j q : Nat, j ≤ L.length ∧ i = .int .i64 (j : Int) ∧ x = .int .i64 (((L.take j).countP (fun x => decide (x = ss.getD t ByteArray.empty)) : Nat) : Int) ∧ wx = w8.drewN q) (fun _ i _ => L.length - (intOf i).toNat)
      case atStart => exact ⟨0, 0, by omega, rfl, rfl, rfl⟩
      case round =>
        obtain ⟨j, q5, hj, rfl, rfl, hwr⟩ := hrel
        obtain ⟨w9, hww⟩ : ∃ w9, w9 = wr := ⟨_, rfl⟩
        subst hww
        have HW9 := Vt.hd hwr
        have hB9 := drew_b HB8.out hwr
        have hS9 := drew_s HS8.out hwr
        clear hwr
        by_cases hjl : j < L.length
        · have HJL : Hid (j + 1 ≤ L.length) := hjl
          have hSr := HS.out.below hB9 rfl
          obtain ⟨b1, o1, ha1, hbl1, hq1, hcell1, hsz1⟩ := hSr.at HTL2.out
          obtain ⟨b2, o2, ha2, hbl2, hq2, hcell2, hsz2⟩ := hS9.at hjl
          have HTS := hd (take_succ_S hjl)
          have hle := List.countP_le_length (p := fun x => decide (x = ss.getD t ByteArray.empty)) (l := L.take j)
          rw [List.length_take] at hle
          have HCS := hd (List.countP_append (p := fun x => decide (x = ss.getD t ByteArray.empty)) (l₁ := L.take j) (l₂ := [L.getD j ByteArray.empty]))
          rw [← HTS.out] at HCS
          rw [ha1, ha2]
          clear ha1 ha2 hSr hS9 hB9 hj HTS hq1 hq2
          have hqq := seqs (L.getD j ByteArray.empty) (ss.getD t ByteArray.empty)
          have HSG : Hid (List.countP (fun x => decide (x = ss.getD t ByteArray.empty)) [L.getD j ByteArray.empty] = if L.getD j ByteArray.empty = ss.getD t ByteArray.empty then 1 else 0) := by
            show List.countP (fun x => decide (x = ss.getD t ByteArray.empty)) [L.getD j ByteArray.empty] = if L.getD j ByteArray.empty = ss.getD t ByteArray.empty then 1 else 0
            simp
          generalize (L.take j).countP (fun x => decide (x = ss.getD t ByteArray.empty)) = cn at *
          by_cases hse : L.getD j ByteArray.empty = ss.getD t ByteArray.empty
          · rw [if_pos hse] at HSG
            rw [decide_eq_true hse] at hqq
            rw [HSG.out] at HCS
            clear hse HSG
            generalize L.getD j ByteArray.empty = s1 at *
            generalize HG1 : ss.getD t ByteArray.empty = s2 at *
            have HG2 := hd HG1
            clear HG1
            go_wp2_with fail
            go_quiet (fail)
            go_wp2_with fail
            go_roundw
            case rel =>
              obtain ⟨q6, h6⟩ := drewN2 w8 q5 nq
              exact ⟨j + 1, q6, HJL.out, by go_num, by rw [HCS.out]; rfl, by rw [HW9.out]; exact h6⟩
            case measure => have := HJL.out; simp [intOf]; omega
          · rw [if_neg hse] at HSG
            rw [decide_eq_false hse] at hqq
            rw [HSG.out] at HCS
            clear hse HSG
            generalize L.getD j ByteArray.empty = s1 at *
            generalize HG1 : ss.getD t ByteArray.empty = s2 at *
            have HG2 := hd HG1
            clear HG1
            go_wp2_with fail
            go_quiet (fail)
            go_wp2_with fail
            go_roundw
            case rel =>
              obtain ⟨q6, h6⟩ := drewN2 w8 q5 nq
              exact ⟨j + 1, q6, HJL.out, by go_num, by rw [HCS.out]; rfl, by rw [HW9.out]; exact h6⟩
            case measure => have := HJL.out; simp [intOf]; omega
        · have hji2 : ¬ ((j : Nat) : Int) < (L.length : Int) := by omega
          rw [List.take_of_length_le (by omega), HC1.out]
          clear hjl hj hS9 hB9
          go_wp2_with fail
          go_roundw
          case rel =>
            obtain ⟨q6, h6⟩ := drewN2 w7 q4 q5
            exact ⟨t + 1, q6, HTL.out, by go_num, by rw [HW9.out, HW8.out]; exact h6⟩
          case measure => have := HTL.out; simp [intOf]; omega
    · have hti : ¬ ((t : Nat) : Int) < (ss.length : Int) := by omega
      clear htl ht
      go_wp2_with fail
      go_loopw [14] (fun i wx => ∃ t : Nat, 1 ≤ t ∧ (t ≤ L.length ∨ t = 1) ∧ i = .int .i64 (t : Int) ∧ wx = w8) (fun i _ => L.length - (intOf i).toNat)
      case atStart => exact ⟨1, by omega, .inr rfl, rfl, rfl⟩
      case round =>
        obtain ⟨t, ht1, ht2, rfl, hwr⟩ := hrel
        subst hwr
        by_cases htl : t < L.length
        · have HTL : Hid (t + 1 ≤ L.length ∨ t + 1 = 1) := .inl htl
          obtain ⟨p, rfl⟩ : ∃ p, t = p + 1 := ⟨t - 1, by omega⟩
          have htli : ((p : Nat) : Int) + 1 < (L.length : Int) := by omega
          obtain ⟨b1, o1, ha1, hbl1, hq1, hcell1, hsz1⟩ := HS8.out.at (k := p) (by omega)
          obtain ⟨b2, o2, ha2, hbl2, hq2, hcell2, hsz2⟩ := HS8.out.at htl
          rw [ha1] at ha2
          injection ha2 with ha2
          injection ha2 with hb12 ho12
          subst hb12 ho12
          have HF := hd (lt_facts (next_lt HPW.out htl))
          have hle1 := prs_le (bl (L.getD p ByteArray.empty))
          have hle2 := prs_le (bl (L.getD (p + 1) ByteArray.empty))
          rw [ha1]
          clear ha1 hq1 hq2 ht1 ht2
          generalize L.getD p ByteArray.empty = s1 at *
          generalize L.getD (p + 1) ByteArray.empty = s2 at *
          go_wp2_with fail
          refine Calls.mono (parse_is s1 _ hsz1) ?_
          rintro e wr ⟨rfl, rfl⟩
          go_wp2_with fail
          refine Calls.mono (parse_is s2 _ hsz2) ?_
          rintro e wr ⟨rfl, rfl⟩
          have hlt1 := prs_lt (bl s1)
          have hlt2 := prs_lt (bl s2)
          generalize prs (bl s1) = x1 at *
          generalize prs (bl s2) = x2 at *
          obtain ⟨c, m⟩ := x1
          obtain ⟨d, n⟩ := x2
          obtain ⟨f1, f2, f3⟩ := HF.out
          simp only at f1 f2 f3 hle1 hle2 hlt1 hlt2
          clear HF hcell1 hcell2
          by_cases hd1 : d = 1
          · obtain ⟨hc1, hmn⟩ := f1 hd1
            subst hd1 hc1
            have k1 : ¬ ((n : Nat) : Int) ≤ (m : Int) := by omega
            have k2 : ¬ ((n : Nat) : Int) < (m : Int) := by omega
            clear f1 f2 f3
            go_wp2_with fail
            go_roundw
            case rel => exact ⟨p + 1 + 1, by omega, HTL.out, by go_num, trivial⟩
            case measure => have := HTL.out; simp [intOf]; omega
          · have k1 : (((d : Nat) : Int) == 1) = false := by simp; omega
            by_cases hcd : c = d
            · have hmn := f2 hcd
              subst hcd
              have k2 : ¬ ((n : Nat) : Int) < (m : Int) := by omega
              clear f1 f2 f3 hd1
              by_cases hc0 : c = 0
              · subst hc0
                go_wp2_with fail
                go_roundw
                case rel => exact ⟨p + 1 + 1, by omega, HTL.out, by go_num, trivial⟩
                case measure => have := HTL.out; simp [intOf]; omega
              · have k3 : (((c : Nat) : Int) == 0) = false := by simp; omega
                go_wp2_with fail
                go_roundw
                case rel => exact ⟨p + 1 + 1, by omega, HTL.out, by go_num, trivial⟩
                case measure => have := HTL.out; simp [intOf]; omega
            · have k2 : (((c : Nat) : Int) == (d : Int)) = false := by simp; omega
              have hc0 : c ≠ 0 := fun h => hcd (by rw [h, f3 h])
              have k3 : (((c : Nat) : Int) == 0) = false := by simp; omega
              clear f1 f2 f3 hd1 hcd hc0
              go_wp2_with fail
              go_roundw
              case rel => exact ⟨p + 1 + 1, by omega, HTL.out, by go_num, trivial⟩
              case measure => have := HTL.out; simp [intOf]; omega
        · have htli : ¬ ((t : Nat) : Int) < (L.length : Int) := by omega
          clear htl ht1 ht2
          go_wp2_with fail
          go_ret
          exact ⟨rfl, HB8.out⟩
theorem walk (v : Value) (ss : List ByteArray) (a1 : Option Addr) (len1 cap1 : Nat) (z1 : List Int) (w : World) (w0 : IsS w v ss) (w1 : IsRow .i64 w a1 len1 cap1 z1) (rc0 : ss.length * 16 ≤ 140737488351232) :
    Calls Try.prog 3 #[v, .slice a1 len1 cap1] w fun e w' => e = .returned (.bool true) ∧ Below w.heap.size w w' := by
  obtain ⟨zs, hZ⟩ := isI_of w1
  exact walkB v ss _ zs w w0 hZ rc0
set_option linter.unusedVariables false
set_option maxRecDepth 100000 in
theorem lifted (os : Os) (started : os.Started) (H : Type) (enc : TypeId × Value → H) :
    ReturnsInHanded {} Try.checked os 3 .any (Rows.namesOrderSpec.pre6 enc Try.prog Try.f3 Rows.namesOrderRow.domain false) (Rows.namesOrderSpec.post enc Try.prog Try.f3 false true false false) := by
  refine returnsInHanded_of_change_sized (C := Try.checked) own started (by kernel_rfl) Try.func3
    (ChangeSpec.witness6 (enc := enc) (C := Try.checked) false ⟨#[], #[.slice none 0 0, .slice none 0 0], []⟩ 8 (by kernel_rfl) (by kernel_rfl) (by kernel_rfl) (by kernel_rfl)) ?_
  intro W base args ds gs before hval0 hW hcnd hsz0 _
  have hsz : (DataW.weightsEach Try.prog (Try.f3.params.toList ++ Rows.namesOrderSpec.plain.varTypes Try.prog) (ds ++ gs)).all (· ≤ reachBytes) = true := hsz0
  clear hsz0
  have hval : ∀ (j : Nat) t v, Try.f3.params[j]? = some t → args[j]? = some v → Value.okWide Try.prog W .any base t v := hval0
  have hW' := hW
  obtain ⟨p, q, hA0, hV, rfl, hfz, hnd⟩ := hW
  have hA : DataW.TrodAll enc Try.prog W 0 (fun _ => true) true Try.f3.params.toList args.toList ds p := hA0
  rw [Try.params3] at hA hval hsz
  obtain ⟨v0, vs0, d0, ds0, p0, q0, hargs, rfl, rfl, h0, r0⟩ := trodAll_cons hA
  obtain ⟨v1, vs1, d1, ds1, p1, q1, rfl, rfl, rfl, h1, r1⟩ := trodAll_cons r0
  obtain ⟨rfl, rfl, rfl⟩ := trodAll_nil r1
  obtain rfl : args = #[v0, v1] := by cases args; simp_all
  obtain ⟨rfl, rfl⟩ := trodVars_none hV
  obtain ⟨a0, len0, cap0, rfl⟩ := okWide_slice Try.underlying22 (hval 0 22 v0 rfl rfl)
  have k0 := h0
  have lt0 : ∀ x ∈ p0, x.block < W.heap.size := by obtain ⟨m, hm⟩ := k0; exact DataW.trod_lt m _ _ _ hm
  obtain ⟨s0, w0, sl0, sc0, sd0⟩ : ∃ ss : List ByteArray, IsS W (.slice a0 len0 cap0) ss ∧ ss.length = len0 ∧ len0 ≤ cap0 ∧ (cap0 = 0 ∨ ∃ e s, d0 = .slice e s ∧ e.length + s.length = cap0) := by
    obtain ⟨fuel, hf⟩ := h0
    exact strs_open hf
  have rc0 : s0.length * 16 ≤ 140737488351232 := by
    rcases sd0 with hc | ⟨e, s, hd, hes⟩
    · omega
    · have hs := sized_slice hsz (j := 0) rfl (by rw [hd]; rfl) Try.underlying22
      rw [bytes_str] at hs
      simp only [reachBytes] at hs
      omega
  obtain ⟨a1, len1, cap1, rfl⟩ := okWide_slice Try.underlying23 (hval 1 23 v1 rfl rfl)
  have k1 := h1
  have lt1 : ∀ x ∈ p1, x.block < W.heap.size := by obtain ⟨m, hm⟩ := k1; exact DataW.trod_lt m _ _ _ hm
  obtain ⟨z1, w1⟩ : ∃ zs, IsRow .i64 W a1 len1 cap1 zs := by
    obtain ⟨fuel, hf⟩ := h1
    rcases open_ints Try.underlying23 Try.underlying3 (by kernel_rfl) hf with ⟨hcs, _⟩ | ⟨x, l, c, zs, hcs, _, hl, hm, hz, _, hcell, hwz⟩
    · simp [Value.cells] at hcs
      obtain ⟨rfl, rfl, rfl⟩ := hcs
      exact ⟨[], .inl ⟨rfl, rfl, rfl, rfl⟩⟩
    · simp [Value.cells] at hcs
      obtain ⟨rfl, rfl, rfl⟩ := hcs
      exact ⟨zs, .inr ⟨_, rfl, hl, hm, by simpa using hz, hcell, hwz⟩⟩
  clear hA0 hval0
  refine (walk (.slice a0 len0 cap0) s0 a1 len1 cap1 z1 W w0 w1 rc0).mono fun e W' ⟨he, bel⟩ => ?_
  subst he
  exact ⟨_, rfl, _, _, _, [], _, [], hW', trodAll_mk1 (shut_bool Try.underlying4 _), (trodAll_cons_mk (Below.trod laidOut (by kernel_rfl) (of_decide_eq_true (by kernel_rfl)) k0 bel lt0) (trodAll_cons_mk (Below.trod laidOut (by kernel_rfl) (of_decide_eq_true (by kernel_rfl)) k1 bel lt1) trodAll_mk0)), rfl, bel.frame _, fun h => by cases h⟩

theorem over : Rows.namesOrderRow.holds Try.pinned (OpenSpec.ofChange Rows.namesOrderSpec) :=
  OpenClaim.holds_of_wide 3 Try.f3 rfl rfl rfl rfl rfl rfl rfl ⟨rfl, rfl, rfl, rfl, rfl⟩ rfl rfl rfl rfl rfl (by kernel_rfl) Try.func3 (by kernel_rfl)
    (of_decide_eq_true (by kernel_rfl)) (by unfold Func.isWrapper; first | (rw [if_pos (by decide +kernel)]; kernel_rfl) | (rw [if_neg (by decide +kernel)]; exact ⟨rfl, rfl⟩))
    (fun os started H enc _ => lifted os started H enc)
end Nord

theorem namesOrder_holds : Rows.NamesOrderSaid := Nord.over
#print axioms namesOrder_holds
end Go.Proofs.Ytglnhppgoomehab
