/-
  NamesNew: a name that is made by a number which Fresh told, and Temp of it, are none of those that were there; each lesser number is taken; with it, the next one is greater. Without a condition.
-/
import Derived.Test.YtglnhppgoomehaaNlf
namespace Go.Proofs.Ytglnhppgoomehaa
open Go.ChangeShapes Go.WideShapes Go.ChangeAt Go.RowKit
namespace Nnew
open Vt Nam
theorem seq (s : ByteArray) {a : List Nat} (ha : Byt a) : (s.toList == (str a).toList) = decide (bl s = a) := by
  rw [show s.toList = (str (bl s)).toList by rw [str_bl], str_eq (bl_byt s) ha]
/-- does a name tell that a number is taken? -/
def ht (a b : List Nat) (is : Bool) (x : List Nat) : Bool := decide (x = a) || decide (x = a ++ tmpL) || (is && (decide (x = b) || decide (x = b ++ tmpL)))
theorem any_snoc (f : List Nat → Bool) (l : List (List Nat)) (x : List Nat) : (l ++ [x]).any f = (l.any f || f x) := by simp
theorem ht_all {k m : Nat} {ls : List (List Nat)} (hk : Cl k) (hm : Nu m) (h : ∃ l ∈ ls, tk k l = m) : ls.any (ht (mk k m) (pa (mk k m)) (pb (mk k m))) = true := by
  obtain ⟨l, hl, e⟩ := h
  rw [List.any_eq_true]
  refine ⟨l, hl, ?_⟩
  obtain ⟨d, hd, ho, _, hx⟩ := tk_of hm.1 e
  unfold ht
  by_cases hdk : d = k
  · subst hdk
    rcases hx with hx | hx
    · rw [decide_eq_true hx]; rfl
    · rw [decide_eq_true hx]; simp
  · have hp := prs_mk hk hm
    rcases hk with rfl | rfl | rfl
    · have hd2 : d = 2 := by rcases hd with rfl | rfl | rfl <;> simp [ow] at ho hdk ⊢
      subst hd2
      rw [(pa_seg hp).1, (pa_seg hp).2]
      rcases hx with hx | hx
      · rw [decide_eq_true hx]; simp
      · rw [decide_eq_true hx]; simp
    · have hd1 : d = 1 := by rcases hd with rfl | rfl | rfl <;> simp [ow] at ho hdk ⊢
      subst hd1
      rw [(pa_hint hp).1, (pa_hint hp).2]
      rcases hx with hx | hx
      · rw [decide_eq_true hx]; simp
      · rw [decide_eq_true hx]; simp
    · rcases hd with rfl | rfl | rfl <;> simp [ow] at ho hdk ⊢
theorem some_is (v : Value) (ss : List ByteArray) (w : World) (hS : IsS w v ss) :
    Calls Try.prog 18 #[v] w fun e w' => (∃ v', e = .returned v' ∧ IsS w v' (ss.take 1000)) ∧ w' = w := by
  obtain ⟨a, cap, rfl⟩ := hS.shape
  have HS := hd hS
  have hm := hS.2.1
  unfold maxLen at hm
  clear hS
  by_cases h : 1000 < ss.length
  · obtain ⟨h1, h2, ⟨e, _⟩ | ⟨b, off, c, e, h3, h4, h5, h6⟩⟩ := HS.out
    · rw [e] at h; simp at h
    · injection e with e1 e2 e3
      subst e1 e3
      have hl : (ss.take 1000).length = 1000 := by rw [List.length_take]; omega
      have HR : Hid (IsS w (.slice (some ⟨b, off, none⟩) 1000 cap) (ss.take 1000)) := by
        refine ⟨fun s hs => h1 s (List.mem_of_mem_take hs), by omega, .inr ⟨b, off, cap, by rw [hl], by omega, h4, h5, fun j hj => ?_⟩⟩
        rw [hl] at hj
        rw [h6 j (by omega), List.getD_eq_getElem?_getD, List.getD_eq_getElem?_getD, List.getElem?_take_of_lt hj]
      clear h1 h2 h6 e2 hl
      unfold maxLen at h4
      have h7 : 1000 ≤ cap := by omega
      go_enter Try.func18, Try.ntmps18
      go_wp2_with fail
      go_ret
      exact ⟨⟨_, rfl, HR.out⟩, rfl⟩
  · have e : ss.take 1000 = ss := List.take_of_length_le (by omega)
    rw [e]
    clear e
    have h' : ¬ (1000 : Int) < (ss.length : Int) := by omega
    go_enter Try.func18, Try.ntmps18
    go_wp2_with fail
    go_ret
    exact ⟨⟨_, rfl, HS.out⟩, rfl⟩
set_option maxRecDepth 100000 in
set_option maxHeartbeats 1000000 in
theorem walkB (v : Value) (ss : List ByteArray) (c : Int) (w : World) (hS : IsS w v ss) (h1 : -9223372036854775808 ≤ c) (h2 : c ≤ 9223372036854775807) :
    Calls Try.prog 8 #[v, .int .i64 c] w fun e w' => e = .returned (.bool true) ∧ Below w.heap.size w w' := by
  have HS0 := hd hS
  clear hS
  go_enter Try.func8, Try.ntmps8
  go_wp2_with fail
  refine Calls.mono (some_is v ss w HS0.out) ?_
  rintro e w0 ⟨⟨v1, rfl, hS1⟩, rfl⟩
  have hlen : (ss.take 1000).length ≤ 1000 := by rw [List.length_take]; omega
  clear HS0
  generalize ss.take 1000 = ss at *
  have HS1 := hd hS1
  obtain ⟨a, cap, rfl⟩ := hS1.shape
  clear hS1
  go_wp2_with fail
  refine Calls.mono (awake_is _) ?_
  rintro e w1 ⟨rfl, hB1⟩
  have HB1 := hd hB1
  clear hB1
  go_wp2_with fail
  refine Calls.mono (sort_is c _ h1 h2) ?_
  rintro e w1 ⟨rfl, rfl⟩
  have HK := hd (so_cl c)
  generalize so c = k at *
  go_wp2_with fail
  refine Calls.mono (fresh_ok k HK.out _ ss _ (HS1.out.below HB1.out rfl) (by omega)) ?_
  rintro e w2 ⟨⟨n, hF, rfl⟩, hB⟩
  have HB2 := hd (HB1.out.trans (hB.mono HB1.out.size))
  have HF := hd hF
  have hn1 : 1 ≤ n := hF.1
  have hn2 : n ≤ ss.length + 1 := by have := hF.2.1; rw [List.length_map] at this; exact this
  have HNU : Hid (Nu n) := by show Nu n; exact ⟨by omega, by omega⟩
  clear hB hF
  go_wp2_with fail
  refine Calls.mono (make_ok k n HK.out HNU.out _) ?_
  rintro e w3 ⟨rfl, hB⟩
  have HB3 := hd (HB2.out.trans (hB.mono HB2.out.size))
  clear hB
  go_wp2_with fail
  refine Calls.mono (temp_is _ _ (Nat.le_trans mk_size (by omega))) ?_
  rintro e w3 ⟨rfl, rfl⟩
  rw [bl_str (mk_byt k n)]
  go_wp2_with fail
  go_loop [12] (fun i => ∃ j : Nat, j ≤ ss.length ∧ i = .int .i64 (j : Int)) (fun i => ss.length - (intOf i).toNat)
  case atStart => exact ⟨0, by omega, rfl⟩
  case round =>
    obtain ⟨j, hj, rfl⟩ := hrel
    by_cases hlt : j < ss.length
    · have hSr := HS1.out.below HB3.out rfl
      obtain ⟨b, off, ha, hbl, _, hcell, hsz⟩ := hSr.at hlt
      have hmem : ss.getD j ByteArray.empty ∈ ss := by
        rw [List.getD_eq_getElem?_getD, List.getElem?_eq_getElem hlt]; exact List.getElem_mem hlt
      have hne := HF.out.2.2.1 (bl (ss.getD j ByteArray.empty)) (List.mem_map.2 ⟨_, hmem, rfl⟩)
      have q1 : ((ss.getD j ByteArray.empty).toList == (str (mk k n)).toList) = false := by
        rw [seq _ (mk_byt k n)]
        refine decide_eq_false fun h => hne ?_
        rw [h]; exact (tk_mk HK.out HNU.out rfl).1
      have q2 : ((ss.getD j ByteArray.empty).toList == (str (mk k n ++ tmpL)).toList) = false := by
        rw [seq _ (byt_app (mk_byt k n) tmp_byt)]
        refine decide_eq_false fun h => hne ?_
        rw [h]; exact (tk_mk HK.out HNU.out rfl).2
      clear hSr hmem hne
      rw [ha]
      clear ha
      generalize ss.getD j ByteArray.empty = s at *
      go_wp2_with fail
      go_round
      case rel => exact ⟨j + 1, by omega, by go_num⟩
      case measure => simp [intOf]; omega
    · have hli : ¬ ((j : Nat) : Int) < (ss.length : Int) := by omega
      clear hlt hj
      go_wp2_with fail
      go_loopw [13] (fun i wr => ∃ m : Nat, 1 ≤ m ∧ m ≤ n ∧ i = .int .u32 (m : Int) ∧ Below w0.heap.size w0 wr) (fun i _ => n - (intOf i).toNat)
      case atStart => exact ⟨1, by omega, hn1, rfl, HB3.out⟩
      case round =>
        obtain ⟨m, hm1, hm2, rfl, hBr⟩ := hrel
        have HBr := hd hBr
        clear hBr
        by_cases hmn : m < n
        · have HNM : Hid (Nu m) := by show Nu m; exact ⟨by omega, by omega⟩
          have HAN := hd (ht_all HK.out HNM.out (HF.out.2.2.2 m hm1 hmn))
          go_wp2_with fail
          refine Calls.mono (make_ok k m HK.out HNM.out _) ?_
          rintro e w4 ⟨rfl, hB⟩
          have HB4 := hd (HBr.out.trans (hB.mono HBr.out.size))
          clear hB
          go_wp2_with fail
          refine Calls.mono (pair_is _ _ (Nat.le_trans mk_size (by unfold maxLen; omega))) ?_
          rintro e w5 ⟨rfl, hB⟩
          have HB5 := hd (HB4.out.trans (hB.mono HB4.out.size))
          clear hB
          rw [bl_str (mk_byt k m)]
          have hpz : (str (pa (mk k m))).size ≤ 17 := by
            unfold pa; split
            · exact mk_size
            · split
              · exact mk_size
              · decide
          have hpb : Byt (pa (mk k m)) := by
            unfold pa; split
            · exact mk_byt _ _
            · split
              · exact mk_byt _ _
              · exact byt_nil
          have HPB := hd hpb
          have HPZ := hd hpz
          clear hpb hpz
          have HMB := hd (mk_byt k m)
          have HMZ := hd (mk_size (c := k) (n := m))
          generalize pa (mk k m) = A2 at *
          generalize pb (mk k m) = is at *
          generalize mk k m = A1 at *
          go_wp2_with fail
--INNER
          go_loopw [18, 19] (fun t i wr => ∃ j q : Nat, j ≤ ss.length ∧ i = .int .i64 (j : Int) ∧ t = .bool (((ss.take j).map bl).any (ht A1 A2 is)) ∧ wr = w5.drewN q) (fun _ i _ => ss.length - (intOf i).toNat)
          case atStart => exact ⟨0, 0, by omega, rfl, rfl, rfl⟩
          case round =>
            obtain ⟨j2, q2, hj2, rfl, rfl, hwr⟩ := hrel
            obtain ⟨w6, hww⟩ : ∃ w6, w6 = wr := ⟨_, rfl⟩
            subst hww
            have HW6 := hd hwr
            have HB6 : Hid (Below w0.heap.size w0 w6) := by
              show Below w0.heap.size w0 w6
              rw [hwr]; exact HB5.out.trans ⟨rfl, rfl, rfl, Nat.le_refl _, fun _ _ => rfl⟩
            clear hwr
            by_cases hlt : j2 < ss.length
            · have HLT : Hid (j2 + 1 ≤ ss.length) := hlt
              have hSr := HS1.out.below HB6.out rfl
              obtain ⟨b, off, ha, hbl, _, hcell, hsz⟩ := hSr.at hlt
              have HTS := hd (congrArg (List.map bl) (take_succ_S hlt))
              rw [List.map_append, List.map_cons, List.map_nil] at HTS
              clear hSr hj2
              rw [ha]
              clear ha
              generalize ss.getD j2 ByteArray.empty = s at *
              obtain ⟨T, hT⟩ : ∃ T, ((ss.take j2).map bl).any (ht A1 A2 is) = T := ⟨_, rfl⟩
              have HTV := hd hT
              rw [hT]
              clear hT
              have HT1 : Hid (∀ w, Calls Try.prog 16 #[.string (str A1)] w fun e w' => e = .returned (.string (str (A1 ++ tmpL))) ∧ w' = w) := by
                show ∀ w, Calls Try.prog 16 #[.string (str A1)] w fun e w' => e = .returned (.string (str (A1 ++ tmpL))) ∧ w' = w
                intro w
                have := temp_is (str A1) w (Nat.le_trans HMZ.out (by omega))
                rwa [bl_str HMB.out] at this
              have HT2 : Hid (∀ w, Calls Try.prog 16 #[.string (str A2)] w fun e w' => e = .returned (.string (str (A2 ++ tmpL))) ∧ w' = w) := by
                show ∀ w, Calls Try.prog 16 #[.string (str A2)] w fun e w' => e = .returned (.string (str (A2 ++ tmpL))) ∧ w' = w
                intro w
                have := temp_is (str A2) w (Nat.le_trans HPZ.out (by omega))
                rwa [bl_str HPB.out] at this
              have q1 := seq s HMB.out
              have q2' := seq s (byt_app HMB.out tmp_byt)
              have q3' := seq s HPB.out
              have q4 := seq s (byt_app HPB.out tmp_byt)
              have HH : Hid (ht A1 A2 is (bl s) = (decide (bl s = A1) || decide (bl s = A1 ++ tmpL) || (is && (decide (bl s = A2) || decide (bl s = A2 ++ tmpL))))) := rfl
              generalize decide (bl s = A1) = b1 at *
              generalize decide (bl s = A1 ++ tmpL) = b2 at *
              generalize decide (bl s = A2) = b3 at *
              generalize decide (bl s = A2 ++ tmpL) = b4 at *
              cases T with
              | true =>
                go_wp2_with fail
                go_quiet (first | (go_at_call 16; first | exact Calls.quiet_of_same (HT1.out _) | exact Calls.quiet_of_same (HT2.out _)))
                go_wp2_with fail
                obtain ⟨q3, h3⟩ := drewN2 w5 q2 nq
                exact ⟨⟨j2 + 1, q3, HLT.out, by go_num, by rw [HTS.out, any_snoc, HTV.out, HH.out]; rfl, by rw [HW6.out]; exact h3⟩, by have := HLT.out; simp [intOf]; omega⟩
              | false =>
                cases b1 with
                | true =>
                  go_wp2_with fail
                  go_quiet (first | (go_at_call 16; first | exact Calls.quiet_of_same (HT1.out _) | exact Calls.quiet_of_same (HT2.out _)))
                  go_wp2_with fail
                  obtain ⟨q3, h3⟩ := drewN2 w5 q2 nq
                  exact ⟨⟨j2 + 1, q3, HLT.out, by go_num, by rw [HTS.out, any_snoc, HTV.out, HH.out]; rfl, by rw [HW6.out]; exact h3⟩, by have := HLT.out; simp [intOf]; omega⟩
                | false =>
                  cases b2 with
                  | true =>
                    go_wp2_with fail
                    go_quiet (first | (go_at_call 16; first | exact Calls.quiet_of_same (HT1.out _) | exact Calls.quiet_of_same (HT2.out _)))
                    go_wp2_with fail
                    obtain ⟨q3, h3⟩ := drewN2 w5 q2 nq
                    exact ⟨⟨j2 + 1, q3, HLT.out, by go_num, by rw [HTS.out, any_snoc, HTV.out, HH.out]; rfl, by rw [HW6.out]; exact h3⟩, by have := HLT.out; simp [intOf]; omega⟩
                  | false =>
                    cases is with
                    | false =>
                      go_wp2_with fail
                      go_quiet (first | (go_at_call 16; first | exact Calls.quiet_of_same (HT1.out _) | exact Calls.quiet_of_same (HT2.out _)))
                      go_wp2_with fail
                      obtain ⟨q3, h3⟩ := drewN2 w5 q2 nq
                      exact ⟨⟨j2 + 1, q3, HLT.out, by go_num, by rw [HTS.out, any_snoc, HTV.out, HH.out]; rfl, by rw [HW6.out]; exact h3⟩, by have := HLT.out; simp [intOf]; omega⟩
                    | true =>
                      cases b3 with
                      | true =>
                        go_wp2_with fail
                        go_quiet (first | (go_at_call 16; first | exact Calls.quiet_of_same (HT1.out _) | exact Calls.quiet_of_same (HT2.out _)))
                        go_wp2_with fail
                        obtain ⟨q3, h3⟩ := drewN2 w5 q2 nq
                        exact ⟨⟨j2 + 1, q3, HLT.out, by go_num, by rw [HTS.out, any_snoc, HTV.out, HH.out]; rfl, by rw [HW6.out]; exact h3⟩, by have := HLT.out; simp [intOf]; omega⟩
                      | false =>
                        cases b4 with
                        | true =>
                          go_wp2_with fail
                          go_quiet (first | (go_at_call 16; first | exact Calls.quiet_of_same (HT1.out _) | exact Calls.quiet_of_same (HT2.out _)))
                          go_wp2_with fail
                          obtain ⟨q3, h3⟩ := drewN2 w5 q2 nq
                          exact ⟨⟨j2 + 1, q3, HLT.out, by go_num, by rw [HTS.out, any_snoc, HTV.out, HH.out]; rfl, by rw [HW6.out]; exact h3⟩, by have := HLT.out; simp [intOf]; omega⟩
                        | false =>
                          go_wp2_with fail
                          go_quiet (first | (go_at_call 16; first | exact Calls.quiet_of_same (HT1.out _) | exact Calls.quiet_of_same (HT2.out _)))
                          go_wp2_with fail
                          obtain ⟨q3, h3⟩ := drewN2 w5 q2 nq
                          exact ⟨⟨j2 + 1, q3, HLT.out, by go_num, by rw [HTS.out, any_snoc, HTV.out, HH.out]; rfl, by rw [HW6.out]; exact h3⟩, by have := HLT.out; simp [intOf]; omega⟩
            · have hli2 : ¬ ((j2 : Nat) : Int) < (ss.length : Int) := by omega
              rw [List.take_of_length_le (by omega), HAN.out]
              have HMN : Hid (m + 1 ≤ n) := hmn
              clear hlt hj2 hmn
              go_wp2_with fail
              exact ⟨⟨m + 1, by omega, HMN.out, by go_num, HB6.out⟩, by have := HMN.out; simp [intOf]; omega⟩
--RENNI
        · have HMN : Hid (m = n) := by show m = n; omega
          have hmi : ¬ ((m : Nat) : Int) < (n : Int) := by omega
          have HSr := hd (HS1.out.below HBr.out rfl)
          clear hm1 hm2 hmn
          have hz17 := mk_size (c := k) (n := n)
          go_wp2_with (first
            | (at_builtin; refine wpList_append_ss wr rfl _ _ rfl wr.heap.size _ _ [] ss rfl rfl (js_nil _ _) HSr.out ss.length (by simp) ss rfl (by omega) (by omega) (Nat.le_refl _) ?_; intro a7 c7 w7 hJ7 hg7 hb7 hl7; have HB7 := hd ((js_nil wr wr.heap.size).grown (Below.refl wr.heap.size wr) (Nat.le_refl _) (Nat.le_refl _) hg7); have HJ7 := hd hJ7; clear hJ7 hg7 hb7 hl7)
            | (at_builtin; refine wpList_append_ss _ rfl _ _ rfl wr.heap.size (.slice a7 ss.length c7) (.slice (some ⟨w7.heap.size, 0, none⟩) 1 1) ss [str (mk k n)] rfl rfl (HJ7.out.keepAll ((Below.refl _ _).alloc (Nat.le_refl _) _)) (lit_isS w7 _ _ _ rfl (Nat.le_trans hz17 (by unfold maxLen; omega))) (ss.length + 1) rfl (ss ++ [str (mk k n)]) rfl (by omega) (by omega) (by have := HB7.out.size; simp; omega) ?_; intro a8 c8 w8 hJ8 hg8 hb8 hl8; have HB8 := hd ((HJ7.out.keepAll ((Below.refl _ _).alloc (Nat.le_refl _) _)).grown (HB7.out.alloc HB7.out.size _) (Nat.le_refl _) (by have := HB7.out.size; simp; omega) hg8); have HJ8 := hd hJ8; clear hJ8 hg8 hb8 hl8))
          refine Calls.mono (fresh_ok k HK.out _ (ss ++ [str (mk k n)]) _ HJ8.out.isS (by simp; omega)) ?_
          rintro e w9 ⟨⟨m2, hF2, rfl⟩, hB9⟩
          have HB9 := hd (HBr.out.trans ((HB8.out.trans (hB9.mono HB8.out.size)).mono HBr.out.size))
          have hlt2 : n < m2 := by
            rw [List.map_append, List.map_cons, List.map_nil, bl_str (mk_byt k n)] at hF2
            exact HF.out.next (tk_mk HK.out HNU.out rfl).1 hF2
          clear hF2 hB9
          go_wp2_with fail
          go_ret
          exact ⟨rfl, HB9.out⟩
theorem walk (v : Value) (ss : List ByteArray) (a1 : Int) (w : World) (w0 : IsS w v ss) (w1 : (Lit.int .i64 a1).wf = true) :
    Calls Try.prog 8 #[v, .int .i64 a1] w fun e w' => e = .returned (.bool true) ∧ Below w.heap.size w w' := by
  have h1 := bounds_i64 w1
  exact walkB v ss a1 w w0 (by omega) (by omega)
set_option linter.unusedVariables false
set_option maxRecDepth 100000 in
theorem lifted (os : Os) (started : os.Started) (H : Type) (enc : TypeId × Value → H) :
    ReturnsInHanded {} Try.checked os 8 .any (Rows.namesNewSpec.pre6 enc Try.prog Try.f8 Rows.namesNewRow.domain false) (Rows.namesNewSpec.post enc Try.prog Try.f8 false true false false) := by
  refine returnsInHanded_of_change (C := Try.checked) own started (by kernel_rfl) Try.func8
    (ChangeSpec.witness6 (enc := enc) (C := Try.checked) false ⟨#[], #[.slice none 0 0, .int .i64 0], []⟩ 8 (by kernel_rfl) (by kernel_rfl) (by kernel_rfl) (by kernel_rfl)) ?_
  intro W base args ds gs before hval0 hW hcnd _
  have hval : ∀ (j : Nat) t v, Try.f8.params[j]? = some t → args[j]? = some v → Value.okWide Try.prog W .any base t v := hval0
  have hW' := hW
  obtain ⟨p, q, hA0, hV, rfl, hfz, hnd⟩ := hW
  have hA : DataW.TrodAll enc Try.prog W 0 (fun _ => true) true Try.f8.params.toList args.toList ds p := hA0
  rw [Try.params8] at hA hval
  obtain ⟨v0, vs0, d0, ds0, p0, q0, hargs, rfl, rfl, h0, r0⟩ := trodAll_cons hA
  obtain ⟨v1, vs1, d1, ds1, p1, q1, rfl, rfl, rfl, h1, r1⟩ := trodAll_cons r0
  obtain ⟨rfl, rfl, rfl⟩ := trodAll_nil r1
  obtain rfl : args = #[v0, v1] := by cases args; simp_all
  obtain ⟨rfl, rfl⟩ := trodVars_none hV
  obtain ⟨a0, len0, cap0, rfl⟩ := okWide_slice Try.underlying42 (hval 0 42 v0 rfl rfl)
  have k0 := h0
  have lt0 : ∀ x ∈ p0, x.block < W.heap.size := by obtain ⟨m, hm⟩ := k0; exact DataW.trod_lt m _ _ _ hm
  obtain ⟨s0, w0, sl0, sc0, sd0⟩ : ∃ ss : List ByteArray, IsS W (.slice a0 len0 cap0) ss ∧ ss.length = len0 ∧ len0 ≤ cap0 ∧ (cap0 = 0 ∨ ∃ e s, d0 = .slice e s ∧ e.length + s.length = cap0) := by
    obtain ⟨fuel, hf⟩ := h0
    exact strs_open hf
  obtain ⟨a1, rfl, rfl, rfl, w1⟩ := open_int Try.underlying3 (hval 1 3 v1 rfl rfl) h1
  clear hA0 hval0
  refine (walk (.slice a0 len0 cap0) s0 a1 W w0 w1).mono fun e W' ⟨he, bel⟩ => ?_
  subst he
  exact ⟨_, rfl, _, _, _, [], _, [], hW', trodAll_mk1 (shut_bool Try.underlying4 _), (trodAll_cons_mk (Below.trod laidOut (by kernel_rfl) (of_decide_eq_true (by kernel_rfl)) k0 bel lt0) (trodAll_cons_mk (shut_int Try.underlying3 w1) trodAll_mk0)), rfl, bel.frame _, fun h => by cases h⟩

theorem over : Rows.namesNewRow.holds Try.pinned (OpenSpec.ofChange Rows.namesNewSpec) :=
  OpenClaim.holds_of_wide 8 Try.f8 rfl rfl rfl rfl rfl rfl rfl ⟨rfl, rfl, rfl, rfl, rfl⟩ rfl rfl rfl rfl rfl (by kernel_rfl) Try.func8 (by kernel_rfl)
    (of_decide_eq_true (by kernel_rfl)) (by unfold Func.isWrapper; first | (rw [if_pos (by decide +kernel)]; kernel_rfl) | (rw [if_neg (by decide +kernel)]; exact ⟨rfl, rfl⟩))
    (fun os started H enc _ => lifted os started H enc)
end Nnew

theorem namesNew_holds : Rows.NamesNewSaid := Nnew.over
#print axioms namesNew_holds
end Go.Proofs.Ytglnhppgoomehaa
