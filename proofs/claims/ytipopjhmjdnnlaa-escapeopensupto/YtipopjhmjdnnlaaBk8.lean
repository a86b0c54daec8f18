/-
  THE WALKS OF the document's own Open; of the law's num.
-/
import Derived.Test.YtipopjhmjdnnlaaBk7
import Derived.Test.YtipopjhmjdnnlaaE7
namespace Go.Proofs.Ytipopjhmjdnnlaa
open Go.RowKit
namespace Ow
open Vt
set_option maxRecDepth 100000 in
set_option maxHeartbeats 1000000 in
theorem num_is (z : Int) (w : World) : Calls Try.prog 16 #[.int .i64 z] w fun e w' => e = .returned (.int .i64 z) ∧ w' = w := by
  go_enter Try.func16, Try.ntmps16
  go_wp2_with fail
  go_ret
  exact ⟨rfl, rfl⟩
set_option maxRecDepth 100000 in
set_option maxHeartbeats 1000000 in
theorem ropen_is (v : Value) (l : List Nat) (w : World) (h : IsB w v l) (hm : l.length ≤ 1048576) : Calls Try.prog 11 #[v] w (OpenPost w l) := by
  have HL := hd (look_is v l w h hm)
  obtain ⟨a, c, rfl⟩ := h.shape
  clear h
  go_enter Try.func11, Try.ntmps11
  go_wp2_with fail
  refine Calls.mono HL.out ?_
  rintro e w1 ⟨vP, vQ, rfl, hP, hQ, hb⟩
  obtain ⟨aP, cP, rfl, _⟩ := hP.shape
  obtain ⟨aQ, cQ, rfl, _⟩ := hQ.shape
  have HP := hd hP
  have HB := hd hb
  clear HL hP hQ hb
  by_cases hz : (badB 0 l).1 = 0
  · have HZ := hd (badB_zero hz)
    have HO : Hid (opn l = plain l) := by show opn l = _; unfold opn; rw [if_pos hz]
    rw [HZ.out]
    clear hz
    go_wp2_with fail
    go_ret3
    refine ⟨.slice aP (plain l).length cP, ?_, ?_, HB.out.alloc HB.out.size _⟩
    · rw [HZ.out]; rfl
    · rw [HO.out]; exact jb_alloc HP.out _
  · have HO : Hid (opn l = []) := by show opn l = _; unfold opn; rw [if_neg hz]
    have hne : (((badB 0 l).1 : Int) != 0) = true := by simp; omega
    go_wp2_with fail
    go_quiet (fail)
    go_wp2_with fail
    go_ret3
    refine ⟨.slice none 0 0, rfl, ?_, drewB (HB.out.alloc HB.out.size _) _⟩
    rw [HO.out]; exact ⟨byt_nil, own_nil _ _⟩
/-- a row that came out is its owner's, and new -/
theorem jv_new {w : World} {base N : Nat} {v : Value} {xs : List Value} (h : JV E8 w N v xs) (hb : base ≤ N) : JV E8 w base v xs ∧ ∀ g, v.ownBlock = some g → N ≤ g ∧ g < w.heap.size := ⟨h.mono hb, fun g e => ⟨h.blk_ge g e, h.blk_lt g e⟩⟩
theorem opn_len (l : List Nat) : (opn l).length ≤ l.length := by
  unfold opn
  split
  · exact plain_len l
  · simp
set_option maxRecDepth 100000 in
set_option maxHeartbeats 4000000 in
theorem bopen_is (base X m : Nat) (VH VA v : Value) (hs : List (Value × List Nat)) (al : List (Value × Nat × Nat)) (l : List Nat) (w : World) (hK : BK w base X m VH VA hs al) (hX : base ≤ X) (hI : IsB w v l) (hl : hs.length ≤ 900) (hm : l.length ≤ 1048576) :
    Calls Try.prog 5 #[.pointer (some ⟨X, 0, none⟩), v] w fun e w' => e = .returned (.bool true) ∧ (∃ VH' add, BK w' base X m VH' VA (hs ++ add) al ∧ add.length = 3 ∧ ∀ p ∈ add, p.2.length ≤ 130000000000000) ∧ Below base w w' := by
  have HK := hd hK
  have HI := hd hI
  have hbX : base ≤ w.heap.size := Nat.le_of_lt (Nat.lt_of_le_of_lt hX hK.box.lt)
  obtain ⟨a, c, rfl⟩ := hI.shape
  clear hK hI
  go_enter Try.func5, Try.ntmps5
  go_wp2_with fail
  refine Calls.mono (room_is _ l w HI.out (by omega)) ?_
  rintro e w1 ⟨rfl, hj1, hb1⟩
  obtain ⟨N0, hN0⟩ : ∃ N0, N0 = w.heap.size := ⟨_, rfl⟩
  have HN0 := hd hN0
  rw [← hN0] at hj1 hb1 hbX ⊢
  have hin1 : Mad w1 N0 (mk8 l) := ⟨mk8_byt HI.out.1, by rw [mk8_len]; unfold maxLen; omega, hj1.block (by rw [mk8_len])⟩
  have HIN1 := hd hin1
  have HB1 := hd hb1
  have HI1 : Hid (IsB w1 (.slice (some ⟨N0, 0, none⟩) l.length (l.length + 8)) l) := by
    have := hin1.buf
    rw [mk8_len] at this
    exact lent_isB this
  have hlt1 := hin1.blk.lt
  clear hj1 hb1 hN0 hin1
  go_wp2_with fail
  refine Calls.mono (open_is _ l w1 HI1.out (by omega)) ?_
  rintro e w2 ⟨uA, rfl, hj2, hb2⟩
  obtain ⟨N1, hN1⟩ : ∃ N1, N1 = w1.heap.size := ⟨_, rfl⟩
  rw [← hN1] at hj2 hb2 hlt1
  have HN1 := hd hN1
  have HBO : Hid (Byt (opn l)) := hj2.1
  obtain ⟨hA2, hfA⟩ := jv_new (jv_of hj2) (show base ≤ N1 by omega)
  have hlt2 : N1 ≤ w2.heap.size := by have := hb2.size; omega
  have HA2 := hd hA2
  have HFA1 : Hid (∀ g, uA.ownBlock = some g → N1 ≤ g ∧ g < w2.heap.size) := hfA
  have HI2 := hd (HI1.out.below (HN1.out ▸ hb2))
  have HIN2 : Hid (Mad w2 N0 (mk8 l)) := HIN1.out.same (hb2.block N0 hlt1)
  have HW2 : Hid (Below N0 w w2) := HB1.out.trans (hb2.mono (Nat.le_of_lt hlt1))
  obtain ⟨aA, cA, hsA, _⟩ := hj2.shape
  obtain ⟨L, hL⟩ : ∃ L, L = (opn l).length := ⟨_, rfl⟩
  have HL := hd hL
  have hL2 : L ≤ 1048576 := by have := opn_len l; omega
  rw [← hL] at hsA
  subst hsA
  clear hj2 hb2 hN1 hL HIN1 HI1 HB1 hA2 hfA
  go_wp2_with fail
  refine Calls.mono (open_is _ l w2 HI2.out (by omega)) ?_
  rintro e w3 ⟨uC, rfl, hj3, hb3⟩
  obtain ⟨N2, hN2⟩ : ∃ N2, N2 = w2.heap.size := ⟨_, rfl⟩
  rw [← hN2] at hj3 hb3 hlt2 HFA1
  have HN2 := hd hN2
  obtain ⟨hC3, hfC⟩ := jv_new (jv_of hj3) (show base ≤ N2 by omega)
  have HC3 := hd hC3
  have HFC1 : Hid (∀ g, uC.ownBlock = some g → N2 ≤ g ∧ g < w3.heap.size) := hfC
  have hlt3 : N2 ≤ w3.heap.size := by have := hb3.size; omega
  have HA3 := hd (HA2.out.below (HN2.out ▸ hb3))
  have HIN3 : Hid (Mad w3 N0 (mk8 l)) := HIN2.out.same (hb3.block N0 (by omega))
  have HW3 : Hid (Below N0 w w3) := HW2.out.trans (hb3.mono (by omega))
  obtain ⟨aC, cC, hsC, _⟩ := hj3.shape
  rw [← HL.out] at hsC
  subst hsC
  clear hj3 hb3 hN2 HIN2 HI2 HW2 HA2 hC3 hfC
  go_wp2_with fail
  refine Calls.mono (ropen_is _ l w3 (HI.out.below (HN0.out ▸ HW3.out)) hm) ?_
  rintro e w4 ⟨uD, rfl, hj4, hb4⟩
  obtain ⟨ak, ck, hsD, _⟩ := hj4.shape
  rw [← HL.out] at hsD
  subst hsD
  have hs4 := hb4.size
  have HD4 := hd hj4
  have HC4 := hd (HC3.out.below hb4)
  have HA4 := hd (HA3.out.below hb4)
  have HIN4 : Hid (Mad w4 N0 (mk8 l)) := HIN3.out.same (hb4.block N0 (by omega))
  have HW4 : Hid (Below N0 w w4) := HW3.out.trans (hb4.mono (by omega))
  clear hj4 hb4 HIN3 HW3 HA3 HC3
  go_wp2_with fail
  refine Calls.mono (esame_is _ _ (opn l) (opn l) w4 (jv_isB HBO.out HA4.out) HD4.out.isB) ?_
  rintro e w4' ⟨rfl, rfl⟩
  rw [decide_eq_true (rfl : opn l = opn l)]
  go_wp2_with fail
  refine Calls.mono (whole_is N0 (l.length + 8) _ l w4' (by have := HIN4.out.buf; rw [mk8_len] at this; exact this) (HI.out.below (HN0.out ▸ HW4.out))) ?_
  rintro e w5 ⟨rfl, nn, hw5⟩
  have HFH : Hid (∀ p ∈ hs, ∀ g, p.1.ownBlock = some g → g < N0) := fun p hp g e => by have := (HK.out.held p hp).1.blk_lt g e; have := HN0.out; omega
  have HFA : Hid (∀ p ∈ al, ∀ g, p.1.ownBlock = some g → g < N0) := fun p hp g e => by have := (HK.out.all p hp).blk_lt g e; have := HN0.out; omega
  have HA5 : Hid (JV E8 w5 base (.slice aA L cA) (bs (opn l))) := by rw [hw5]; exact HA4.out
  have HC5 : Hid (JV E8 w5 base (.slice aC L cC) (bs (opn l))) := by rw [hw5]; exact HC4.out
  have HD5 : Hid (JV E8 w5 base (.slice ak L ck) (bs (opn l))) := by rw [hw5]; exact (jv_of HD4.out).mono (by omega)
  have HIN5 : Hid (Mad w5 N0 (mk8 l)) := by rw [hw5]; exact HIN4.out.same rfl
  have HW5 : Hid (Below N0 w w5) := by rw [hw5]; exact drewB HW4.out _
  have HK5 : Hid (BK w5 base X m VH VA hs al) := HK.out.keep (HN0.out ▸ HW5.out)
  have hs5 : w3.heap.size ≤ w5.heap.size := by rw [hw5]; exact hs4
  clear hw5 HA4 HC4 HD4 HIN4 HW4
  go_wp2_with fail
  refine Calls.mono (keep_is base X m VH VA _ _ hs al (opn l) w5 HK5.out hX (jv_isB HBO.out HD5.out) HA5.out (by omega) (fun p hp g e q => by
    have h1 := HFH.out p hp g q
    have h2 := HFA1.out g e
    omega) (fun p hp g q e => by
    have h1 := HFA.out p hp g q
    have h2 := HFA1.out g e
    omega)) ?_
  rintro e w6 ⟨⟨u6, rfl⟩, ⟨VH6, hK6⟩, hb6, hk6⟩
  have HK6 := hd hK6
  have HC6 := hd (hk6.jv HC5.out)
  have HD6 := hd (hk6.jv HD5.out)
  have HIN6 : Hid (Mad w6 N0 (mk8 l)) := HIN5.out.same (hk6.2 N0 (blk_bt HIN5.out.blk))
  have HW6 : Hid (Below base w w6) := (HW5.out.mono hbX).trans hb6
  have hs6 : w3.heap.size ≤ w6.heap.size := Nat.le_trans hs5 hk6.1
  clear hK6 hb6 hk6 HA5 HC5 HD5 HIN5 HW5 HK5
  go_wp2_with fail
  refine Calls.mono (keep_is base X m VH6 VA _ _ (hs ++ [(.slice aA L cA, opn l)]) al (opn l) w6 HK6.out hX (jv_isB HBO.out HD6.out) HC6.out (by simp; omega) (fun p hp g e q => by
    have h2 := HFC1.out g e
    rcases List.mem_append.1 hp with hp | hp
    · have h1 := HFH.out p hp g q; omega
    · simp at hp; subst hp
      have h3 := HFA1.out g q
      omega) (fun p hp g q e => by
    have h1 := HFA.out p hp g q
    have h2 := HFC1.out g e
    omega)) ?_
  rintro e w7 ⟨⟨u7, rfl⟩, ⟨VH7, hK7⟩, hb7, hk7⟩
  have HK7 := hd hK7
  have HIN7 : Hid (Mad w7 N0 (mk8 l)) := HIN6.out.same (hk7.2 N0 (blk_bt HIN6.out.blk))
  have HW7 : Hid (Below base w w7) := HW6.out.trans hb7
  have hs7 : w3.heap.size ≤ w7.heap.size := Nat.le_trans hs6 hk7.1
  clear hK7 hb7 hk7 HC6 HD6 HIN6 HW6 HK6
  go_wp2_with fail
  have ht := turnedB_is N0 l.length (mk8 l) w7 HIN7.out (by rw [mk8_len]; omega)
  rw [mk8_len] at ht
  refine Calls.mono ht ?_
  rintro e w8 ⟨⟨u8, rfl⟩, F, hF, hM8, ho8⟩
  clear ht
  have HF := hd hF
  have HM8 := hd hM8
  obtain ⟨l2, hl2⟩ : ∃ l2, l2 = F.take l.length := ⟨_, rfl⟩
  have hll2 : l2.length = l.length := by rw [hl2, List.length_take, hF]; omega
  have HLL2 := hd hll2
  have HK8 : Hid (BK w8 base X m VH7 VA (hs ++ [(.slice aA L cA, opn l)] ++ [(.slice aC L cC, opn l)]) al) := by
    refine HK7.out.onl ho8 (blk_bt HIN7.out.blk) (fun p hp q => ?_) (fun p hp q => by have := HFA.out p hp _ q; omega)
    rcases List.mem_append.1 hp with hp | hp
    · rcases List.mem_append.1 hp with hp | hp
      · have := HFH.out p hp _ q; omega
      · simp at hp; subst hp
        have h3 := HFA1.out _ q
        omega
    · simp at hp; subst hp
      have h3 := HFC1.out _ q
      omega
  have HI8 : Hid (IsB w8 (.slice (some ⟨N0, 0, none⟩) l.length (l.length + 8)) l2) := by
    have h1 := (hM8.buf.isB rfl).take l.length (by rw [hF]; omega)
    rw [← hl2, hF] at h1
    exact h1
  have HW8 : Hid (Below base w w8) := HW7.out.trans (ho8.below hbX)
  have hs8 : w3.heap.size ≤ w8.heap.size := by rw [ho8.size]; exact hs7
  clear hF hM8 ho8 hl2 hll2 HK7 HIN7 HW7
  go_wp2_with fail
  refine Calls.mono (open_is _ l2 w8 HI8.out (by rw [HLL2.out]; omega)) ?_
  rintro e w9 ⟨uX, rfl, hj9, hb9⟩
  obtain ⟨N8, hN8⟩ : ∃ N8, N8 = w8.heap.size := ⟨_, rfl⟩
  obtain ⟨L2, hL2'⟩ : ∃ L2, L2 = (opn l2).length := ⟨_, rfl⟩
  have HL2 := hd hL2'
  have hL22 : L2 ≤ 1048576 := by have := opn_len l2; have := HLL2.out; omega
  obtain ⟨aX, cX, hsX, _⟩ := hj9.shape
  rw [← hL2'] at hsX
  subst hsX
  rw [← hN8] at hj9 hb9 hs8
  have HN8 := hd hN8
  have HBO2 : Hid (Byt (opn l2)) := hj9.1
  obtain ⟨hX9, hfX⟩ := jv_new (jv_of hj9) (show base ≤ N8 by omega)
  have HX9 := hd hX9
  have HFX1 : Hid (∀ g, (Value.slice aX L2 cX).ownBlock = some g → N8 ≤ g ∧ g < w9.heap.size) := hfX
  have HK9 := hd (HK8.out.keep (HN8.out ▸ hb9))
  have HI9 := hd (HI8.out.below (HN8.out ▸ hb9))
  have HM9 : Hid (Mad w9 N0 F) := HM8.out.same (hb9.block N0 (by omega))
  have HW9 : Hid (Below base w w9) := HW8.out.trans (hb9.mono (by omega))
  have hlt9 : N8 ≤ w9.heap.size := by have := hb9.size; omega
  clear hj9 hb9 hN8 hL2' HM8 HI8 HW8 HK8 hX9 hfX
  go_wp2_with fail
  refine Calls.mono (ropen_is _ l2 w9 HI9.out (by rw [HLL2.out]; exact hm)) ?_
  rintro e w10 ⟨uY, rfl, hj10, hb10⟩
  obtain ⟨aq, cq, hsY, _⟩ := hj10.shape
  rw [← HL2.out] at hsY
  subst hsY
  have HD10 := hd hj10
  have HX10 := hd (HX9.out.below hb10)
  have HK10 := hd (HK9.out.keep hb10)
  have HM10 : Hid (Mad w10 N0 F) := HM9.out.same (hb10.block N0 (by omega))
  have HW10 : Hid (Below base w w10) := HW9.out.trans (hb10.mono (by omega))
  have hs10 := hb10.size
  clear hj10 hb10 HM9 HI9 HW9 HK9 HX9
  go_wp2_with fail
  refine Calls.mono (esame_is _ _ (opn l2) (opn l2) w10 (jv_isB HBO2.out HX10.out) HD10.out.isB) ?_
  rintro e w10' ⟨rfl, rfl⟩
  rw [decide_eq_true (rfl : opn l2 = opn l2)]
  go_wp2_with (go_at_call 16; refine Calls.mono (num_is _ _) ?_; rintro e wn ⟨rfl, rfl⟩)
  refine Calls.mono (keep_is base X m VH7 VA _ _ (hs ++ [(.slice aA L cA, opn l)] ++ [(.slice aC L cC, opn l)]) al (opn l2) wn HK10.out hX HD10.out.isB HX10.out (by simp; omega) (fun p hp g e q => by
    have h2 := HFX1.out g e
    rcases List.mem_append.1 hp with hp | hp
    · rcases List.mem_append.1 hp with hp | hp
      · have h1 := HFH.out p hp g q; omega
      · simp at hp; subst hp
        have h3 := HFA1.out g q
        omega
    · simp at hp; subst hp
      have h3 := HFC1.out g q
      omega) (fun p hp g q e => by
    have h1 := HFA.out p hp g q
    have h2 := HFX1.out g e
    omega)) ?_
  rintro e w11 ⟨⟨u11, rfl⟩, ⟨VH11, hK11⟩, hb11, hk11⟩
  have HK11 := hd hK11
  have HM11 : Hid (Mad w11 N0 F) := HM10.out.same (hk11.2 N0 (blk_bt HM10.out.blk))
  have HW11 : Hid (Below base w w11) := HW10.out.trans hb11
  clear hK11 hb11 hk11 HM10 HW10 HK10 HX10 HD10
  go_wp2_with fail
  go_loopw [23] (fun i wr => ∃ k : Nat, k ≤ l.length + 8 ∧ i = .int .i64 (k : Int) ∧ ∃ F', F'.length = l.length + 8 ∧ Mad wr N0 F' ∧ Onl N0 w11 wr) (fun i _ => l.length + 8 - (intOf i).toNat)
  case atStart => exact ⟨0, by omega, rfl, F, HF.out, HM11.out, Onl.refl _ _⟩
  case round =>
    obtain ⟨k, hk, rfl, F', hF', hM', hO'⟩ := hrel
    have HF' := hd hF'
    have HM' := hd hM'
    have HO' := hd hO'
    clear hM' hO'
    by_cases hlt : k < l.length + 8
    · have hcell := HM'.out.buf.cell (j := k) (by omega)
      have hfro := HM'.out.buf.2.2.2.2.2 k (by omega)
      have HS := hd (HM'.out.set (j := k) (y := 85) (by omega))
      have hki : ((k : Nat) : Int) < (l.length : Int) + 8 := by omega
      clear hF'
      go_wp2_with fail
      exact ⟨⟨k + 1, by omega, by go_num, _, by rw [List.length_set]; exact HF'.out, HS.out, HO'.out.set _ _⟩, by simp [intOf]; omega⟩
    · obtain rfl : k = l.length + 8 := by omega
      clear hF'
      have HFIN : Hid ((∃ VH' add, BK wr base X m VH' VA (hs ++ add) al ∧ add.length = 3 ∧ ∀ p ∈ add, p.2.length ≤ 130000000000000) ∧ Below base w wr) := by
        refine ⟨⟨VH11, [(.slice aA L cA, opn l), (.slice aC L cC, opn l), (.slice aX L2 cX, opn l2)], ?_, rfl, ?_⟩, HW11.out.trans (HO'.out.below hbX)⟩
        · have h1 : BK wr base X m VH11 VA _ al := HK11.out.onl HO'.out (blk_bt HM11.out.blk) (fun p hp q => by
            rcases List.mem_append.1 hp with hp | hp
            · rcases List.mem_append.1 hp with hp | hp
              · rcases List.mem_append.1 hp with hp | hp
                · have := HFH.out p hp _ q; omega
                · simp at hp; subst hp
                  have h3 := HFA1.out _ q
                  omega
              · simp at hp; subst hp
                have h3 := HFC1.out _ q
                omega
            · simp at hp; subst hp
              have h3 := HFX1.out _ q
              omega) (fun p hp q => by have := HFA.out p hp _ q; omega)
          rw [List.append_assoc, List.append_assoc] at h1
          exact h1
        · intro p hp
          have e1 := HL.out
          have e2 := HL2.out
          simp at hp
          rcases hp with rfl | rfl | rfl <;> simp only <;> omega
      have hni : ¬ (((l.length + 8 : Nat) : Int) < (l.length : Int) + 8) := by omega
      go_wp2_with (go_at_call 16; refine Calls.mono (num_is _ _) ?_; rintro e wz ⟨rfl, rfl⟩)
      go_ret
      exact ⟨rfl, HFIN.out⟩
end Ow
end Go.Proofs.Ytipopjhmjdnnlaa
