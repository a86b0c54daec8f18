/-
  THE WALK OF the book's wrap.
-/
import Derived.Test.YtipopjhmjdnnlaaBk6
namespace Go.Proofs.Ytipopjhmjdnnlaa
open Go.RowKit
namespace Ow
open Vt
theorem BK.onl {w w' : World} {base X m g : Nat} {VH VA : Value} {hs : List (Value × List Nat)} {al : List (Value × Nat × Nat)} (h : BK w base X m VH VA hs al) (ho : Onl g w w') (hg : BT w g E8) (hh : ∀ p ∈ hs, p.1.ownBlock ≠ some g) (ha : ∀ p ∈ al, p.1.ownBlock ≠ some g) : BK w' base X m VH VA hs al :=
  ⟨(ho.block X ((blk_bt h.box).ne hg (by decide))).trans h.box, h.hrow.same fun b e => ho.block b ((h.hrow.bt e).ne hg (by decide)), h.krow.same fun b e => ho.block b ((h.krow.bt e).ne hg (by decide)), fun p hp => ⟨(h.held p hp).1.same fun b e => ho.block b fun q => hh p hp (q ▸ e), (h.held p hp).2⟩, h.hap, fun p hp => (h.all p hp).same fun b e => ho.block b fun q => ha p hp (q ▸ e), h.aap⟩
set_option maxRecDepth 100000 in
set_option maxHeartbeats 4000000 in
theorem bwrap_is (base X m : Nat) (VH VA v : Value) (hs : List (Value × List Nat)) (al : List (Value × Nat × Nat)) (l : List Nat) (w : World) (hK : BK w base X m VH VA hs al) (hX : base ≤ X) (hI : IsB w v l) (hl : hs.length ≤ 900) (hm : l.length ≤ 60000000000000) :
    Calls Try.prog 8 #[.pointer (some ⟨X, 0, none⟩), v] w fun e w' => e = .returned (.bool true) ∧ (∃ VH' add, BK w' base X m VH' VA (hs ++ add) al ∧ add.length = 3 ∧ ∀ p ∈ add, p.2.length ≤ 130000000000000) ∧ Below base w w' := by
  have HK := hd hK
  have HI := hd hI
  have hbX : base ≤ w.heap.size := Nat.le_of_lt (Nat.lt_of_le_of_lt hX hK.box.lt)
  obtain ⟨a, c, rfl⟩ := hI.shape
  clear hK hI
  go_enter Try.func8, Try.ntmps8
  go_wp2_with fail
  refine Calls.mono (room_is _ l w HI.out (by omega)) ?_
  rintro e w1 ⟨rfl, hj1, hb1⟩
  obtain ⟨N0, hN0⟩ : ∃ N0, N0 = w.heap.size := ⟨_, rfl⟩
  have HN0 := hd hN0
  rw [← hN0] at hj1 hb1 hbX ⊢
  have hin1 : Mad w1 N0 (mk8 l) := ⟨mk8_byt HI.out.1, by rw [mk8_len]; unfold maxLen; omega, hj1.block (by rw [mk8_len])⟩
  have HIN1 := hd hin1
  have HB1 := hd hb1
  have HI1 : Hid (IsB w1 (.slice (some ⟨N0, 0, none⟩) l.length (l.length + 8)) l) := by
    have := hin1.buf
    rw [mk8_len] at this
    exact lent_isB this
  have hlt1 := hin1.blk.lt
  clear hj1 hb1 hN0 hin1
  go_wp2_with fail
  refine Calls.mono (wrap_is _ l w1 HI1.out (by omega)) ?_
  rintro e w2 ⟨rfl, hj2, hb2⟩
  obtain ⟨N1, hN1⟩ : ∃ N1, N1 = w1.heap.size := ⟨_, rfl⟩
  obtain ⟨L, hL⟩ : ∃ L, L = (Vt.wr l).length := ⟨_, rfl⟩
  have HL := hd hL
  have hL2 : L ≤ 120000000000000 := by have := (wr_len l).2; omega
  rw [← hN1] at hj2 hb2 hlt1 ⊢
  rw [← hL] at hj2 ⊢
  have HN1 := hd hN1
  have HA2 := hd ((jv_of hj2).mono (show base ≤ N1 by omega))
  have hlt2 : N1 < w2.heap.size := (jv_of hj2).blk_lt N1 rfl
  have HB2 := hd hb2
  have HI2 := hd (HI1.out.below (HN1.out ▸ hb2))
  have HIN2 : Hid (Mad w2 N0 (mk8 l)) := HIN1.out.same (hb2.block N0 hlt1)
  have HW2 : Hid (Below N0 w w2) := HB1.out.trans (hb2.mono (Nat.le_of_lt hlt1))
  clear hj2 hb2 hN1 hL HIN1 HI1 HB2 HB1
  go_wp2_with fail
  refine Calls.mono (wrap_is _ l w2 HI2.out (by omega)) ?_
  rintro e w3 ⟨rfl, hj3, hb3⟩
  obtain ⟨N2, hN2⟩ : ∃ N2, N2 = w2.heap.size := ⟨_, rfl⟩
  rw [← hN2] at hj3 hb3 hlt2 ⊢
  rw [← HL.out] at hj3 ⊢
  have HN2 := hd hN2
  have HC3 := hd ((jv_of hj3).mono (show base ≤ N2 by omega))
  have hlt3 : N2 < w3.heap.size := (jv_of hj3).blk_lt N2 rfl
  have HA3 := hd (HA2.out.below (HN2.out ▸ hb3))
  have HI3 := hd (HI2.out.below (HN2.out ▸ hb3))
  have HIN3 : Hid (Mad w3 N0 (mk8 l)) := HIN2.out.same (hb3.block N0 (by omega))
  have HW3 : Hid (Below N0 w w3) := HW2.out.trans (hb3.mono (by omega))
  clear hj3 hb3 hN2 HIN2 HI2 HW2 HA2
  go_wp2_with fail
  refine Calls.mono (esize_is _ l w3 HI3.out (by omega)) ?_
  rintro e w3' ⟨rfl, rfl⟩
  rw [← HL.out]
  go_wp2_with fail
  refine Calls.mono (rwrap_is _ l w3' (HI.out.below (HN0.out ▸ HW3.out)) hm) ?_
  rintro e w4 ⟨⟨ak, ck, rfl, hj4⟩, hb4⟩
  rw [← HL.out] at hj4 ⊢
  have hs4 := hb4.size
  have HD4 := hd hj4
  have HC4 := hd (HC3.out.below hb4)
  have HA4 := hd (HA3.out.below hb4)
  have HIN4 : Hid (Mad w4 N0 (mk8 l)) := HIN3.out.same (hb4.block N0 (by omega))
  have HW4 : Hid (Below N0 w w4) := HW3.out.trans (hb4.mono (by omega))
  clear hj4 hb4 HIN3 HI3 HW3 HA3 HC3
  have hbw : Byt (Vt.wr l) := HD4.out.1
  go_wp2_with fail
  refine Calls.mono (esame_is _ _ (Vt.wr l) (Vt.wr l) w4 (jv_isB hbw HA4.out) HD4.out.isB) ?_
  rintro e w4' ⟨rfl, rfl⟩
  rw [decide_eq_true (rfl : Vt.wr l = Vt.wr l)]
  go_wp2_with fail
  refine Calls.mono (whole_is N0 (l.length + 8) _ l w4' (by have := HIN4.out.buf; rw [mk8_len] at this; exact this) (HI.out.below (HN0.out ▸ HW4.out))) ?_
  rintro e w5 ⟨rfl, nn, hw5⟩
  have HFH : Hid (∀ p ∈ hs, ∀ g, p.1.ownBlock = some g → g < N0) := fun p hp g e => by have := (HK.out.held p hp).1.blk_lt g e; have := HN0.out; omega
  have HFA : Hid (∀ p ∈ al, ∀ g, p.1.ownBlock = some g → g < N0) := fun p hp g e => by have := (HK.out.all p hp).blk_lt g e; have := HN0.out; omega
  have HA5 : Hid (JV E8 w5 base (.slice (some ⟨N1, 0, none⟩) L L) (bs (Vt.wr l))) := by rw [hw5]; exact HA4.out
  have HC5 : Hid (JV E8 w5 base (.slice (some ⟨N2, 0, none⟩) L L) (bs (Vt.wr l))) := by rw [hw5]; exact HC4.out
  have HD5 : Hid (JV E8 w5 base (.slice ak L ck) (bs (Vt.wr l))) := by rw [hw5]; exact (jv_of HD4.out).mono (by omega)
  have HIN5 : Hid (Mad w5 N0 (mk8 l)) := by rw [hw5]; exact HIN4.out.same rfl
  have HW5 : Hid (Below N0 w w5) := by rw [hw5]; exact drewB HW4.out _
  have HK5 : Hid (BK w5 base X m VH VA hs al) := HK.out.keep (HN0.out ▸ HW5.out)
  have hs5 : N2 < w5.heap.size := by rw [hw5]; show N2 < w4'.heap.size; omega
  clear hw5 HA4 HC4 HD4 HIN4 HW4
  go_wp2_with fail
  refine Calls.mono (keep_is base X m VH VA _ _ hs al (Vt.wr l) w5 HK5.out hX (jv_isB hbw HD5.out) HA5.out (by omega) (fun p hp g e q => by
    have h1 := HFH.out p hp g q
    have h2 : N1 = g := by simpa [Value.ownBlock] using e
    omega) (fun p hp g q e => by
    have h1 := HFA.out p hp g q
    have h2 : N1 = g := by simpa [Value.ownBlock] using e
    omega)) ?_
  rintro e w6 ⟨⟨u6, rfl⟩, ⟨VH6, hK6⟩, hb6, hk6⟩
  have HK6 := hd hK6
  have HC6 := hd (hk6.jv HC5.out)
  have HD6 := hd (hk6.jv HD5.out)
  have HIN6 : Hid (Mad w6 N0 (mk8 l)) := HIN5.out.same (hk6.2 N0 (blk_bt HIN5.out.blk))
  have HW6 : Hid (Below base w w6) := (HW5.out.mono hbX).trans hb6
  have hs6 : N2 < w6.heap.size := Nat.lt_of_lt_of_le hs5 hk6.1
  clear hK6 hb6 hk6 HA5 HC5 HD5 HIN5 HW5 HK5
  go_wp2_with fail
  refine Calls.mono (keep_is base X m VH6 VA _ _ (hs ++ [(.slice (some ⟨N1, 0, none⟩) L L, Vt.wr l)]) al (Vt.wr l) w6 HK6.out hX (jv_isB hbw HD6.out) HC6.out (by simp; omega) (fun p hp g e q => by
    have h2 : N2 = g := by simpa [Value.ownBlock] using e
    rcases List.mem_append.1 hp with hp | hp
    · have h1 := HFH.out p hp g q; omega
    · simp at hp; subst hp
      have h3 : N1 = g := by simpa [Value.ownBlock] using q
      omega) (fun p hp g q e => by
    have h1 := HFA.out p hp g q
    have h2 : N2 = g := by simpa [Value.ownBlock] using e
    omega)) ?_
  rintro e w7 ⟨⟨u7, rfl⟩, ⟨VH7, hK7⟩, hb7, hk7⟩
  have HK7 := hd hK7
  have HIN7 : Hid (Mad w7 N0 (mk8 l)) := HIN6.out.same (hk7.2 N0 (blk_bt HIN6.out.blk))
  have HW7 : Hid (Below base w w7) := HW6.out.trans hb7
  have hs7 : N2 < w7.heap.size := Nat.lt_of_lt_of_le hs6 hk7.1
  clear hK7 hb7 hk7 HC6 HD6 HIN6 HW6 HK6
  go_wp2_with fail
  have ht := turnedB_is N0 l.length (mk8 l) w7 HIN7.out (by rw [mk8_len]; omega)
  rw [mk8_len] at ht
  refine Calls.mono ht ?_
  rintro e w8 ⟨⟨u8, rfl⟩, F, hF, hM8, ho8⟩
  clear ht
  have HF := hd hF
  have HM8 := hd hM8
  obtain ⟨l2, hl2⟩ : ∃ l2, l2 = F.take l.length := ⟨_, rfl⟩
  have hll2 : l2.length = l.length := by rw [hl2, List.length_take, hF]; omega
  have HLL2 := hd hll2
  have HK8 : Hid (BK w8 base X m VH7 VA (hs ++ [(.slice (some ⟨N1, 0, none⟩) L L, Vt.wr l)] ++ [(.slice (some ⟨N2, 0, none⟩) L L, Vt.wr l)]) al) := by
    refine HK7.out.onl ho8 (blk_bt HIN7.out.blk) (fun p hp q => ?_) (fun p hp q => by have := HFA.out p hp _ q; omega)
    rcases List.mem_append.1 hp with hp | hp
    · rcases List.mem_append.1 hp with hp | hp
      · have := HFH.out p hp _ q; omega
      · simp at hp; subst hp
        have h3 : N1 = N0 := by simpa [Value.ownBlock] using q
        omega
    · simp at hp; subst hp
      have h3 : N2 = N0 := by simpa [Value.ownBlock] using q
      omega
  have HI8 : Hid (IsB w8 (.slice (some ⟨N0, 0, none⟩) l.length (l.length + 8)) l2) := by
    have h1 := (hM8.buf.isB rfl).take l.length (by rw [hF]; omega)
    rw [← hl2, hF] at h1
    exact h1
  have HW8 : Hid (Below base w w8) := HW7.out.trans (ho8.below hbX)
  have hs8 : N2 < w8.heap.size := by rw [ho8.size]; exact hs7
  clear hF hM8 ho8 hl2 hll2 HK7 HIN7 HW7
  go_wp2_with fail
  refine Calls.mono (wrap_is _ l2 w8 HI8.out (by rw [HLL2.out]; omega)) ?_
  rintro e w9 ⟨rfl, hj9, hb9⟩
  obtain ⟨N8, hN8⟩ : ∃ N8, N8 = w8.heap.size := ⟨_, rfl⟩
  obtain ⟨L2, hL2⟩ : ∃ L2, L2 = (Vt.wr l2).length := ⟨_, rfl⟩
  have HL2 := hd hL2
  have hL22 : L2 ≤ 120000000000000 := by have := (wr_len l2).2; have := HLL2.out; omega
  rw [← hN8] at hj9 hb9 hs8 ⊢
  rw [← hL2] at hj9 ⊢
  have HN8 := hd hN8
  have HX9 := hd ((jv_of hj9).mono (show base ≤ N8 by omega))
  have hlt9 : N8 < w9.heap.size := (jv_of hj9).blk_lt N8 rfl
  have HK9 := hd (HK8.out.keep (HN8.out ▸ hb9))
  have HI9 := hd (HI8.out.below (HN8.out ▸ hb9))
  have HM9 : Hid (Mad w9 N0 F) := HM8.out.same (hb9.block N0 (by omega))
  have HW9 : Hid (Below base w w9) := HW8.out.trans (hb9.mono (by omega))
  have hbw2 : Byt (Vt.wr l2) := hj9.1
  clear hj9 hb9 hN8 hL2 HM8 HI8 HW8 HK8
  go_wp2_with fail
  refine Calls.mono (rwrap_is _ l2 w9 HI9.out (by rw [HLL2.out]; exact hm)) ?_
  rintro e w10 ⟨⟨aq, cq, rfl, hj10⟩, hb10⟩
  rw [← HL2.out] at hj10 ⊢
  have HD10 := hd hj10
  have HX10 := hd (HX9.out.below hb10)
  have HK10 := hd (HK9.out.keep hb10)
  have HM10 : Hid (Mad w10 N0 F) := HM9.out.same (hb10.block N0 (by omega))
  have HW10 : Hid (Below base w w10) := HW9.out.trans (hb10.mono (by omega))
  have hs10 := hb10.size
  clear hj10 hb10 HM9 HI9 HW9 HK9 HX9
  go_wp2_with fail
  refine Calls.mono (esame_is _ _ (Vt.wr l2) (Vt.wr l2) w10 (jv_isB hbw2 HX10.out) HD10.out.isB) ?_
  rintro e w10' ⟨rfl, rfl⟩
  rw [decide_eq_true (rfl : Vt.wr l2 = Vt.wr l2)]
  go_wp2_with fail
  refine Calls.mono (keep_is base X m VH7 VA _ _ (hs ++ [(.slice (some ⟨N1, 0, none⟩) L L, Vt.wr l)] ++ [(.slice (some ⟨N2, 0, none⟩) L L, Vt.wr l)]) al (Vt.wr l2) w10' HK10.out hX HD10.out.isB HX10.out (by simp; omega) (fun p hp g e q => by
    have h2 : N8 = g := by simpa [Value.ownBlock] using e
    rcases List.mem_append.1 hp with hp | hp
    · rcases List.mem_append.1 hp with hp | hp
      · have h1 := HFH.out p hp g q; omega
      · simp at hp; subst hp
        have h3 : N1 = g := by simpa [Value.ownBlock] using q
        omega
    · simp at hp; subst hp
      have h3 : N2 = g := by simpa [Value.ownBlock] using q
      omega) (fun p hp g q e => by
    have h1 := HFA.out p hp g q
    have h2 : N8 = g := by simpa [Value.ownBlock] using e
    omega)) ?_
  rintro e w11 ⟨⟨u11, rfl⟩, ⟨VH11, hK11⟩, hb11, hk11⟩
  have HK11 := hd hK11
  have HM11 : Hid (Mad w11 N0 F) := HM10.out.same (hk11.2 N0 (blk_bt HM10.out.blk))
  have HW11 : Hid (Below base w w11) := HW10.out.trans hb11
  clear hK11 hb11 hk11 HM10 HW10 HK10 HX10 HD10
  go_wp2_with fail
  go_loopw [14] (fun i wr => ∃ k : Nat, k ≤ l.length + 8 ∧ i = .int .i64 (k : Int) ∧ ∃ F', F'.length = l.length + 8 ∧ Mad wr N0 F' ∧ Onl N0 w11 wr) (fun i _ => l.length + 8 - (intOf i).toNat)
  case atStart => exact ⟨0, by omega, rfl, F, HF.out, HM11.out, Onl.refl _ _⟩
  case round =>
    obtain ⟨k, hk, rfl, F', hF', hM', hO'⟩ := hrel
    have HF' := hd hF'
    have HM' := hd hM'
    have HO' := hd hO'
    clear hM' hO'
    by_cases hlt : k < l.length + 8
    · have hcell := HM'.out.buf.cell (j := k) (by omega)
      have hfro := HM'.out.buf.2.2.2.2.2 k (by omega)
      have HS := hd (HM'.out.set (j := k) (y := 85) (by omega))
      have hki : ((k : Nat) : Int) < (l.length : Int) + 8 := by omega
      clear hF'
      go_wp2_with fail
      exact ⟨⟨k + 1, by omega, by go_num, _, by rw [List.length_set]; exact HF'.out, HS.out, HO'.out.set _ _⟩, by simp [intOf]; omega⟩
    · obtain rfl : k = l.length + 8 := by omega
      clear hF'
      have HFIN : Hid ((∃ VH' add, BK wr base X m VH' VA (hs ++ add) al ∧ add.length = 3 ∧ ∀ p ∈ add, p.2.length ≤ 130000000000000) ∧ Below base w wr) := by
        refine ⟨⟨VH11, [(.slice (some ⟨N1, 0, none⟩) L L, Vt.wr l), (.slice (some ⟨N2, 0, none⟩) L L, Vt.wr l), (.slice (some ⟨N8, 0, none⟩) L2 L2, Vt.wr l2)], ?_, rfl, ?_⟩, HW11.out.trans (HO'.out.below hbX)⟩
        · have h1 : BK wr base X m VH11 VA _ al := HK11.out.onl HO'.out (blk_bt HM11.out.blk) (fun p hp q => by
            rcases List.mem_append.1 hp with hp | hp
            · rcases List.mem_append.1 hp with hp | hp
              · rcases List.mem_append.1 hp with hp | hp
                · have := HFH.out p hp _ q; omega
                · simp at hp; subst hp
                  have h3 : N1 = N0 := by simpa [Value.ownBlock] using q
                  omega
              · simp at hp; subst hp
                have h3 : N2 = N0 := by simpa [Value.ownBlock] using q
                omega
            · simp at hp; subst hp
              have h3 : N8 = N0 := by simpa [Value.ownBlock] using q
              omega) (fun p hp q => by have := HFA.out p hp _ q; omega)
          rw [List.append_assoc, List.append_assoc] at h1
          exact h1
        · intro p hp
          have e1 := HL.out
          have e2 := HL2.out
          simp at hp
          rcases hp with rfl | rfl | rfl <;> simp only <;> omega
      have hni : ¬ (((l.length + 8 : Nat) : Int) < (l.length : Int) + 8) := by omega
      go_wp2_with fail
      go_ret
      refine ⟨rfl, ?_⟩
      obtain ⟨⟨V, ad, h1, h2, h3⟩, h4⟩ := HFIN.out
      exact ⟨⟨V, ad, h1, h2, fun a b h => h3 (a, b) h⟩, h4⟩
end Ow
end Go.Proofs.Ytipopjhmjdnnlaa
