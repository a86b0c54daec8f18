/-
  THE REFERENCE OF LAYER 4: a pen: the next number.
-/
import Derived.Test.YtnjhbidialngmaaXhae
import Derived.Test.YtnjhbidialngmaaXhap
namespace Go.Proofs.Ytnjhbidialngmaa
open Go.RowKit
namespace Vt
/-- a pen lies in block B -/
def PN (w : World) (B : Nat) (l : List Nat) (at_ : Nat) (bad : Bool) : Prop := ∃ v, Blk w B 145 [v, .int .i64 (at_ : Int), .bool bad] ∧ IsB w v l ∧ Low v B ∧ at_ ≤ l.length
theorem PN.at {w : World} {B : Nat} {l : List Nat} {a : Nat} {bad : Bool} (h : PN w B l a bad) (a' : Nat) (ha : a' ≤ l.length) : PN (w.setCell ⟨B, 1, none⟩ (.int .i64 (a' : Int))) B l a' bad := by
  obtain ⟨v, h1, h2, h3, h4⟩ := h
  exact ⟨v, h1.set (j := 1) _, h2.setO (p := ⟨B, 1, none⟩) (fun b off n c e => by have := (h3 _ _ _ e).1; simp only at this; show b ≠ B; omega) _, h3, ha⟩
theorem PN.worse {w : World} {B : Nat} {l : List Nat} {a : Nat} {bad : Bool} (h : PN w B l a bad) : PN (w.setCell ⟨B, 2, none⟩ (.bool true)) B l a true := by
  obtain ⟨v, h1, h2, h3, h4⟩ := h
  exact ⟨v, h1.set (j := 2) _, h2.setO (p := ⟨B, 2, none⟩) (fun b off n c e => by have := (h3 _ _ _ e).1; simp only at this; show b ≠ B; omega) _, h3, h4⟩
theorem PN.below {w w' : World} {B : Nat} {l : List Nat} {a : Nat} {bad : Bool} (h : PN w B l a bad) (hb : Below w.heap.size w w') : PN w' B l a bad := by
  obtain ⟨v, h1, h2, h3, h4⟩ := h
  exact ⟨v, h1.keep hb, h2.below hb, h3, h4⟩
theorem below_dn (w : World) (n : Nat) : Below w.heap.size w (w.drewN n) := ⟨rfl, rfl, rfl, Nat.le_refl _, fun _ _ => rfl⟩
/-- what number answers, and leaves -/
def pnR (B : Nat) (l : List Nat) (at_ : Nat) (bad : Bool) (e : Ending) (w' : World) : Prop :=
  ((dec (l.drop at_)).2.2 = 0 ∧ e = .returned (.int .u64 ((dec (l.drop at_)).1 : Int)) ∧ PN w' B l (at_ + (dec (l.drop at_)).2.1) bad) ∨ ((dec (l.drop at_)).2.2 ≠ 0 ∧ ∃ n a : Nat, n < 18446744073709551616 ∧ e = .returned (.int .u64 (n : Int)) ∧ PN w' B l a true)
theorem dec_short {s : List Nat} {j : Nat} (hj : j ≤ 9) (hs : s.length = j) (h : ∀ i, i < j → 128 ≤ s.getD i 0) : (dec s).2.2 ≠ 0 := by
  have hi := idx_all (l := s) (fun i hi => h i (by omega))
  unfold dec
  rw [if_neg (by omega), if_pos hi]
  decide
theorem dec_big {s : List Nat} (hs : 9 < s.length) (h : ∀ i, i < 9 → 128 ≤ s.getD i 0) (hc : 1 < s.getD 9 0) : (dec s).2.2 ≠ 0 := by
  by_cases h1 : s.getD 9 0 < 128
  · have hi := idx_eq h hs h1
    unfold dec
    rw [if_neg (by omega), if_neg (by omega), if_pos ⟨hi, hc⟩]
    decide
  · have hi : 10 ≤ idx s := by
      rcases Nat.lt_or_ge (idx s) 10 with h2 | h2
      · have h3 := idx_at (l := s) (by omega)
        rcases Nat.lt_or_ge (idx s) 9 with h4 | h4
        · have := h _ h4; omega
        · have : idx s = 9 := by omega
          rw [this] at h3; omega
      · exact h2
    unfold dec
    rw [if_pos hi]
    decide
theorem dec_last {s : List Nat} {j : Nat} (hj : j ≤ 9) (hs : j < s.length) (h : ∀ i, i < j → 128 ≤ s.getD i 0) (hc : s.getD j 0 < 128) (h9 : ¬ (j = 9 ∧ 1 < s.getD j 0)) :
    (s.getD j 0 = 0 ∧ 0 < j ∧ (dec s).2.2 ≠ 0) ∨ (¬ (s.getD j 0 = 0 ∧ 0 < j) ∧ dec s = (num (s.take (j + 1)), j + 1, 0)) := by
  have hi := idx_eq h hs hc
  unfold dec
  rw [hi, if_neg (by omega), if_neg (by omega), if_neg (by intro q; exact h9 ⟨q.1, by rw [q.1]; exact q.2⟩)]
  by_cases h0 : 0 < j ∧ s.getD j 0 = 0
  · exact .inl ⟨h0.2, h0.1, by rw [if_pos h0]; decide⟩
  · exact .inr ⟨fun q => h0 ⟨q.2, q.1⟩, by rw [if_neg h0]⟩
theorem num_next {s : List Nat} {j : Nat} (hs : j < s.length) : num (s.take (j + 1)) = num (s.take j) + 128 ^ j * (s.getD j 0 % 128) := by
  rw [take_succ_getD hs, num_append, List.length_take, Nat.min_eq_left (by omega)]
  simp [num]
theorem wrapU {x : Nat} (h : x < 18446744073709551616) : IntKind.u64.wrap (x : Int) = (x : Int) := by
  unfold IntKind.wrap
  simp [IntKind.bits, IntKind.signed]
  omega
theorem sumU {nv U ch : Nat} (h1 : U * (ch % 128) < 18446744073709551616) (h2 : nv + U * (ch % 128) < 18446744073709551616) : IntKind.u64.wrap ((nv : Int) + IntKind.u64.wrap ((U : Int) * ((ch : Int) % 128))) = ((nv + U * (ch % 128) : Nat) : Int) := by
  have e : (U : Int) * ((ch : Int) % 128) = ((U * (ch % 128) : Nat) : Int) := by rw [Int.natCast_mul, Int.natCast_emod]; rfl
  rw [e, wrapU h1, ← Int.natCast_add, wrapU h2]
attribute [local go_sem] Oper.semAt_some
set_option maxRecDepth 100000 in
set_option maxHeartbeats 2000000 in
theorem pen_number (B : Nat) (l : List Nat) (at_ : Nat) (bad : Bool) (w : World) (h : PN w B l at_ bad) (hm : l.length ≤ 4194304) :
    Calls Try.prog 100 #[.pointer (some ⟨B, 0, none⟩)] w fun e w' => pnR B l at_ bad e w' ∧ KeepO B w w' := by
  have HPN := hd h
  clear h
  have hmx : Try.prog.follows .mixedOrders = true := by kernel_rfl
  go_enter Try.func100, Try.ntmps100
  go_wp2_with fail
  go_loopw [3, 4, 5] (fun x y z wi => ∃ j : Nat, j ≤ 9 ∧ z = .int .i64 (j : Int) ∧ x = .int .u64 (num ((l.drop at_).take j) : Int) ∧ y = .int .u64 ((128 ^ j : Nat) : Int) ∧ at_ + j ≤ l.length ∧ (∀ i, i < j → 128 ≤ (l.drop at_).getD i 0) ∧ PN wi B l (at_ + j) bad ∧ KeepO B w wi) (fun _ _ z _ => 10 - (intOf z).toNat)
  case atStart => exact ⟨0, by omega, rfl, rfl, rfl, by obtain ⟨_, _, _, _, h⟩ := HPN.out; exact h, by intro i hi; omega, HPN.out, KeepO.refl _ _⟩
  case round =>
    obtain ⟨j, hj, rfl, rfl, rfl, hle, hall, hP, hK⟩ := hrel
    have HAL := hd hall
    have HPW := hd hP
    have HK := hd hK
    obtain ⟨v, hB, hI, hL, _⟩ := hP
    obtain ⟨a, c, rfl⟩ := hI.shape
    have c0 := hB.cell 0 _ rfl
    have c1 := hB.cell 1 _ rfl
    have c2 := hB.cell 2 _ rfl
    have z0 := hB.frozen 1
    have z1 := hB.frozen 2
    have hsl : (l.drop at_).length = l.length - at_ := List.length_drop
    have hUp : 128 ^ j ≤ 9223372036854775808 := Nat.le_trans (Nat.pow_le_pow_right (by omega) hj) (by decide)
    have hnU := num_lt ((l.drop at_).take j)
    rw [List.length_take, Nat.min_eq_left (by omega)] at hnU
    obtain ⟨U, hU⟩ : ∃ U, U = 128 ^ j := ⟨_, rfl⟩
    obtain ⟨nv, hnv⟩ : ∃ nv, nv = num ((l.drop at_).take j) := ⟨_, rfl⟩
    rw [← hU] at hUp hnU ⊢
    rw [← hnv] at hnU ⊢
    have HU := hd hU
    have HNV := hd hnv
    have HB := hd hB
    have HI := hd hI
    obtain ⟨q, hq⟩ : ∃ q, q = at_ + j := ⟨_, rfl⟩
    rw [← hq] at c1 hle
    have HQ := hd hq
    have hj10 : (j : Int) < 10 := by omega
    clear hall hK hB hI hU hnv hq
    by_cases hend : q < l.length
    · obtain ⟨ch, hch⟩ : ∃ ch, ch = (l.drop at_).getD j 0 := ⟨_, rfl⟩
      have hlq : l.getD q 0 = ch := by
        rw [hch, HQ.out, List.getD_eq_getElem?_getD, List.getD_eq_getElem?_getD, List.getElem?_drop]
      have hcb : ch < 256 := hlq ▸ getD_lt HI.out.1 q
      have hsj : j < (l.drop at_).length := by rw [hsl]; have := HQ.out; omega
      obtain ⟨b, off, rfl⟩ : ∃ b off, a = some ⟨b, off, none⟩ := by
        obtain ⟨_, _, ⟨rfl, _⟩ | ⟨b, off, c', e, _⟩⟩ := HI.out
        · simp at hend
        · injection e with e; exact ⟨b, off, e⟩
      have r0 := HI.out.row q hend
      rw [hlq] at r0
      have hbB : b ≠ B := by have := (hL _ _ _ rfl).1; simp only at this; omega
      have n1 : ¬ b = B := hbB
      have n2 : ¬ B = b := fun e => hbB e.symm
      have hge : ¬ (q : Int) ≥ (l.length : Int) := by omega
      have HSJ := hd hsj
      have HCH := hd hch
      clear hch hlq hsj hsl hbB hL
      have hst : Hid (∀ m : Nat, PN ((wr.drewN m).setCell ⟨B, 1, none⟩ (.int .i64 ((q : Int) + 1))) B l (q + 1) bad ∧ KeepO B w ((wr.drewN m).setCell ⟨B, 1, none⟩ (.int .i64 ((q : Int) + 1)))) := fun m => by
        refine ⟨?_, HK.out.trans ((KeepO.of_below (below_dn _ _)).trans (KeepO.set B 1 _ _))⟩
        have := (HPW.out.below (below_dn _ m)).at (q + 1) (by omega)
        rw [Int.natCast_add] at this
        exact this
      by_cases h91 : j = 9 ∧ 1 < ch
      · obtain ⟨rfl, h1⟩ := h91
        have hb1 : (ch : Int) > 1 := by omega
        have HDS := hd (dec_big (s := l.drop at_) HSJ.out HAL.out (by rw [← HCH.out]; exact h1))
        clear h1
        go_wp2_with fail
        go_quiet (fail)
        go_wp2_with fail
        go_quiet (fail)
        go_wp2_with fail
        go_ret
        exact ⟨.inr ⟨HDS.out, 0, _, by omega, rfl, (hst.out _).1.worse⟩, (hst.out _).2.trans (KeepO.set B 2 _ _)⟩
      · have hnx := num_next HSJ.out
        rw [← HCH.out, ← HU.out, ← HNV.out] at hnx
        have hpd : U * (ch % 128) < 18446744073709551616 ∧ nv + U * (ch % 128) < 18446744073709551616 := by
          by_cases h9 : j = 9
          · have hc1 : ch % 128 ≤ 1 := by omega
            have := Nat.mul_le_mul_left U hc1
            omega
          · have h8 : U ≤ 72057594037927936 := by rw [HU.out]; exact Nat.le_trans (Nat.pow_le_pow_right (by omega) (show j ≤ 8 by omega)) (by decide)
            have hc1 : ch % 128 ≤ 127 := by omega
            have h2 := Nat.mul_le_mul h8 hc1
            omega
        have hv := sumU hpd.1 hpd.2
        have HV := hd hv
        have HVN := hd hnx
        clear hv hnx
        obtain ⟨nn, hnn⟩ : ∃ nn, nn = nv + U * (ch % 128) := ⟨_, rfl⟩
        rw [← hnn] at HV HVN hpd
        have hnb := hpd.2
        have HNN := hd hnn
        clear hnn hpd
        by_cases hc : ch < 128
        · have hl := dec_last hj HSJ.out HAL.out (by rw [← HCH.out]; exact hc) (by rw [← HCH.out]; exact h91)
          rw [← HCH.out, HVN.out] at hl
          have hb2 : (ch : Int) < 128 := by omega
          have HL := hd hl
          clear hl
          by_cases h0 : ch = 0 ∧ 0 < j
          · obtain ⟨rfl, h0j⟩ := h0
            have HDS : Hid ((dec (l.drop at_)).2.2 ≠ 0) := by
              rcases HL.out with ⟨_, _, h⟩ | ⟨h, _⟩
              · exact h
              · exact absurd ⟨rfl, h0j⟩ h
            have h0i : (j : Int) > 0 := by omega
            clear HL h91
            go_wp2_with fail
            go_quiet (fail)
            go_wp2_with fail
            go_quiet (fail)
            go_wp2_with fail
            all_goals
              go_ret
              exact ⟨.inr ⟨HDS.out, nv, _, by omega, rfl, (hst.out _).1.worse⟩, (hst.out _).2.trans (KeepO.set B 2 _ _)⟩
          · have hdc : dec (l.drop at_) = (nn, j + 1, 0) := by
              rcases HL.out with ⟨h1, h2, _⟩ | ⟨_, h⟩
              · exact absurd ⟨h1, h2⟩ h0
              · exact h
            have HFIN : Hid (∀ m : Nat, pnR B l at_ bad (.returned (.int .u64 (nn : Int))) ((wr.drewN m).setCell ⟨B, 1, none⟩ (.int .i64 ((q : Int) + 1))) ∧ KeepO B w ((wr.drewN m).setCell ⟨B, 1, none⟩ (.int .i64 ((q : Int) + 1)))) := fun m => by
              refine ⟨.inl ⟨by rw [hdc], by rw [hdc], ?_⟩, (hst.out m).2⟩
              rw [hdc]
              have e : at_ + (j + 1) = q + 1 := by have := HQ.out; omega
              show PN _ B l (at_ + (j + 1)) bad
              rw [e]; exact (hst.out m).1
            clear hdc HL
            by_cases hz : ch = 0
            · subst hz
              obtain rfl : j = 0 := by omega
              have HNE : Hid (nn = nv) := hd (by have := HNN.out; simpa using this)
              clear h0 h91
              go_wp2_with fail
              go_quiet (fail)
              go_wp2_with fail
              go_quiet (fail)
              go_wp2_with fail
              go_ret
              have := HFIN.out
              rw [HNE.out] at this
              exact this _
            · have hz2 : ((ch : Int) == 0) = false := by simp; omega
              by_cases h9 : j = 9
              · subst h9
                have hc1 : ch = 1 := by omega
                have hb3 : ¬ (ch : Int) > 1 := by omega
                clear h0 h91 hc1 hz
                go_wp2_with fail
                go_quiet (fail)
                go_wp2_with fail
                go_quiet (fail)
                go_wp2_with fail
                rw [HV.out]
                go_ret
                exact HFIN.out _
              · have h9b : ((j : Int) == 9) = false := by simp; omega
                clear h0 h91 h9 hz
                go_wp2_with fail
                go_quiet (fail)
                go_wp2_with fail
                go_quiet (fail)
                go_wp2_with fail
                rw [HV.out]
                go_ret
                exact HFIN.out _
        · have hj9 : j < 9 := by
            rcases Nat.lt_or_ge j 9 with h | h
            · exact h
            · exact absurd ⟨by omega, by omega⟩ h91
          have h9b : ((j : Int) == 9) = false := by simp; omega
          have hc3 : ¬ (ch : Int) < 128 := by omega
          have h8 : U ≤ 72057594037927936 := by rw [HU.out]; exact Nat.le_trans (Nat.pow_le_pow_right (by omega) (show j ≤ 8 by omega)) (by decide)
          have HW2 : Hid ((U : Int) * 128 = ((128 ^ (j + 1) : Nat) : Int)) := by
            have e : (U : Int) * 128 = ((U * 128 : Nat) : Int) := by rw [Int.natCast_mul]; rfl
            show (U : Int) * 128 = _
            rw [e, HU.out, Nat.pow_succ]
          have HAL2 : Hid (∀ i, i < j + 1 → 128 ≤ (l.drop at_).getD i 0) := fun i hi => by
            rcases Nat.lt_or_ge i j with h | h
            · exact HAL.out i h
            · obtain rfl : i = j := by omega
              rw [← HCH.out]; omega
          have HP2 : Hid (∀ m : Nat, PN ((wr.drewN m).setCell ⟨B, 1, none⟩ (.int .i64 ((q : Int) + 1))) B l (at_ + (j + 1)) bad) := fun m => by
            have e : at_ + (j + 1) = q + 1 := by have := HQ.out; omega
            rw [e]; exact (hst.out m).1
          have hle2 : at_ + (j + 1) ≤ l.length := by have := HQ.out; omega
          clear h91
          go_wp2_with fail
          go_quiet (fail)
          go_wp2_with fail
          go_quiet (fail)
          go_wp2_with fail
          refine ⟨⟨j + 1, by omega, by go_num, by rw [HV.out, HVN.out], by rw [HW2.out], hle2, HAL2.out, HP2.out _, (hst.out _).2⟩, ?_⟩
          simp [intOf]; omega
    · have hge : (q : Int) ≥ (l.length : Int) := by omega
      have hDS : (dec (l.drop at_)).2.2 ≠ 0 := dec_short hj (by have := HQ.out; omega) HAL.out
      have HDS := hd hDS
      clear hDS hsl
      go_wp2_with fail
      go_quiet (fail)
      go_wp2_with fail
      go_ret
      exact ⟨.inr ⟨HDS.out, 0, _, by omega, rfl, (HPW.out.below (below_dn _ _)).worse⟩, HK.out.trans ((KeepO.of_below (below_dn _ _)).trans (KeepO.set B 2 _ _))⟩
end Vt
end Go.Proofs.Ytnjhbidialngmaa
