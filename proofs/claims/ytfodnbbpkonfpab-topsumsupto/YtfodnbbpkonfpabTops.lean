/-
  THE WALK OF TopSums.
-/
import Derived.Test.YtfodnbbpkonfpabT0
import Derived.Test.YtfodnbbpkonfpabInv
import Derived.Test.YtfodnbbpkonfpabK1
import Derived.Test.YtfodnbbpkonfpabMath3
namespace Go.Proofs.Ytfodnbbpkonfpab
open Go.RowKit
namespace Tops
theorem JB.isB {w : World} {base : Nat} {v : Value} {l : List Nat} (h : JB w base v l) : IsB w v l := by
  obtain ⟨hb, ho⟩ := h
  by_cases h0 : l.length = 0
  · obtain rfl : l = [] := List.length_eq_zero_iff.1 h0
    rcases ho.2 with ⟨rfl, _⟩ | ⟨g, cap, cur, rfl, _⟩
    · exact isB_nil w
    · exact isB_zero w _ _
  · obtain ⟨g, cap, rfl, _, hlt⟩ := ho.form (by omega)
    exact (buf_of_own hb rfl hlt ho).isB rfl
theorem own_below {w w' : World} {base n : Nat} {e : TypeId} {v : Value} {xs : List Value} (h : w.ownsRow base e 1 v n xs) (hb : Below w.heap.size w w') : w'.ownsRow base e 1 v n xs := by
  refine World.ownsRow.kept h (row := none) ⟨hb.os, hb.tape, hb.output, hb.size, fun i hi _ => hb.block i hi⟩ ?_
  cases hv : v.ownBlock <;> simp
theorem xor_pow8 {x r : Nat} (hx : x < 256) (hr : r < 8) : bits .xor .u8 (x : Int) (2 ^ r % 256) = ((x ^^^ 2 ^ r : Nat) : Int) := by
  have h2 : 2 ^ r < 2 ^ 8 := Nat.pow_lt_pow_right (by decide) hr
  have e : (2 : Int) ^ r % 256 = ((2 ^ r : Nat) : Int) := by
    have : ((2 ^ r : Nat) : Int) = (2 : Int) ^ r := by simp
    rw [← this]
    generalize 2 ^ r = y at h2
    omega
  rw [e, bx8 hx h2]
theorem and1 (x k : Nat) (hx : x < 4294967296) : bits .and .u32 (((x : Nat) : Int) / 2 ^ k) 1 = ((x / 2 ^ k % 2 : Nat) : Int) := by
  have e : ((x : Nat) : Int) / 2 ^ k = ((x / 2 ^ k : Nat) : Int) := by simp
  rw [e]; exact band1 (Nat.lt_of_le_of_lt (Nat.div_le_self _ _) hx)
theorem flip_ne {q k : Nat} (hq : q < 2 ^ k) : q ^^^ 2 ^ k ≠ 0 := by
  intro h
  have := Crc.xor_eq_zero h
  omega
theorem mark_row (l : List Nat) (w : World) (t : TypeId) (fr : Nat × Nat) : Row (w.alloc (.cells (cs l) t fr)) w.heap.size 0 l := by
  intro k hk
  rw [Nat.zero_add, World.cell?_alloc_mark]
  rw [List.getD_eq_getElem?_getD, List.getElem?_eq_getElem hk]
  simp [cs, hk]
theorem mark_isB (l : List Nat) (w : World) (fr : Nat × Nat) (n : Nat) (hn : n = l.length) (hb : Crc.Byt l) (hm : l.length ≤ 100) : IsB (w.alloc (.cells (cs l) 5 fr)) (.slice (some ⟨w.heap.size, 0, none⟩) n n) l := by
  subst hn
  exact ⟨hb, by unfold maxLen; omega, .inr ⟨_, 0, _, rfl, Nat.le_refl _, by unfold maxLen; omega, by simp, mark_row l w _ _⟩⟩
theorem conv2 (w : World) (o : Obj) (C : Array Value) (n c : Nat) :
    (convert 30 30 (.slice (some ⟨w.heap.size + 1, 0, none⟩) n c)).run Try.prog ((w.alloc o).alloc (.cells C 5)) = .ok (.slice (some ⟨w.heap.size + 1, 0, none⟩) n c) ((w.alloc o).alloc (.cells C 5 (C.size, C.size + 1))) := by
  have h := Lib.run_convert_bytes_const (P := Try.prog) (w.alloc o) 30 5 C n c Try.underlying30 Try.underlying5
  rw [World.size_alloc] at h
  exact h
/-- the world behind the two constant texts -/
def W2 (w : World) : World := (w.alloc (.cells (cs [49, 50, 51, 52]) 5 (4, 5))).alloc (.cells (cs [53, 54, 55, 56, 57]) 5 (5, 6))
theorem W2_size (w : World) : (W2 w).heap.size = w.heap.size + 2 := by unfold W2; simp
theorem W2_below (w : World) : Below w.heap.size w (W2 w) := ((Below.refl _ _).alloc (Nat.le_refl _) _).alloc (by simp) _
theorem W2_one (w : World) : IsB (W2 w) (.slice (some ⟨w.heap.size, 0, none⟩) 4 4) [49, 50, 51, 52] :=
  (mark_isB [49, 50, 51, 52] w (4, 5) 4 rfl (by intro x hx; simp at hx; omega) (by decide)).below ((Below.refl _ _).alloc (Nat.le_refl _) _)
theorem W2_two (w : World) : IsB (W2 w) (.slice (some ⟨w.heap.size + 1, 0, none⟩) 5 5) [53, 54, 55, 56, 57] := by
  have h := mark_isB [53, 54, 55, 56, 57] (w.alloc (.cells (cs [49, 50, 51, 52]) 5 (4, 5))) (5, 6) 5 rfl (by intro x hx; simp at hx; omega) (by decide)
  rw [World.size_alloc] at h
  exact h
theorem known_sum (w : World) :
    Calls Try.prog 9 #[.slice (some ⟨w.heap.size + 2, 0, none⟩) 3 3] ((W2 w).alloc (.cells #[.slice (some ⟨w.heap.size, 0, none⟩) 4 4, .slice none 0 0, .slice (some ⟨w.heap.size + 1, 0, none⟩) 5 5] 30)) fun e u => e = .returned (.int .u32 3808858755) ∧ Below w.heap.size w u := by
  have h := sum_three (W2 w) (w.heap.size + 2) (W2_size w).symm _ _ _ _ _ _ (W2_one w) (isB_nil _) (W2_two w)
  rw [show ([49, 50, 51, 52] ++ ([] ++ [53, 54, 55, 56, 57]) : List Nat) = k9 from rfl, go_k9] at h
  exact h.mono fun e u hu => ⟨hu.1, (W2_below w).trans (hu.2.mono (W2_below w).size)⟩
set_option maxRecDepth 100000 in
set_option maxHeartbeats 400000 in
theorem law_is (va vb : Value) (la lb : List Nat) (x : Int) (P q : Nat) (w : World) (hA : IsB w va la) (hB : IsB w vb lb) (hm : la.length + lb.length ≤ 4194304) (hx : -9223372036854775808 ≤ x) (hx2 : x < 9223372036854775808) (hP : P < 4294967296) (hq : q < 4294967296) :
    Calls Try.prog 4 #[va, vb, .int .i64 x, .int .u32 (P : Int), .int .u32 (q : Int)] w fun e w' => e = .returned (.bool true) ∧ Below w.heap.size w w' := by
  have HA := hd hA
  have HB := hd hB
  obtain ⟨aa, ca, rfl⟩ := hA.shape
  obtain ⟨ab, cb, rfl⟩ := hB.shape
  clear hA hB
  have kc := fun (w : World) (C : Array Value) (n c : Nat) => Lib.run_convert_bytes_const (P := Try.prog) w 30 5 C n c Try.underlying30 Try.underlying5
  have kc2 := conv2
  go_enter Try.func4, Try.ntmps4
  go_wp2_with fail
  refine Calls.mono (new_any w) ?_
  rintro e w1 ⟨rfl, hT, hb1⟩
  have HT1 := hd hT
  have HA1 := hd (HA.out.below hb1)
  have HB1 := hd (HB.out.below hb1)
  have HW1 := hd hb1
  clear hT hb1
  go_wp2_with fail
  refine Calls.mono (sum_two w1 _ rfl _ _ _ _ HA1.out HB1.out) ?_
  rintro e w2 ⟨rfl, hb2⟩
  have HT2 := hd (HT1.out.below HT1.out.lt hb2)
  have HA2 := hd (HA1.out.below hb2)
  have HB2 := hd (HB1.out.below hb2)
  have HW2 := hd (HW1.out.trans (hb2.mono HW1.out.size))
  clear hb2 HT1 HA1 HB1 HW1 HA HB
  go_wp2_with fail
  refine Calls.mono (known_sum w2) ?_
  rintro e w3 ⟨rfl, hb3⟩
  have HT3 := hd (HT2.out.below HT2.out.lt hb3)
  have HA3 := hd (HA2.out.below hb3)
  have HB3 := hd (HB2.out.below hb3)
  have HW3 := hd (HW2.out.trans (hb3.mono HW2.out.size))
  clear hb3 HT2 HA2 HB2 HW2 kc kc2
  go_wp2_with fail
  refine Calls.mono (joined_is _ _ _ _ w3 HA3.out HB3.out hm) ?_
  rintro e w4 ⟨vj, rfl, hJ, hb4⟩
  have HJ4 := hd hJ
  have HT4 := hd (HT3.out.below HT3.out.lt hb4)
  have HA4 := hd (HA3.out.below hb4)
  have HB4 := hd (HB3.out.below hb4)
  have HW4 := hd (HW3.out.trans (hb4.mono HW3.out.size))
  have hw3 : w.heap.size ≤ w3.heap.size := HW3.out.size
  clear hb4 hJ HT3 HA3 HB3 HW3
  go_wp2_with fail
  refine Calls.mono (sum_one w4 _ rfl _ _ HA4.out) ?_
  rintro e w5 ⟨rfl, hb5⟩
  have hj5 : Below w4.heap.size w4 w5 := hb5
  have HJ5 : Hid (JB w5 w3.heap.size vj (la ++ lb)) := ⟨HJ4.out.1, own_below HJ4.out.2 hj5⟩
  have HT5 := hd (HT4.out.below HT4.out.lt hj5)
  have HA5 := hd (HA4.out.below hj5)
  have HB5 := hd (HB4.out.below hj5)
  have HW5 := hd (HW4.out.trans (hj5.mono HW4.out.size))
  clear hb5 hj5 HJ4 HT4 HA4 HB4 HW4
  go_wp2_with fail
  refine Calls.mono (sum_one w5 _ rfl _ _ HB5.out) ?_
  rintro e w6 ⟨rfl, hb6⟩
  have hj6 : Below w5.heap.size w5 w6 := hb6
  have HJ6 : Hid (JB w6 w3.heap.size vj (la ++ lb)) := ⟨HJ5.out.1, own_below HJ5.out.2 hj6⟩
  have HT6 := hd (HT5.out.below HT5.out.lt hj6)
  have HA6 := hd (HA5.out.below hj6)
  have HB6 := hd (HB5.out.below hj6)
  have HW6 := hd (HW5.out.trans (hj6.mono HW5.out.size))
  clear hb6 hj6 HJ5 HT5 HA5 HB5 HW5
  have lgo := Crc.go_lt 0 la
  have eApp : Crc.go (Crc.go 0 la) lb = Crc.go 0 (la ++ lb) := (Crc.go_append lb HA6.out.1).symm
  have HJoin := hd (join_any (Crc.go 0 la) (Crc.go 0 lb) lb.length w6 lgo (Crc.go_lt 0 lb) (by unfold maxLen; omega))
  rw [← Crc.go_join lgo HB6.out.1, eApp] at HJoin
  have HEA := hd eApp
  clear eApp
  go_wp2_with fail
  refine Calls.mono HJoin.out ?_
  rintro e w7 ⟨rfl, hw7⟩
  subst w7
  clear HJoin
  go_wp2_with fail
  refine Calls.mono (bitwise_zero _ _ w6 HA6.out) ?_
  rintro e w7 ⟨rfl, hw7⟩
  subst w7
  have H1 := hd (bitwise_is (Crc.go 0 la) _ _ w6 lgo HB6.out)
  rw [HEA.out] at H1
  go_wp2_with fail
  refine Calls.mono H1.out ?_
  rintro e w7 ⟨rfl, hw7⟩
  subst w7
  clear H1
  go_wp2_with fail
  refine Calls.mono (byEight_zero _ _ _ w6 HT6.out HA6.out) ?_
  rintro e w7 ⟨rfl, n1, rfl⟩
  have H2 := hd (byTable_is _ (Crc.go 0 la) _ _ (w6.drewN n1) lgo (HT6.out.drewN n1) (HB6.out.drewN n1))
  rw [HEA.out] at H2
  go_wp2_with fail
  refine Calls.mono H2.out ?_
  rintro e w7 ⟨rfl, hw7⟩
  subst w7
  clear H2
  go_wp2_with fail
  refine Calls.mono (byTable_zero _ _ _ _ (HT6.out.drewN n1) (HA6.out.drewN n1)) ?_
  rintro e w7 ⟨rfl, hw7⟩
  subst w7
  have H3 := hd (byEight_is _ (Crc.go 0 la) _ _ (w6.drewN n1) lgo (HT6.out.drewN n1) (HB6.out.drewN n1))
  rw [HEA.out] at H3
  go_wp2_with fail
  refine Calls.mono H3.out ?_
  rintro e w7 ⟨rfl, n2, rfl⟩
  clear H3
  have hl3 : (la ++ lb).length ≤ 4194304 := by rw [List.length_append]; exact hm
  generalize hall : la ++ lb = l at HJ6 hl3 HEA ⊢
  generalize hS : Crc.go 0 l = S at HEA ⊢
  have lS : S < 4294967296 := by rw [← hS]; exact Crc.go_lt 0 l
  have HS := hd hS
  obtain ⟨aj, cj, rfl⟩ := HJ6.out.isB.shape
  have H4 := hd (byEight_zero w.heap.size _ l (w6.drewN (n1 + n2)) (HT6.out.drewN _) (HJ6.out.isB.drewN _))
  rw [hS] at H4
  clear hS hall HEA
  go_wp2_with fail
  refine Calls.mono H4.out ?_
  rintro e w7 ⟨rfl, n3, hw7⟩
  have HJ7 : Hid (JB w7 w3.heap.size (.slice aj l.length cj) l) := by rw [hw7]; exact HJ6.out
  have HW7 : Hid (Below w.heap.size w w7) := by rw [hw7]; exact below_drewN (below_drewN HW6.out _) _
  clear hw7 H4 HT6 HA6 HB6 HJ6 HW6
  go_wp2_with fail
  refine Calls.mono (forge_is S q w7 lS hq) ?_
  rintro e w8 ⟨rfl, hF, hb8⟩
  have HF8 := hd hF
  have HJ8 : Hid (JB w8 w3.heap.size (.slice aj l.length cj) l) := ⟨HJ7.out.1, own_below HJ7.out.2 hb8⟩
  have HW8 := hd (HW7.out.trans (hb8.mono HW7.out.size))
  clear hF hb8 HJ7 HW7
  have HSum := hd (sum_two w8 _ rfl _ _ _ _ HJ8.out.isB HF8.out)
  rw [Crc.go_append _ HJ8.out.1, HS.out, Crc.go_fg S hq] at HSum
  go_wp2_with fail
  refine Calls.mono HSum.out ?_
  rintro e w9 ⟨rfl, hb9⟩
  have hj9 : Below w8.heap.size w8 w9 := hb9
  have HJ9 : Hid (JB w9 w3.heap.size (.slice aj l.length cj) l) := ⟨HJ8.out.1, own_below HJ8.out.2 hj9⟩
  have HW9 := hd (HW8.out.trans (hj9.mono HW8.out.size))
  clear hb9 hj9 HJ8 HW8 HSum HF8
  by_cases h0 : l.length = 0
  · obtain rfl : l = [] := List.length_eq_zero_iff.1 h0
    obtain rfl : S = 0 := by rw [← HS.out]; exact Crc.go_nil (by omega)
    rw [List.length_nil]
    go_wp2_with fail
    go_ret
    exact ⟨rfl, HW9.out⟩
  · obtain ⟨g, cap, ef, hg, hgl⟩ := HJ9.out.2.form (by omega)
    injection ef with e1 e2 e3
    subst e1 e3
    clear e2
    have HBuf := hd (buf_of_own HJ9.out.1 rfl hgl HJ9.out.2)
    have HPk := hd (pick_is x (8 * l.length) w9 (by omega) hx hx2 (by omega))
    rw [show (((8 * l.length : Nat)) : Int) = 8 * (l.length : Int) by omega] at HPk
    have hne : ¬ (l.length : Int) = 0 := by omega
    by_cases hP0 : P = 0
    · subst hP0
      go_wp2_with fail
      obtain ⟨P, hP1⟩ : ∃ P : Nat, P = 1 := ⟨_, rfl⟩
      have hP : P < 4294967296 := by omega
      rw [show Value.int .u32 1 = Value.int .u32 (P : Int) by rw [hP1]; rfl]
      clear hP1
      refine Calls.mono HPk.out ?_
      rintro e w10 ⟨t, ht, rfl, hw10⟩
      subst w10
      clear HPk
      have HBY := hd HJ9.out.1
      have hgw : w.heap.size ≤ g := Nat.le_trans hw3 hg
      go_wp2_with fail
      go_loopw [22, 23] (fun ch i wr => ∃ (k y : Nat) (lt : List Nat) (b : Bool), k ≤ 32 ∧ lt.length = l.length ∧ Crc.num lt = Crc.num l ^^^ y * 2 ^ t ∧ y < 2 ^ k ∧ (b = true ↔ y ≠ 0) ∧ ch = .bool b ∧ i = .int .i64 (k : Int) ∧ Buf wr g cj lt ∧ Below w.heap.size w wr) (fun _ i _ => 32 - (intOf i).toNat)
      case atStart => exact ⟨0, 0, l, false, by omega, rfl, by simp, by simp, by simp, rfl, rfl, HBuf.out, HW9.out⟩
      case round =>
        obtain ⟨k, y, lt, b, hk, hlt, hnum, hy, hyb, rfl, rfl, hBuf, hbl⟩ := hrel
        have HB := hd hBuf
        have HL := hd hbl
        have HN := hd hnum
        have HY := hd (And.intro hy hyb)
        clear hBuf hbl hnum hy hyb HBuf HJ9 HW9
        by_cases h32 : k < 32
        · have eb := and1 P k hP
          by_cases hbit : P.testBit k
          · have hte : ((P / 2 ^ k % 2 : Nat) : Int) = 1 := by rw [Crc.bit_div, if_pos hbit]; rfl
            rw [hte] at eb
            clear hbit hte
            by_cases hin : t + k < 8 * l.length
            · have hj : (t + k) / 8 < lt.length := by omega
              have hcj := HB.out.cell hj
              have hfj := HB.out.2.2.2.2.2 _ hj
              have lx := getD_lt HB.out.2.2.2.1 ((t + k) / 8)
              have HSn := hd (Crc.num_set lt ((t + k) / 8) ((t + k) % 8) hj)
              have HTn : Hid (∀ z : Nat, z < 256 → Buf (wr.setCell ⟨g, (t + k) / 8, none⟩ (.int .u8 (z : Int))) g cj (lt.set ((t + k) / 8) z)) := fun z hz => HB.out.set hj hz
              have HV := hd (xor_pow8 (r := (t + k) % 8) lx (by omega))
              have ly : lt.getD ((t + k) / 8) 0 ^^^ 2 ^ ((t + k) % 8) < 256 := Crc.xor_lt8 lx (show 2 ^ ((t + k) % 8) < 2 ^ 8 from Nat.pow_lt_pow_right (by decide) (by omega))
              generalize lt.getD ((t + k) / 8) 0 = x0 at *
              go_wp2
              go_roundw
              case rel =>
                refine ⟨k + 1, y ^^^ 2 ^ k, lt.set ((t + k) / 8) (x0 ^^^ 2 ^ ((t + k) % 8)), true, by omega, by rw [List.length_set]; exact hlt, ?_, ?_, ?_, rfl, by go_num, ?_, HL.out.setCell (p := ⟨g, _, none⟩) hgw _⟩
                · rw [HSn.out, HN.out, Crc.xor_mul_pow, ← Nat.pow_add, Nat.xor_assoc, show 8 * ((t + k) / 8) + (t + k) % 8 = k + t by omega]
                · exact Nat.xor_lt_two_pow (Nat.lt_of_lt_of_le HY.out.1 (Nat.pow_le_pow_right (by decide) (by omega))) (Nat.pow_lt_pow_right (by decide) (by omega))
                · exact ⟨fun _ => flip_ne HY.out.1, fun _ => rfl⟩
                · rw [HV.out]; exact HTn.out _ ly
              case measure => simp [intOf]; omega
            · go_wp2
              go_roundw
              case rel => exact ⟨k + 1, y, lt, b, by omega, hlt, HN.out, Nat.lt_of_lt_of_le HY.out.1 (Nat.pow_le_pow_right (by decide) (by omega)), HY.out.2, rfl, by go_num, HB.out, HL.out⟩
              case measure => simp [intOf]; omega
          · have hte : ((P / 2 ^ k % 2 : Nat) : Int) = 0 := by rw [Crc.bit_div, if_neg hbit]; rfl
            rw [hte] at eb
            clear hbit hte
            go_wp2
            go_roundw
            case rel => exact ⟨k + 1, y, lt, b, by omega, hlt, HN.out, Nat.lt_of_lt_of_le HY.out.1 (Nat.pow_le_pow_right (by decide) (by omega)), HY.out.2, rfl, by go_num, HB.out, HL.out⟩
            case measure => simp [intOf]; omega
        · obtain rfl : k = 32 := by omega
          have HSum := hd (sum_one wr _ rfl _ _ (HB.out.isB hlt.symm))
          cases b with
          | true =>
            have hD : ¬ ((Crc.go 0 lt : Nat) : Int) = (S : Int) := by
              have h := Crc.burst (q := y) (t := t) hlt.symm HBY.out HB.out.2.2.2.1 HN.out (by omega) HY.out.1 (HY.out.2.1 rfl)
              rw [HS.out] at h
              omega
            go_wp2_with fail
            refine Calls.mono HSum.out ?_
            rintro e w11 ⟨rfl, hb11⟩
            have HW11 := hd (HL.out.trans (hb11.mono HL.out.size))
            clear HSum hb11
            generalize Crc.go 0 lt = Z at *
            go_wp2_with fail
            go_ret
            exact ⟨by simp; exact hD, HW11.out⟩
          | false =>
            have hy0 : y = 0 := Classical.byContradiction fun h => by have := HY.out.2.2 h; simp at this
            have hD : Crc.go 0 lt = S := by
              have hn := HN.out
              rw [hy0, Nat.zero_mul, Nat.xor_zero] at hn
              rw [← HS.out, Crc.go_num (by omega) HB.out.2.2.2.1, Crc.go_num (by omega) HBY.out, hn, hlt]
            rw [hD] at HSum
            go_wp2_with fail
            refine Calls.mono HSum.out ?_
            rintro e w11 ⟨rfl, hb11⟩
            have HW11 := hd (HL.out.trans (hb11.mono HL.out.size))
            clear HSum hb11
            go_wp2_with fail
            go_ret
            exact ⟨rfl, HW11.out⟩
    · have hP1 : ¬ (P : Int) = 0 := by omega
      go_wp2_with fail
      refine Calls.mono HPk.out ?_
      rintro e w10 ⟨t, ht, rfl, hw10⟩
      subst w10
      clear HPk
      have HBY := hd HJ9.out.1
      have hgw : w.heap.size ≤ g := Nat.le_trans hw3 hg
      go_wp2_with fail
      go_loopw [22, 23] (fun ch i wr => ∃ (k y : Nat) (lt : List Nat) (b : Bool), k ≤ 32 ∧ lt.length = l.length ∧ Crc.num lt = Crc.num l ^^^ y * 2 ^ t ∧ y < 2 ^ k ∧ (b = true ↔ y ≠ 0) ∧ ch = .bool b ∧ i = .int .i64 (k : Int) ∧ Buf wr g cj lt ∧ Below w.heap.size w wr) (fun _ i _ => 32 - (intOf i).toNat)
      case atStart => exact ⟨0, 0, l, false, by omega, rfl, by simp, by simp, by simp, rfl, rfl, HBuf.out, HW9.out⟩
      case round =>
        obtain ⟨k, y, lt, b, hk, hlt, hnum, hy, hyb, rfl, rfl, hBuf, hbl⟩ := hrel
        have HB := hd hBuf
        have HL := hd hbl
        have HN := hd hnum
        have HY := hd (And.intro hy hyb)
        clear hBuf hbl hnum hy hyb HBuf HJ9 HW9
        by_cases h32 : k < 32
        · have eb := and1 P k hP
          by_cases hbit : P.testBit k
          · have hte : ((P / 2 ^ k % 2 : Nat) : Int) = 1 := by rw [Crc.bit_div, if_pos hbit]; rfl
            rw [hte] at eb
            clear hbit hte
            by_cases hin : t + k < 8 * l.length
            · have hj : (t + k) / 8 < lt.length := by omega
              have hcj := HB.out.cell hj
              have hfj := HB.out.2.2.2.2.2 _ hj
              have lx := getD_lt HB.out.2.2.2.1 ((t + k) / 8)
              have HSn := hd (Crc.num_set lt ((t + k) / 8) ((t + k) % 8) hj)
              have HTn : Hid (∀ z : Nat, z < 256 → Buf (wr.setCell ⟨g, (t + k) / 8, none⟩ (.int .u8 (z : Int))) g cj (lt.set ((t + k) / 8) z)) := fun z hz => HB.out.set hj hz
              have HV := hd (xor_pow8 (r := (t + k) % 8) lx (by omega))
              have ly : lt.getD ((t + k) / 8) 0 ^^^ 2 ^ ((t + k) % 8) < 256 := Crc.xor_lt8 lx (show 2 ^ ((t + k) % 8) < 2 ^ 8 from Nat.pow_lt_pow_right (by decide) (by omega))
              generalize lt.getD ((t + k) / 8) 0 = x0 at *
              go_wp2
              go_roundw
              case rel =>
                refine ⟨k + 1, y ^^^ 2 ^ k, lt.set ((t + k) / 8) (x0 ^^^ 2 ^ ((t + k) % 8)), true, by omega, by rw [List.length_set]; exact hlt, ?_, ?_, ?_, rfl, by go_num, ?_, HL.out.setCell (p := ⟨g, _, none⟩) hgw _⟩
                · rw [HSn.out, HN.out, Crc.xor_mul_pow, ← Nat.pow_add, Nat.xor_assoc, show 8 * ((t + k) / 8) + (t + k) % 8 = k + t by omega]
                · exact Nat.xor_lt_two_pow (Nat.lt_of_lt_of_le HY.out.1 (Nat.pow_le_pow_right (by decide) (by omega))) (Nat.pow_lt_pow_right (by decide) (by omega))
                · exact ⟨fun _ => flip_ne HY.out.1, fun _ => rfl⟩
                · rw [HV.out]; exact HTn.out _ ly
              case measure => simp [intOf]; omega
            · go_wp2
              go_roundw
              case rel => exact ⟨k + 1, y, lt, b, by omega, hlt, HN.out, Nat.lt_of_lt_of_le HY.out.1 (Nat.pow_le_pow_right (by decide) (by omega)), HY.out.2, rfl, by go_num, HB.out, HL.out⟩
              case measure => simp [intOf]; omega
          · have hte : ((P / 2 ^ k % 2 : Nat) : Int) = 0 := by rw [Crc.bit_div, if_neg hbit]; rfl
            rw [hte] at eb
            clear hbit hte
            go_wp2
            go_roundw
            case rel => exact ⟨k + 1, y, lt, b, by omega, hlt, HN.out, Nat.lt_of_lt_of_le HY.out.1 (Nat.pow_le_pow_right (by decide) (by omega)), HY.out.2, rfl, by go_num, HB.out, HL.out⟩
            case measure => simp [intOf]; omega
        · obtain rfl : k = 32 := by omega
          have HSum := hd (sum_one wr _ rfl _ _ (HB.out.isB hlt.symm))
          cases b with
          | true =>
            have hD : ¬ ((Crc.go 0 lt : Nat) : Int) = (S : Int) := by
              have h := Crc.burst (q := y) (t := t) hlt.symm HBY.out HB.out.2.2.2.1 HN.out (by omega) HY.out.1 (HY.out.2.1 rfl)
              rw [HS.out] at h
              omega
            go_wp2_with fail
            refine Calls.mono HSum.out ?_
            rintro e w11 ⟨rfl, hb11⟩
            have HW11 := hd (HL.out.trans (hb11.mono HL.out.size))
            clear HSum hb11
            generalize Crc.go 0 lt = Z at *
            go_wp2_with fail
            go_ret
            exact ⟨by simp; exact hD, HW11.out⟩
          | false =>
            have hy0 : y = 0 := Classical.byContradiction fun h => by have := HY.out.2.2 h; simp at this
            have hD : Crc.go 0 lt = S := by
              have hn := HN.out
              rw [hy0, Nat.zero_mul, Nat.xor_zero] at hn
              rw [← HS.out, Crc.go_num (by omega) HB.out.2.2.2.1, Crc.go_num (by omega) HBY.out, hn, hlt]
            rw [hD] at HSum
            go_wp2_with fail
            refine Calls.mono HSum.out ?_
            rintro e w11 ⟨rfl, hb11⟩
            have HW11 := hd (HL.out.trans (hb11.mono HL.out.size))
            clear HSum hb11
            go_wp2_with fail
            go_ret
            exact ⟨rfl, HW11.out⟩
end Tops
end Go.Proofs.Ytfodnbbpkonfpab
