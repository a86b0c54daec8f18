/-
  THE WALK OF CrcSums.
-/
import Derived.Test.YtfodnbbpkonfpaaS0
import Derived.Test.YtfodnbbpkonfpaaFo0
import Derived.Test.YtfodnbbpkonfpaaK1
import Derived.Test.YtfodnbbpkonfpaaInv
namespace Go.Proofs.Ytfodnbbpkonfpaa
open Go.RowKit
namespace Sums
theorem much_is (v : Value) (ls : List (List Nat)) (w : World) (hP : IsP w v ls) (hm : ls.length ≤ 140737488351232) (hR : ∀ i, (ls.getD i []).length ≤ 140737488351232) :
    Calls Try.prog 19 #[v] w fun e w' => MuchPost ls e ∧ w' = w := by
  obtain ⟨_, ⟨rfl, a, c, rfl⟩ | ⟨b, off, c, rfl, hb, hP⟩⟩ := hP
  · exact (much_nil a c w).mono fun e w' h => ⟨⟨false, h.1, fun _ => by simp⟩, h.2⟩
  · exact much_row b off c ls w hm hP hR
theorem joined_is (v : Value) (ls : List (List Nat)) (w : World) (hP : IsP w v ls) (hm : ls.flatten.length + 16 * ls.length ≤ 4194304) :
    Calls Try.prog 20 #[v] w fun e w' => ∃ v, e = .returned v ∧ IsB w' v ls.flatten ∧ Below w.heap.size w w' := by
  obtain ⟨_, ⟨rfl, a, c, rfl⟩ | ⟨b, off, c, rfl, hb, hP⟩⟩ := hP
  · refine (joined_nil a c w).mono fun e w' h => ⟨_, h.1, isB_nil _, ?_⟩
    rw [h.2]; exact Below.refl _ _
  · refine (joined_row b off c ls w hb hm hP).mono ?_
    rintro e w' ⟨v, h1, h2, h3⟩
    exact ⟨v, h1, h2.isB, h3⟩
theorem _root_.Go.Proofs.Ytfodnbbpkonfpaa.Buf.pre {w : World} {g cap : Nat} {l t : List Nat} (h : Buf w g cap (l ++ t)) : IsB w (.slice (some ⟨g, 0, none⟩) l.length cap) l := by
  have := (h.isB rfl).take l.length (by simp)
  rwa [List.take_left] at this
/-- a row of one's own of so many bytes, whichever -/
def Fill (w : World) (g cap n : Nat) : Prop := ∃ lt : List Nat, lt.length = n ∧ Buf w g cap lt
theorem Fill.setz {w : World} {g cap n j : Nat} {z : Int} (h : Fill w g cap n) (hj : j < n) (h0 : 0 ≤ z) (h1 : z < 256) : Fill (w.setCell ⟨g, j, none⟩ (.int .u8 z)) g cap n := by
  obtain ⟨lt, hl, hB⟩ := h
  obtain ⟨y, rfl⟩ := Int.eq_ofNat_of_zero_le h0
  exact ⟨lt.set j y, by rw [List.length_set]; exact hl, hB.set (by omega) (by omega)⟩
theorem Fill.old {w : World} {g cap n j : Nat} (h : Fill w g cap n) (hj : j < n) : ∃ x : Nat, w.cell? ⟨g, j, none⟩ = some (.int .u8 (x : Int)) ∧ w.frozen? ⟨g, j, none⟩ = false := by
  obtain ⟨lt, hl, hB⟩ := h
  exact ⟨_, hB.cell (by omega), hB.2.2.2.2.2 j (by omega)⟩
theorem part_le {ls : List (List Nat)} {k : Nat} (h : k < ls.length) : (ls.getD k []).length ≤ ls.flatten.length := by
  have e : ls.flatten = (ls.take (k + 1)).flatten ++ (ls.drop (k + 1)).flatten := by rw [← List.flatten_append, List.take_append_drop]
  rw [e, takes_succ h]
  simp only [List.length_append]; omega
theorem shape {w : World} {v : Value} {ls : List (List Nat)} (h : IsP w v ls) : ∃ A c, v = .slice A ls.length c := by
  obtain ⟨_, ⟨rfl, a, c, rfl⟩ | ⟨b, off, c, rfl, hb, hP⟩⟩ := h
  · exact ⟨a, c, rfl⟩
  · exact ⟨_, c, rfl⟩
theorem row_of {w : World} {A : Option Addr} {n c : Nat} {ls : List (List Nat)} (h : IsP w (.slice A n c) ls) (hl : 0 < ls.length) : ∃ b off, A = some ⟨b, off, none⟩ ∧ b < w.heap.size ∧ IsPs w b off ls := by
  obtain ⟨_, ⟨rfl, a, c, _⟩ | ⟨b, off, c, e, hb, hP⟩⟩ := h
  · simp at hl
  · injection e with e1 e2 e3
    exact ⟨b, off, e1, hb, hP⟩
theorem info_sl : (Try.prog.info? 22).map (fun i => (i.zero, i.size, i.bytes)) = some (some (.slice none 0 0), 1, 24) := by kernel_rfl
/-- the first k of a row's values are lent copies of the first k lists -/
def Lents (w : World) (vs : List Value) (ls : List (List Nat)) (k : Nat) (o : Option Nat) : Prop :=
  ∀ j, j < k → ∃ g cap, vs[j]? = some (.slice (some ⟨g, 0, none⟩) (ls.getD j []).length cap) ∧ Buf w g cap (ls.getD j [] ++ [90, 165, 119]) ∧ o ≠ some g
theorem Lents.below {w w' : World} {vs : List Value} {ls : List (List Nat)} {k : Nat} {o : Option Nat} (h : Lents w vs ls k o) (hb : Below w.heap.size w w') : Lents w' vs ls k o := by
  intro j hj
  obtain ⟨g, cap, h1, h2, h3⟩ := h j hj
  exact ⟨g, cap, h1, h2.below h2.2.2.1 hb, h3⟩
theorem _root_.Go.Proofs.Ytfodnbbpkonfpaa.Buf.far {w w' : World} {g cap : Nat} {l : List Nat} {o : Option Nat} (h : Buf w g cap l) (hg : w.grownBy w' o) (ho : o ≠ some g) : Buf w' g cap l := by
  obtain ⟨h1, h2, h3, h4, h5, h6⟩ := h
  refine ⟨h1, h2, Nat.lt_of_lt_of_le h3 hg.size, h4, fun k hk => ?_, fun k hk => ?_⟩
  · rw [hg.cell_far _ h3 (fun e => ho e.symm)]; exact h5 k hk
  · rw [hg.frozen_far _ h3 (fun e => ho e.symm)]; exact h6 k hk
theorem Lents.grown {w w' : World} {vs : List Value} {ls : List (List Nat)} {k g' : Nat} {o : Option Nat} (h : Lents w vs ls k o) (hg : w.grownBy w' o) (xs : List Value) (ho : o = some g' ∨ w.heap.size ≤ g') : Lents w' (vs ++ xs) ls k (some g') := by
  intro j hj
  obtain ⟨g, cap, h1, h2, h3⟩ := h j hj
  refine ⟨g, cap, ?_, h2.far hg h3, ?_⟩
  · have : j < vs.length := (List.getElem?_eq_some_iff.1 h1).1
    rw [List.getElem?_append_left this]; exact h1
  · intro e
    injection e with e
    subst e
    rcases ho with ho | ho
    · exact h3 ho
    · have := h2.2.2.1; omega
theorem Lents.succ {w : World} {vs : List Value} {ls : List (List Nat)} {k g cap : Nat} {o : Option Nat} (h : Lents w vs ls k o) (h1 : vs[k]? = some (.slice (some ⟨g, 0, none⟩) (ls.getD k []).length cap)) (h2 : Buf w g cap (ls.getD k [] ++ [90, 165, 119])) (h3 : o ≠ some g) : Lents w vs ls (k + 1) o := by
  intro j hj
  by_cases e : j = k
  · subst e; exact ⟨g, cap, h1, h2, h3⟩
  · exact h j (by omega)
theorem Lents.push {w w' : World} {vs : List Value} {ls : List (List Nat)} {l : List Nat} {k g0 cap0 g1 : Nat} {o : Option Nat} {X : Obj} (h : Lents w vs ls k o) (hlen : vs.length = k) (hl : l = ls.getD k []) (hG : Buf w g0 cap0 (l ++ [90, 165, 119])) (hne : o ≠ some g0)
    (hg : (w.alloc X).grownBy w' o) (hat : o = some g1 ∨ g1 = w.heap.size + 1) : Lents w' (vs ++ [.slice (some ⟨g0, 0, none⟩) l.length cap0]) ls (k + 1) (some g1) := by
  have hb : Below w.heap.size w (w.alloc X) := (Below.refl _ _).alloc (Nat.le_refl _) _
  refine ((h.below hb).grown hg _ (hat.imp_right fun e => by simp; omega)).succ (g := g0) (cap := cap0) ?_ ?_ ?_
  · rw [← hl, List.getElem?_append_right (by omega), hlen, Nat.sub_self]; rfl
  · rw [← hl]; exact (hG.below hG.2.2.1 hb).far hg hne
  · intro e
    injection e with e
    subst e
    rcases hat with h | h
    · exact hne h
    · have := hG.2.2.1; omega
theorem own_below {w w' : World} {base n : Nat} {e : TypeId} {v : Value} {xs : List Value} (h : w.ownsRow base e 1 v n xs) (hb : Below w.heap.size w w') : w'.ownsRow base e 1 v n xs := by
  refine World.ownsRow.kept h (row := none) ⟨hb.os, hb.tape, hb.output, hb.size, fun i hi _ => hb.block i hi⟩ ?_
  cases hv : v.ownBlock <;> simp
theorem isPs_of {w : World} {base g cap n : Nat} {e : TypeId} {vs : List Value} {ls : List (List Nat)} {o : Option Nat} (hO : w.ownsRow base e 1 (.slice (some ⟨g, 0, none⟩) n cap) n vs) (hL : Lents w vs ls ls.length o) (hn : ls.length ≤ n) : IsPs w g 0 ls := by
  intro i hi
  obtain ⟨g', cap', h1, h2, _⟩ := hL i hi
  exact ⟨_, by rw [Nat.zero_add, hO.cellAt i (by omega), h1], h2.pre⟩
theorem one_newN (w : World) (N : Nat) (hN : N = w.heap.size) (t : TypeId) (x : Value) : ∀ j u, [x][j]? = some u → (w.alloc (.cells #[x] t)).cell? ((⟨N, 0, none⟩ : Addr).add j) = some u := by
  subst hN
  intro j u hu
  have hj : j < 1 := (List.getElem?_eq_some_iff.1 hu).1
  obtain rfl : j = 0 := by omega
  have hA : Addr.add ⟨w.heap.size, 0, none⟩ 0 = ⟨w.heap.size, 0, none⟩ := by
    unfold Addr.add; simp
  rw [hA, World.cell?_alloc_new, ← hu]; simp
theorem one_new (w : World) (t : TypeId) (x : Value) : ∀ j u, [x][j]? = some u → (w.alloc (.cells #[x] t)).cell? ((⟨w.heap.size, 0, none⟩ : Addr).add j) = some u := by
  intro j u hu
  have hj : j < 1 := (List.getElem?_eq_some_iff.1 hu).1
  obtain rfl : j = 0 := by omega
  have hA : Addr.add ⟨w.heap.size, 0, none⟩ 0 = ⟨w.heap.size, 0, none⟩ := by
    unfold Addr.add; simp
  rw [hA, World.cell?_alloc_new, ← hu]; simp
set_option maxRecDepth 100000 in
set_option maxHeartbeats 400000 in
theorem law_is (s : Nat) (v : Value) (ls : List (List Nat)) (w : World) (hs : s < 4294967296) (hP : IsP w v ls) (hm : ls.length ≤ 140737488351232) (hR : ∀ i, (ls.getD i []).length ≤ 140737488351232) :
    Calls Try.prog 8 #[.int .u32 (s : Int), v] w fun e w' => e = .returned (.bool true) ∧ Below w.heap.size w w' := by
  obtain ⟨A, c, rfl⟩ := shape hP
  have HP := hd hP
  have HR := hd hR
  clear hP hR
  go_enter Try.func8, Try.ntmps8
  go_wp2_with fail
  refine Calls.mono (known_any w) ?_
  rintro e w1 ⟨rfl, hb1⟩
  have HB1 := hd hb1
  have HP1 := hd (HP.out.below hb1)
  clear hb1
  go_wp2_with fail
  refine Calls.mono (much_is _ ls w1 HP1.out hm HR.out) ?_
  rintro e w2 ⟨⟨far, rfl, hfar⟩, hw2⟩
  subst w2
  cases far with
  | true =>
    go_wp2_with fail
    go_ret
    exact ⟨rfl, HB1.out⟩
  | false =>
    have hall := hfar rfl
    clear hfar
    go_wp2_with fail
    refine Calls.mono (joined_is _ ls w1 HP1.out hall) ?_
    rintro e w2 ⟨va, rfl, hA, hb2⟩
    have HA2 := hd hA
    have HP2 := hd (HP1.out.below hb2)
    have HW2 := hd (HB1.out.trans (hb2.mono HB1.out.size))
    have HALL := hd hall
    have hfl : ls.flatten.length ≤ 4194304 := by omega
    have hpl : ls.length ≤ 262144 := by omega
    have hbyt : Hid (Crc.Byt ls.flatten) := hA.1
    clear hb2 hA hall
    obtain ⟨la, hla⟩ : ∃ la, la = ls.flatten := ⟨_, rfl⟩
    rw [← hla] at HA2 hfl hbyt
    have HLA := hd hla
    clear hla
    go_wp2_with fail
    refine Calls.mono (goOn_is s va _ w2 hs HA2.out (by omega)) ?_
    rintro e w3 ⟨rfl, hw3⟩
    subst w3
    go_wp2_with fail
    refine Calls.mono (new_any w2) ?_
    rintro e w3 ⟨rfl, hT, hb3⟩
    have HS3 := hd hT
    have HA3 := hd (HA2.out.below hb3)
    have HW3 := hd (HW2.out.trans (hb3.mono HW2.out.size))
    have HP3 := hd (HP2.out.below hb3)
    clear hT hb3
    go_wp2_with fail
    refine Calls.mono (new_any w3) ?_
    rintro e w4 ⟨rfl, hT, hb4⟩
    have HT4 := hd hT
    have HS4 := hd (HS3.out.below HS3.out.lt hb4)
    have HA4 := hd (HA3.out.below hb4)
    have HW4 := hd (HW3.out.trans (hb4.mono HW3.out.size))
    have HP4 := hd (HP3.out.below hb4)
    clear hT hb4
    go_wp2_with fail
    refine Calls.mono (lent_is va la w4 HA4.out hfl) ?_
    rintro e w5 ⟨g, cap, rfl, hG, hg, hb5⟩
    have HG5 := hd hG
    have HS5 := hd (HS4.out.below HS4.out.lt hb5)
    have HT5 := hd (HT4.out.below HT4.out.lt hb5)
    have HA5 := hd (HA4.out.below hb5)
    have HP5 := hd (HP4.out.below hb5)
    have HL5 := hd hG.pre
    have HB5 := hd hb5
    clear hG hb5
    go_wp2_with fail
    refine Calls.mono (bitwise_is s _ _ w5 hs HL5.out) ?_
    rintro e w6 ⟨rfl, hw6⟩
    subst w6
    go_wp2_with fail
    refine Calls.mono (byTable_is _ s _ _ w5 hs HS5.out HL5.out) ?_
    rintro e w6 ⟨rfl, hw6⟩
    subst w6
    go_wp2_with fail
    refine Calls.mono (byEight_is _ s _ _ w5 hs HS5.out HL5.out) ?_
    rintro e w6 ⟨rfl, n1, rfl⟩
    go_wp2_with fail
    refine Calls.mono (byEight_is _ s _ _ (w5.drewN n1) hs (HT5.out.drewN n1) (HL5.out.drewN n1)) ?_
    rintro e w6 ⟨rfl, n2, rfl⟩
    go_wp2_with fail
    refine Calls.mono (kept_is g cap _ _ (w5.drewN (n1 + n2)) HG5.out HA5.out hfl) ?_
    rintro e w6 ⟨rfl, n3, rfl⟩
    generalize hw6 : (w5.drewN (n1 + n2)).drewN n3 = w6
    have HF6 : Hid (Fill w6 g cap (la.length + 3)) := by rw [← hw6]; exact ⟨_, by simp, HG5.out⟩
    have HB6 : Hid (Below w4.heap.size w4 w6) := by rw [← hw6]; exact below_drewN (below_drewN HB5.out _) _
    clear hw6 HT5 HT4 HS5 HS3 HP5 HP3 HP2 HP1 HP HB1 HA5 HA3 HA2 HG5 HL5 HB5
    go_wp2_with fail
    go_loopw [17] (fun i wr => ∃ k : Nat, k ≤ la.length ∧ i = .int .i64 (k : Int) ∧ Fill wr g cap (la.length + 3) ∧ Below w4.heap.size w4 wr) (fun i _ => la.length - (intOf i).toNat)
    case atStart => exact ⟨0, by omega, rfl, HF6.out, HB6.out⟩
    case round =>
      obtain ⟨k, hk, rfl, hF, hB⟩ := hrel
      have HF := hd hF
      have HB := hd hB
      clear hF hB HF6 HB6
      by_cases hlt : k < la.length
      · obtain ⟨x, cx, fx⟩ := HF.out.old (j := k) (by omega)
        go_wp2
        go_roundw
        case rel =>
          refine ⟨k + 1, by omega, by go_num, HF.out.setz (by omega) ?_ ?_, HB.out.setCell hg _⟩
          · omega
          · omega
        case measure => simp [intOf]; omega
      · obtain rfl : k = la.length := by omega
        obtain ⟨w7, hw7⟩ : ∃ w7 : World, w7 = wr := ⟨_, rfl⟩
        rw [← hw7] at HF HB ⊢
        clear hw7 wr
        have HP7 := hd (HP4.out.below HB.out)
        have HW7 := hd (HW4.out.trans (HB.out.mono HW4.out.size))
        have HA7 := hd (HA4.out.below HB.out)
        have HS7 := hd (HS4.out.below HS4.out.lt HB.out)
        obtain ⟨lx, hlx, hX⟩ : ∃ lx : List Nat, lx.length = la.length ∧ IsB w7 (.slice (some ⟨g, 0, none⟩) la.length cap) lx := by
          obtain ⟨lt, hl, hB⟩ := HF.out
          exact ⟨lt.take la.length, by simp; omega, (hB.isB rfl).take la.length (by omega)⟩
        have HX7 := hd hX
        clear hX HF HP4 HA4 HS4
        go_wp2_with fail
        refine Calls.mono (byTable_is _ s _ _ w7 hs HS7.out HX7.out) ?_
        rintro e w8 ⟨rfl, hw8⟩
        subst w8
        go_wp2_with fail
        refine Calls.mono (goOn_is s _ _ w7 hs HX7.out (by omega)) ?_
        rintro e w8 ⟨rfl, hw8⟩
        subst w8
        go_wp2_with fail
        refine Calls.mono (byEight_is _ s _ _ w7 hs HS7.out HX7.out) ?_
        rintro e w8 ⟨rfl, m1, rfl⟩
        go_wp2_with fail
        refine Calls.mono (goOn_is s _ _ _ hs (HX7.out.drewN m1) (by omega)) ?_
        rintro e w8 ⟨rfl, hw8⟩
        subst w8
        go_wp2_with fail
        refine Calls.mono (bitwise_is s _ _ _ hs (HX7.out.drewN m1)) ?_
        rintro e w8 ⟨rfl, hw8⟩
        subst w8
        go_wp2_with fail
        refine Calls.mono (goOn_is s _ _ _ hs (HX7.out.drewN m1) (by omega)) ?_
        rintro e w8 ⟨rfl, hw8⟩
        subst w8
        go_wp2_with fail
        refine Calls.mono (sum_one _ _ rfl _ _ (HX7.out.drewN m1)) ?_
        rintro e w8 ⟨rfl, hb8⟩
        have hb8' : Below w7.heap.size w7 w8 := (below_drewN (Below.refl _ _) m1).trans hb8
        have HX8 := hd (HX7.out.below hb8')
        have HW8 := hd (HW7.out.trans (hb8'.mono HW7.out.size))
        have HP8 := hd (HP7.out.below hb8')
        have HA8 := hd (HA7.out.below hb8')
        clear hb8 hb8' HX7 HP7 HA7 HS7
        go_wp2_with fail
        have HG0 := hd (goOn_is 0 _ _ w8 (by omega) HX8.out (by omega))
        refine Calls.mono HG0.out ?_
        rintro e w9 ⟨rfl, hw9⟩
        subst w9
        clear HG0 HX8
        obtain ⟨i0, hi, hz0, hz1, hz2⟩ := info_parts info_sl
        go_wp2_with fail
        go_loopw [19, 20] (fun o i wr => ∃ (ov : Value) (k : Nat) (vs : List Value), ov = o ∧ k ≤ ls.length ∧ i = .int .i64 (k : Int) ∧ wr.ownsRow w8.heap.size 22 1 o k vs ∧ Lents wr vs ls k o.ownBlock ∧ Below w8.heap.size w8 wr) (fun _ i _ => ls.length - (intOf i).toNat)
        case atStart => exact ⟨_, 0, [], rfl, by omega, rfl, ⟨rfl, .inl ⟨rfl, rfl⟩⟩, fun j hj => by omega, Below.refl _ _⟩
        case round =>
          obtain ⟨o, k, vs, ho, hk, rfl, hO, hL, hB⟩ := hrel
          subst ho
          have HO := hd hO
          have HL := hd hL
          have HBr := hd hB
          clear hO hL hB
          by_cases hlt : k < ls.length
          · obtain ⟨b, off, rfl, hb, hPs⟩ := row_of (HP8.out.below HBr.out) (by omega)
            obtain ⟨vk, hvk, hIk⟩ := hPs k hlt
            have HIk := hd hIk
            obtain ⟨l, hl⟩ : ∃ l, l = ls.getD k [] := ⟨_, rfl⟩
            have hll : l.length ≤ 4194304 := by have := part_le hlt; rw [← hl, ← HLA.out] at this; omega
            rw [← hl] at HIk
            have HEl := hd hl
            clear hPs hIk hl
            go_wp2_with fail
            refine Calls.mono (lent_is vk l wr HIk.out hll) ?_
            rintro e w10 ⟨g0, cap0, rfl, hG0, hg0, hb10⟩
            have HG0 := hd hG0
            have HO10 := hd (own_below HO.out hb10)
            have HL10 := hd (HL.out.below hb10)
            have HB10 := hd (HBr.out.trans (hb10.mono HBr.out.size))
            have hsz : wr.heap.size ≤ w10.heap.size := hb10.size
            clear hG0 hb10 HL
            go_wp2_with (at_builtin; (refine wpList_append_lies _ rfl _ _ 38 rfl w8.heap.size 22 i0 (.slice none 0 0) 1 24 Try.underlying38 hi hz0 hz1 hz2 rfl (by decide) o k vs rfl (HO10.out.alloc _) ⟨w10.heap.size, 0, none⟩ 1 1 [.slice (some ⟨g0, 0, none⟩) l.length cap0] rfl rfl (one_new _ _ _) (by simp [Value.oneCell']) (by decide) (by unfold maxLen; omega) (by omega) (Nat.le_trans HB10.out.size (by simp)) (w10.heap.size + 1) (by simp) ?_; intro g1 cap1 w11 hown hgrow hat hlt1))
            have HO11 := hd hown
            have HGr := hd hgrow
            have HAt := hd hat
            clear hown hgrow hat
            go_wp2
            go_roundw
            case rel =>
              refine ⟨_, k + 1, vs ++ [.slice (some ⟨g0, 0, none⟩) l.length cap0], rfl, by omega, by go_num, HO11.out, ?_, ?_⟩
              · exact HL10.out.push (by have := HO.out.1; omega) HEl.out HG0.out (fun e => by have := (HO.out.lt g0 e).2; omega) HGr.out HAt.out
              · exact (HB10.out.alloc HB10.out.size _).grown HGr.out (by have := HB10.out.size; simp; omega) (fun q hq => (HO.out.lt q hq).1)
            case measure => simp [intOf]; omega
          · obtain rfl : k = ls.length := by omega
            obtain ⟨w9, hw9⟩ : ∃ w9 : World, w9 = wr := ⟨_, rfl⟩
            rw [← hw9] at HO HL HBr ⊢
            clear hw9 wr
            have hnc : ∀ x : Nat, ls.length + 1 ≤ x → ls.length ≤ x := fun x h => by omega
            go_wp2_with (at_builtin; (refine wpList_append_lies _ rfl _ _ 38 rfl w8.heap.size 22 i0 (.slice none 0 0) 1 24 Try.underlying38 hi hz0 hz1 hz2 rfl (by decide) o ls.length vs rfl ((HO.out.alloc _).alloc _) ⟨w9.heap.size + 1, 0, none⟩ 1 1 [.slice (some ⟨w9.heap.size, 0, none⟩) 1 1] rfl rfl (one_newN _ _ (by simp) _ _) (by simp [Value.oneCell']) (by decide) (by unfold maxLen; omega) (by omega) (Nat.le_trans HBr.out.size (by simp only [World.size_alloc]; omega)) (w9.heap.size + 2) (by simp) ?_; intro g2 cap2 w10 hown hgrow hat hlt1; have HO10 := hd hown; have hcap2 := own_cap hown; have hcap2' := hnc _ hcap2; have HGr := hd hgrow; have HAt := hd hat; clear hown hgrow hat))
            have hvl : vs.length = ls.length := by have := HO.out.1; omega
            have hoN : o.ownBlock ≠ some w9.heap.size := fun e => by have := (HO.out.lt _ e).2; omega
            have HL10 : Hid (Lents w10 (vs ++ [.slice (some ⟨w9.heap.size, 0, none⟩) 1 1]) ls ls.length (some g2)) := by
              have h1 := (HL.out.below ((Below.refl _ _).alloc (Nat.le_refl _) (.cells #[.int .u8 90] 5))).below ((Below.refl _ _).alloc (Nat.le_refl _) (.cells #[.slice (some ⟨w9.heap.size, 0, none⟩) 1 1] 22))
              exact h1.grown HGr.out _ (HAt.out.imp_right fun e => by simp only [World.size_alloc]; omega)
            have HB10 : Hid (Below w8.heap.size w8 w10) := (((HBr.out.alloc HBr.out.size _).alloc (Nat.le_trans HBr.out.size (by simp only [World.size_alloc]; omega)) _).grown HGr.out (by have := HBr.out.size; simp only [World.size_alloc]; omega) (fun q hq => (HO.out.lt q hq).1))
            have HE10 : Hid (w10.cell? ⟨w9.heap.size, 0, none⟩ = some (.int .u8 90)) := by
              have := HGr.out.cell_far ⟨w9.heap.size, 0, none⟩ (by simp only [World.size_alloc]; omega) (fun e => hoN e.symm)
              rw [show w10.cell? ⟨w9.heap.size, 0, none⟩ = _ from this, ((Below.refl _ _).alloc (Nat.le_refl _) _).cell (by simp), World.cell?_alloc_new]; rfl
            have HPs := hd (isPs_of HO10.out HL10.out (by omega))
            have HSum := hd (sum_row g2 0 cap2 ls w10 (by unfold maxLen; omega) hlt1 HPs.out)
            rw [← HLA.out] at HSum
            clear HPs HGr HAt hoN HL HO
            refine Calls.mono HSum.out ?_
            rintro e w11 ⟨rfl, hb11⟩
            have HO11 := hd (own_below HO10.out hb11)
            have HL11 := hd (HL10.out.below hb11)
            have HE11 : Hid (w11.cell? ⟨w9.heap.size, 0, none⟩ = some (.int .u8 90)) := by rw [show w11.cell? ⟨w9.heap.size, 0, none⟩ = _ from hb11.cell (lt_of_cell HE10.out)]; exact HE10.out
            have HB11 : Hid (Below w8.heap.size w8 w11) := HB10.out.trans (hb11.mono HB10.out.size)
            have HA11 := hd (HA8.out.below HB11.out)
            have HW11 := hd (HW8.out.trans (HB11.out.mono HW8.out.size))
            have HP11 := hd (HP8.out.below HB11.out)
            clear hb11 HO10 HL10 HE10 HB10 HA8 HP8 HBr HSum
            go_wp2_with fail
            have HG0 := hd (goOn_is 0 _ _ w11 (by omega) HA11.out (by omega))
            refine Calls.mono HG0.out ?_
            rintro e w12 ⟨rfl, hw12⟩
            subst w12
            clear HG0
            go_wp2_with fail
            have hown1 := HO11.out
            have cend : w11.cell? ⟨g2, ls.length, none⟩ = some (.slice (some ⟨w9.heap.size, 0, none⟩) 1 1) := by
              rw [hown1.cellAt ls.length (by omega), List.getElem?_append_right (by omega), hvl, Nat.sub_self]; rfl
            have HC := hd cend
            clear hown1 cend
            go_loopw [16, 24] (fun o i wr => ∃ k n : Nat, k ≤ ls.length ∧ o = .bool true ∧ i = .int .i64 (k : Int) ∧ wr = w11.drewN n) (fun _ i _ => ls.length - (intOf i).toNat)
            case atStart => exact ⟨0, 0, by omega, rfl, rfl, rfl⟩
            case round =>
              obtain ⟨k, n, hk, rfl, rfl, rfl⟩ := hrel
              by_cases hlt : k < ls.length
              · obtain ⟨b, off, rfl, hb, hPs⟩ := row_of HP11.out (by omega)
                obtain ⟨vk, hvk, hIk⟩ := hPs k hlt
                obtain ⟨g3, cap3, h1, h2, _⟩ := HL11.out k hlt
                have ck : w11.cell? ⟨g2, k, none⟩ = some (.slice (some ⟨g3, 0, none⟩) (ls.getD k []).length cap3) := by rw [HO11.out.cellAt k (by omega), h1]
                obtain ⟨l, hl⟩ : ∃ l, l = ls.getD k [] := ⟨_, rfl⟩
                have hll : l.length ≤ 4194304 := by have := part_le hlt; rw [← hl, ← HLA.out] at this; omega
                rw [← hl] at hIk h2 ck
                have HK := hd (fun m => kept_is g3 cap3 vk l ((w11.drewN n).drewN m) h2 (hIk.drewN m) hll)
                replace hvk : (w11.drewN n).cell? ⟨b, off + k, none⟩ = some vk := hvk
                replace ck : (w11.drewN n).cell? ⟨g2, k, none⟩ = some (.slice (some ⟨g3, 0, none⟩) l.length cap3) := ck
                obtain ⟨wq, hwq⟩ : ∃ wq : World, wq = w11.drewN n := ⟨_, rfl⟩
                rw [← hwq] at HK hvk ck ⊢
                have HWQ := hd hwq
                clear hwq
                have hk1 : k < ls.length + 1 := by omega
                have hk2 : (k : Int) < (ls.length : Int) + 1 := by omega
                clear h1 h2 hIk hPs hl hb
                go_wp2
                go_quiet (first | (go_at_call 22; exact Calls.quiet_of (HK.out _)))
                go_wp2
                go_roundw
                case rel => exact ⟨k + 1, _, by omega, rfl, by go_num, by rw [HWQ.out, World.drewN_drewN]⟩
                case measure => simp [intOf]; omega
              · obtain rfl : k = ls.length := by omega
                have cend := HC.out
                have c90 := HE11.out
                go_wp2
                go_ret
                exact ⟨rfl, below_drewN HW11.out n⟩
end Sums
end Go.Proofs.Ytfodnbbpkonfpaa
