/-
  THE WALKS OF the law's pick, turned, same.
-/
import Derived.Test.YtglnhppgoomehabNor0
import Derived.Test.YtglnhppgoomehabNq2
namespace Go.Proofs.Ytglnhppgoomehab
open Go.RowKit
namespace Nam
open Vt
/-- which of n things a raw number speaks of -/
def pk (c : Int) (n : Nat) : Nat := (if c < 0 then (-(c + 1)).toNat else c.toNat) % n
theorem pk_lt (c : Int) {n : Nat} (h : 0 < n) : pk c n < n := Nat.mod_lt _ h
theorem pick_is (c : Int) (n : Nat) (w : World) (h1 : -9223372036854775808 ≤ c) (h2 : c ≤ 9223372036854775807) (hn : 0 < n) (hn2 : n ≤ 9223372036854775807) :
    Calls Try.prog 21 #[.int .i64 c, .int .i64 (n : Int)] w fun e w' => e = .returned (.int .i64 ((pk c n : Nat) : Int)) ∧ w' = w := by
  have hnz : (((n : Nat) : Int) == 0) = false := by simp; omega
  have hne : ¬ ((n : Nat) : Int) = 0 := by omega
  by_cases h : c < 0
  · obtain ⟨k, hk⟩ : ∃ k : Nat, c = -((k : Int) + 1) := ⟨(-(c + 1)).toNat, by omega⟩
    have HS : Hid (pk c n = k % n) := by
      show pk c n = k % n
      unfold pk; rw [if_pos h, hk]
      congr 1
      omega
    rw [HS.out]
    go_enter Try.func21, Try.ntmps21
    go_wp2
    go_ret
    have e : (-((k : Int) + 1) + 1) = -(k : Int) := by omega
    refine ⟨?_, rfl⟩
    show Ending.returned (Value.int IntKind.i64 (-((-((k : Int) + 1) + 1).tmod (n : Int)))) = _
    rw [e, Int.neg_tmod, Int.neg_neg]
    rfl
  · obtain ⟨k, rfl⟩ : ∃ k : Nat, c = (k : Int) := ⟨c.toNat, by omega⟩
    have HS : Hid (pk (k : Int) n = k % n) := by
      show pk (k : Int) n = k % n
      unfold pk; rw [if_neg h, Int.toNat_natCast]
    rw [HS.out]
    go_enter Try.func21, Try.ntmps21
    go_wp2
    go_ret
    exact ⟨rfl, rfl⟩
/-- a slice of integers that came in -/
def IsI (w : World) (v : Value) (l : List Int) : Prop :=
  (∀ x ∈ l, -9223372036854775808 ≤ x ∧ x ≤ 9223372036854775807) ∧ l.length ≤ maxLen ∧ ((l = [] ∧ ∃ a c, v = .slice a 0 c) ∨ ∃ b off c, v = .slice (some ⟨b, off, none⟩) l.length c ∧ l.length ≤ c ∧ c ≤ maxLen ∧ b < w.heap.size ∧ ∀ i, i < l.length → w.cell? ⟨b, off + i, none⟩ = some (.int .i64 (l.getD i 0)))
theorem IsI.shape {w : World} {v : Value} {l : List Int} (h : IsI w v l) : ∃ a c, v = .slice a l.length c := by
  obtain ⟨_, _, ⟨rfl, a, c, rfl⟩ | ⟨b, off, c, rfl, _⟩⟩ := h
  · exact ⟨a, c, rfl⟩
  · exact ⟨_, c, rfl⟩
theorem IsI.below {n : Nat} {w w' : World} {v : Value} {l : List Int} (h : IsI w v l) (hb : Below n w w') (hn : n = w.heap.size) : IsI w' v l := by
  subst hn
  obtain ⟨h1, h2, ⟨rfl, a, c, rfl⟩ | ⟨b, off, c, rfl, h3, h4, h5, h6⟩⟩ := h
  · exact ⟨h1, h2, .inl ⟨rfl, a, c, rfl⟩⟩
  · refine ⟨h1, h2, .inr ⟨b, off, c, rfl, h3, h4, Nat.lt_of_lt_of_le h5 hb.size, fun k hk => ?_⟩⟩
    rw [hb.cell h5]; exact h6 k hk
theorem IsI.at {w : World} {a : Option Addr} {n c k : Nat} {l : List Int} (h : IsI w (.slice a n c) l) (hk : k < l.length) : ∃ b off, a = some ⟨b, off, none⟩ ∧ b < w.heap.size ∧ n = l.length ∧ w.cell? ⟨b, off + k, none⟩ = some (.int .i64 (l.getD k 0)) ∧ -9223372036854775808 ≤ l.getD k 0 ∧ l.getD k 0 ≤ 9223372036854775807 := by
  obtain ⟨h1, h2, ⟨rfl, a', c', e⟩ | ⟨b', off', c', e, h3, h4, h5, h6⟩⟩ := h
  · simp at hk
  · injection e with e1 e2 e3
    refine ⟨b', off', e1, h5, e2, h6 k hk, h1 _ ?_⟩
    rw [List.getD_eq_getElem?_getD, List.getElem?_eq_getElem hk]
    exact List.getElem_mem hk
theorem isI_of {w : World} {a : Option Addr} {len cap : Nat} {zs : List Int} (h : IsRow .i64 w a len cap zs) : ∃ l : List Int, IsI w (.slice a len cap) l := by
  rcases h with ⟨rfl, rfl, rfl, rfl⟩ | ⟨x, rfl, hl, hm, hz, hcell, hwz⟩
  · exact ⟨[], by simp, by simp, .inl ⟨rfl, _, _, rfl⟩⟩
  · have hlen : (zs.take len).length = len := by rw [List.length_take]; omega
    refine ⟨zs.take len, fun n hn => ?_, by omega, ?_⟩
    · have := bounds_i64 (hwz n (List.mem_of_mem_take hn)); exact this
    by_cases h0 : len = 0
    · subst h0
      exact .inl ⟨by simp, _, _, rfl⟩
    · obtain ⟨b, off, spot⟩ := x
      have hc := hcell 0 (by omega)
      have hspot : spot = none := by simpa [Addr.add] using World.cell?_spot hc
      subst hspot
      have hbl : b < w.heap.size := lt_of_cell hc
      refine .inr ⟨b, off, cap, by rw [hlen], by omega, hm, hbl, fun j hj => ?_⟩
      rw [hlen] at hj
      have hck := hcell j (by omega)
      rw [add_at] at hck
      rw [hck, List.getD_eq_getElem?_getD, List.getD_eq_getElem?_getD, List.getElem?_take_of_lt hj]
theorem JS.nn {w : World} {base : Nat} {a : Option Addr} {n c : Nat} {l : List ByteArray} (h : JS w base (.slice a n c) l) (hl : l ≠ []) : ∃ g, a = some ⟨g, 0, none⟩ ∧ base ≤ g ∧ n = l.length ∧ n ≤ c ∧ c ≤ maxLen ∧ ∀ j, j < l.length → w.cell? ⟨g, j, none⟩ = some (.string (l.getD j ByteArray.empty)) ∧ w.frozen? ⟨g, j, none⟩ = false ∧ (l.getD j ByteArray.empty).size ≤ maxLen := by
  obtain ⟨h1, h0, ⟨e, e'⟩ | ⟨g', cap, cur, e, hbs, hh, hle, hm, hc, ht⟩⟩ := h
  · exact absurd (List.length_eq_zero_iff.1 e') hl
  · injection e with e1 e2 e3
    subst e1 e2 e3
    refine ⟨g', rfl, hbs, rfl, hle, hm, fun j hj => ⟨?_, by simp [World.frozen?, hh], h1 _ ?_⟩⟩
    · have hat : cur[j]? = some (.string (l.getD j ByteArray.empty)) := by
        have := sv_at l j hj
        rw [← ht, List.getElem?_take_of_lt (by omega)] at this
        simpa using this
      simp only [World.cell?, hh]
      simpa using hat
    · rw [List.getD_eq_getElem?_getD, List.getElem?_eq_getElem hj]; exact List.getElem_mem hj
theorem JS.set {w : World} {base g n c j : Nat} {l : List ByteArray} (h : JS w base (.slice (some ⟨g, 0, none⟩) n c) l) (hn : n = l.length) {s : ByteArray} (hs : s.size ≤ maxLen) : JS (w.setCell ⟨g, j, none⟩ (.string s)) base (.slice (some ⟨g, 0, none⟩) n c) (l.set j s) := by
  subst hn
  refine ⟨?_, ?_⟩
  · intro x hx
    rcases List.mem_or_eq_of_mem_set hx with hx | hx
    · exact h.1 x hx
    · rw [hx]; exact hs
  · have := own_set (j := j) h.2 (.string s)
    unfold sv
    rw [List.length_set, List.map_set]
    exact this
set_option maxRecDepth 100000 in
set_option maxHeartbeats 400000 in
theorem same_is (va vb : Value) (l : List ByteArray) (w : World) (hA : IsS w va l) (hB : IsS w vb l) :
    Calls Try.prog 9 #[va, vb] w fun e w' => e = .returned (.bool true) ∧ ∃ q, w' = w.drewN q := by
  obtain ⟨a1, c1, rfl⟩ := hA.shape
  obtain ⟨a2, c2, rfl⟩ := hB.shape
  have HA := hd hA
  have HB := hd hB
  have hm := hA.2.1
  unfold maxLen at hm
  clear hA hB
  go_enter Try.func9, Try.ntmps9
  go_wp2_with fail
  go_loopw [5] (fun i wx => ∃ j q : Nat, j ≤ l.length ∧ i = .int .i64 (j : Int) ∧ wx = w.drewN q) (fun i _ => l.length - (intOf i).toNat)
  case atStart => exact ⟨0, 0, by omega, rfl, rfl⟩
  case round =>
    obtain ⟨j, q2, hj, rfl, hwr⟩ := hrel
    have HW6 := Vt.hd hwr
    have hS1 : IsS wr (.slice a1 l.length c1) l := by rw [hwr]; exact HA.out
    have hS2 : IsS wr (.slice a2 l.length c2) l := by rw [hwr]; exact HB.out
    clear hwr
    by_cases hjl : j < l.length
    · have HJL : Hid (j + 1 ≤ l.length) := hjl
      obtain ⟨b1, o1, ha1, hbl1, _, hcell1, hsz1⟩ := hS1.at hjl
      obtain ⟨b2, o2, ha2, hbl2, _, hcell2, hsz2⟩ := hS2.at hjl
      rw [ha1, ha2]
      clear ha1 ha2 hS1 hS2 hj
      generalize l.getD j ByteArray.empty = s at *
      go_wp2_with fail
      go_quiet (fail)
      go_wp2_with fail
      go_roundw
      case rel =>
        obtain ⟨q3, h3⟩ := drewN2 w q2 nq
        exact ⟨j + 1, q3, HJL.out, by go_num, by rw [HW6.out]; exact h3⟩
      case measure => have := HJL.out; simp [intOf]; omega
    · have hji : ¬ ((j : Nat) : Int) < (l.length : Int) := by omega
      clear hS1 hS2 hjl hj
      go_wp2_with fail
      go_ret
      exact ⟨rfl, q2, HW6.out⟩
set_option maxRecDepth 100000 in
set_option maxHeartbeats 1000000 in
theorem turned_is (v vb : Value) (ss : List ByteArray) (zs : List Int) (w : World) (hS : IsS w v ss) (hZ : IsI w vb zs) (hlen : ss.length * 16 ≤ 140737488351232) :
    Calls Try.prog 8 #[v, vb] w fun e w' => (∃ v', e = .returned v' ∧ ∃ out, JS w' w.heap.size v' out ∧ (∀ x, x ∈ out ↔ x ∈ ss) ∧ out.length ≤ ss.length + 1) ∧ Below w.heap.size w w' := by
  obtain ⟨a, cap, rfl⟩ := hS.shape
  obtain ⟨a2, cap2, rfl⟩ := hZ.shape
  have HS := hd hS
  have HZ := hd hZ
  have hzm := hZ.2.1
  unfold maxLen at hzm
  clear hS hZ
  go_enter Try.func8, Try.ntmps8
  go_wp2_with (at_builtin; refine wpList_append_ss w rfl _ _ rfl w.heap.size _ _ [] ss rfl rfl (js_nil _ _) HS.out ss.length (by simp) ss rfl (by omega) (by omega) (Nat.le_refl _) ?_; intro a7 c7 w7 hJ7 hg7 hb7 hl7; have HB7 := hd ((js_nil w w.heap.size).grown (Below.refl w.heap.size w) (Nat.le_refl _) (Nat.le_refl _) hg7); have HJ7 := hd hJ7; clear hJ7 hg7 hb7 hl7)
  go_loopw [6] (fun i wx => ∃ (t : Nat) (out : List ByteArray), t ≤ zs.length ∧ i = .int .i64 (t : Int) ∧ out.length = ss.length ∧ (∀ x, x ∈ out ↔ x ∈ ss) ∧ JS wx w.heap.size (.slice a7 ss.length c7) out ∧ Below w.heap.size w wx) (fun i _ => zs.length - (intOf i).toNat)
  case atStart => exact ⟨0, ss, by omega, rfl, rfl, fun _ => Iff.rfl, HJ7.out, HB7.out⟩
  case round =>
    obtain ⟨t, out, ht, rfl, hol, hom, hJ, hB⟩ := hrel
    have HJ := hd hJ
    have HB := hd hB
    have HOM := hd hom
    have HOL := hd hol
    clear hJ hB hom hol
    by_cases hgo : t < zs.length ∧ 1 < ss.length
    · obtain ⟨htl, hs1⟩ := hgo
      have hti : ((t : Nat) : Int) < (zs.length : Int) := by omega
      have hsi : (1 : Int) < (ss.length : Int) := by omega
      have hne : out ≠ [] := by intro e; have := HOL.out; rw [e] at this; simp at this; omega
      obtain ⟨g, hg0, hgb, hnl, hnc, hcm, hcells⟩ := HJ.out.nn hne
      have HG0 := hd hg0
      have HGB := hd hgb
      have HCE := hd hcells
      have hZr := HZ.out.below HB.out rfl
      obtain ⟨b2, o2, hb2, hbl2, hzl, hzc, hz1, hz2⟩ := hZr.at htl
      have HTL : Hid (t + 1 ≤ zs.length) := htl
      rw [hb2, hg0]
      rw [hg0] at HJ
      generalize zs.getD t 0 = z at *
      clear hb2 hZr hg0 hnl hzl hcells hgb hne ht
      unfold maxLen at hcm
      have hp1 := pk_lt z (show 0 < ss.length by omega)
      have hp2 := pk_lt (z.tdiv 7) (show 0 < ss.length by omega)
      obtain ⟨hx1, hx2, hx3⟩ := HCE.out (pk z ss.length) (by rw [HOL.out]; exact hp1)
      obtain ⟨hy1, hy2, hy3⟩ := HCE.out (pk (z.tdiv 7) ss.length) (by rw [HOL.out]; exact hp2)
      have HJ1 := hd (HJ.out.set (j := pk z ss.length) HOL.out.symm hy3)
      have HJ2 := hd (HJ1.out.set (j := pk (z.tdiv 7) ss.length) (by rw [List.length_set]; exact HOL.out.symm) hx3)
      have HSM := hd (fun y => swap_mem (l := out) (a := pk z ss.length) (b := pk (z.tdiv 7) ss.length) (by rw [HOL.out]; exact hp1) (by rw [HOL.out]; exact hp2) y)
      have hd1 : -9223372036854775808 ≤ z.tdiv 7 ∧ z.tdiv 7 ≤ 9223372036854775807 := by
        have hk : ∀ k : Nat, ((k : Int)).tdiv 7 = ((k / 7 : Nat) : Int) := fun k => rfl
        by_cases h0 : 0 ≤ z
        · obtain ⟨k, rfl⟩ : ∃ k : Nat, z = (k : Int) := ⟨z.toNat, by omega⟩
          rw [hk]; omega
        · obtain ⟨k, rfl⟩ : ∃ k : Nat, z = -(k : Int) := ⟨(-z).toNat, by omega⟩
          rw [Int.neg_tdiv, hk]; omega
      have HPI1 := hd (pick_is z ss.length wr hz1 hz2 (by omega) (by omega))
      have HPI2 := hd (pick_is (z.tdiv 7) ss.length wr hd1.1 hd1.2 (by omega) (by omega))
      go_wp2_with fail
      refine Calls.mono HPI1.out ?_
      rintro e wr ⟨rfl, rfl⟩
      go_wp2_with fail
      refine Calls.mono HPI2.out ?_
      rintro e wr ⟨rfl, rfl⟩
      generalize pk z ss.length = A at *
      generalize pk (z.tdiv 7) ss.length = C at *
      clear HPI1 HPI2 HCE hd1
      have HREL : Hid (∀ W : World, JS W w.heap.size (.slice (some ⟨g, 0, none⟩) ss.length c7) ((out.set A (out.getD C ByteArray.empty)).set C (out.getD A ByteArray.empty)) → Below w.heap.size w W → ∃ (t' : Nat) (out : List ByteArray), t' ≤ zs.length ∧ Value.int .i64 ((t : Int) + 1) = .int .i64 (t' : Int) ∧ out.length = ss.length ∧ (∀ x, x ∈ out ↔ x ∈ ss) ∧ JS W w.heap.size (.slice (some ⟨g, 0, none⟩) ss.length c7) out ∧ Below w.heap.size w W) := by
        intro W hJW hBW
        exact ⟨t + 1, _, HTL.out, by go_num, by rw [List.length_set, List.length_set]; exact HOL.out, fun y => (HSM.out y).trans (HOM.out y), hJW, hBW⟩
      by_cases hAC : A = C
      · subst hAC
        generalize out.getD A ByteArray.empty = s1 at *
        go_wp2_with fail
        exact ⟨HREL.out _ HJ2.out ((HB.out.setCell (p := ⟨g, A, none⟩) HGB.out _).setCell (p := ⟨g, A, none⟩) HGB.out _), by have := HTL.out; simp [intOf]; omega⟩
      · have hCA : ¬ C = A := fun e => hAC e.symm
        generalize out.getD A ByteArray.empty = s1 at *
        generalize out.getD C ByteArray.empty = s2 at *
        go_wp2_with fail
        exact ⟨HREL.out _ HJ2.out ((HB.out.setCell (p := ⟨g, A, none⟩) HGB.out _).setCell (p := ⟨g, C, none⟩) HGB.out _), by have := HTL.out; simp [intOf]; omega⟩
    · by_cases htl : t < zs.length
      · have hs1 : ¬ 1 < ss.length := fun h => hgo ⟨htl, h⟩
        have hti : ((t : Nat) : Int) < (zs.length : Int) := by omega
        have hsi : ¬ (1 : Int) < (ss.length : Int) := by omega
        clear hgo ht
        by_cases h0 : ss.length = 0
        · have h0' : ¬ (0 : Int) < (ss.length : Int) := by omega
          have HJ0 : Hid (JS wr w.heap.size (.slice a7 ss.length c7) out) := HJ.out
          clear h0
          go_wp2_with fail
          go_ret
          exact ⟨⟨_, rfl, out, HJ0.out, HOM.out, by rw [HOL.out]; omega⟩, HB.out⟩
        · have h0' : (0 : Int) < (ss.length : Int) := by omega
          have hne : out ≠ [] := by intro e; have := HOL.out; rw [e] at this; simp at this; omega
          obtain ⟨g, hg0, hgb, hnl, hnc, hcm, hcells⟩ := HJ.out.nn hne
          obtain ⟨hx1, hx2, hx3⟩ := hcells 0 (by rw [HOL.out]; omega)
          rw [hg0]
          rw [hg0] at HJ
          have HMEM : Hid (out.getD 0 ByteArray.empty ∈ out) := by
            show out.getD 0 ByteArray.empty ∈ out
            rw [List.getD_eq_getElem?_getD, List.getElem?_eq_getElem (by rw [HOL.out]; omega)]; exact List.getElem_mem _
          clear hg0 hnl hcells hgb hne h0
          unfold maxLen at hcm
          generalize out.getD 0 ByteArray.empty = s1 at *
          go_wp2_with (at_builtin; refine wpList_append_ss _ rfl _ _ rfl w.heap.size (.slice (some ⟨g, 0, none⟩) ss.length c7) (.slice (some ⟨wr.heap.size, 0, none⟩) 1 1) out [s1] rfl rfl (HJ.out.keepAll ((Below.refl _ _).alloc (Nat.le_refl _) _)) (lit_isS wr s1 _ _ rfl hx3) (ss.length + 1) (by rw [HOL.out]; rfl) (out ++ [s1]) rfl (by omega) (by omega) (by have := HB.out.size; simp; omega) ?_; intro a8 c8 w8 hJ8 hg8 hb8 hl8; have HB8 := hd ((HJ.out.keepAll ((Below.refl _ _).alloc (Nat.le_refl _) _)).grown (HB.out.alloc HB.out.size _) (Nat.le_refl _) (by have := HB.out.size; simp; omega) hg8); have HJ8 := hd hJ8; clear hJ8 hg8 hb8 hl8)
          go_ret
          refine ⟨⟨_, rfl, out ++ [s1], HJ8.out, fun x => ?_, by rw [List.length_append, HOL.out]; simp⟩, HB8.out⟩
          rw [List.mem_append, List.mem_singleton, ← HOM.out x]
          exact ⟨fun h => h.elim id (fun e => e ▸ HMEM.out), .inl⟩
      · have hti : ¬ ((t : Nat) : Int) < (zs.length : Int) := by omega
        clear hgo ht htl
        by_cases h0 : ss.length = 0
        · have h0' : ¬ (0 : Int) < (ss.length : Int) := by omega
          have HJ0 : Hid (JS wr w.heap.size (.slice a7 ss.length c7) out) := HJ.out
          clear h0
          go_wp2_with fail
          go_ret
          exact ⟨⟨_, rfl, out, HJ0.out, HOM.out, by rw [HOL.out]; omega⟩, HB.out⟩
        · have h0' : (0 : Int) < (ss.length : Int) := by omega
          have hne : out ≠ [] := by intro e; have := HOL.out; rw [e] at this; simp at this; omega
          obtain ⟨g, hg0, hgb, hnl, hnc, hcm, hcells⟩ := HJ.out.nn hne
          obtain ⟨hx1, hx2, hx3⟩ := hcells 0 (by rw [HOL.out]; omega)
          rw [hg0]
          rw [hg0] at HJ
          have HMEM : Hid (out.getD 0 ByteArray.empty ∈ out) := by
            show out.getD 0 ByteArray.empty ∈ out
            rw [List.getD_eq_getElem?_getD, List.getElem?_eq_getElem (by rw [HOL.out]; omega)]; exact List.getElem_mem _
          clear hg0 hnl hcells hgb hne h0
          unfold maxLen at hcm
          generalize out.getD 0 ByteArray.empty = s1 at *
          go_wp2_with (at_builtin; refine wpList_append_ss _ rfl _ _ rfl w.heap.size (.slice (some ⟨g, 0, none⟩) ss.length c7) (.slice (some ⟨wr.heap.size, 0, none⟩) 1 1) out [s1] rfl rfl (HJ.out.keepAll ((Below.refl _ _).alloc (Nat.le_refl _) _)) (lit_isS wr s1 _ _ rfl hx3) (ss.length + 1) (by rw [HOL.out]; rfl) (out ++ [s1]) rfl (by omega) (by omega) (by have := HB.out.size; simp; omega) ?_; intro a8 c8 w8 hJ8 hg8 hb8 hl8; have HB8 := hd ((HJ.out.keepAll ((Below.refl _ _).alloc (Nat.le_refl _) _)).grown (HB.out.alloc HB.out.size _) (Nat.le_refl _) (by have := HB.out.size; simp; omega) hg8); have HJ8 := hd hJ8; clear hJ8 hg8 hb8 hl8)
          go_ret
          refine ⟨⟨_, rfl, out ++ [s1], HJ8.out, fun x => ?_, by rw [List.length_append, HOL.out]; simp⟩, HB8.out⟩
          rw [List.mem_append, List.mem_singleton, ← HOM.out x]
          exact ⟨fun h => h.elim id (fun e => e ▸ HMEM.out), .inl⟩
end Nam
end Go.Proofs.Ytglnhppgoomehab
