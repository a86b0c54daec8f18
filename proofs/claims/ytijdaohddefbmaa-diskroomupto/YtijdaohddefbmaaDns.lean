/-
  The law's sameFiles.
-/
import Derived.Test.YtijdaohddefbmaaDnp
import Derived.Test.YtijdaohddefbmaaDkc
namespace Go.Proofs.Ytijdaohddefbmaa
open Go.RowKit Go.Maps Go.Sort
namespace Dk
open Vt
/-- cell by cell -/
theorem FLs.at {w : World} {lo : Nat} {v : Value} {l : List (ByteArray × List Nat)} (h : FLs w lo v l) {k : Nat} {s : ByteArray} {x : List Nat} (hk : l[k]? = some (s, x)) : ∃ g c ua uc, v = .slice (some ⟨g, 0, none⟩) l.length c ∧ l.length ≤ c ∧ c ≤ maxLen ∧ w.cell? ⟨g, k * 2, none⟩ = some (.string s) ∧ w.cell? ⟨g, k * 2 + 1, none⟩ = some (.slice ua x.length uc) ∧ JB w lo (.slice ua x.length uc) x := by
  obtain ⟨cs, rfl, hP, hc⟩ := h
  rw [List.getElem?_map] at hk
  obtain ⟨c, hck, hcx⟩ := Option.map_eq_some_iff.1 hk
  injection hcx with h1 h2
  subst h1 h2
  have hJ := hc c (List.mem_of_getElem? hck)
  obtain ⟨ua, uc, hu, _⟩ := hJ.shape
  obtain ⟨_, h0, ⟨rfl, hn⟩ | ⟨g, cap, cur, rfl, hge, hh, hl, hm, hsz, ht⟩⟩ := hP
  · rw [List.length_map] at hn
    rw [List.eq_nil_of_length_eq_zero hn] at hck
    cases hck
  · rw [List.length_map] at hl ht
    have hp := Ow.pc_at (cs.map fun c => (Value.string c.1, c.2.2)) k (.string c.1, c.2.2) (by rw [List.getElem?_map, hck]; rfl)
    have hcell : ∀ j u, (Ow.pc (cs.map fun c => (Value.string c.1, c.2.2)))[j]? = some u → w.cell? ⟨g, j, none⟩ = some u := by
      intro j u hj
      rw [← ht, List.getElem?_take] at hj
      split at hj
      · simp only [World.cell?, hh]
        simpa using hj
      · cases hj
    refine ⟨g, cap, ua, uc, by simp, by simpa using hl, hm, hcell _ _ hp.1, ?_, by rw [← hu]; exact hJ⟩
    rw [← hu]; exact hcell _ _ hp.2
set_option maxRecDepth 100000 in
set_option maxHeartbeats 1000000 in
theorem sameFiles_is (w : World) (lo lo' : Nat) (v v' : Value) (l l' : List (ByteArray × List Nat)) (h : FLs w lo v l) (h' : FLs w lo' v' l') (hl : l.length ≤ 3300000000200) : Calls Try.prog 16 #[v, v'] w fun x w2 => x = .returned (.bool (decide (l = l'))) ∧ Tr (fun _ => False) w w2 ∧ w2.heap.size = w.heap.size := by
  obtain ⟨a, c, rfl, hc⟩ := h.shape
  obtain ⟨a', c', rfl, hc'⟩ := h'.shape
  have HF := hd h; have HF' := hd h'
  clear h h'
  by_cases hll : ¬ l.length = l'.length
  · have hne : ((l.length : Int) != (l'.length : Int)) = true := by rw [bne_iff_ne]; omega
    have hf : decide (l = l') = false := decide_eq_false (fun e => hll (by rw [e]))
    rw [hf]
    go_enter Try.func16, Try.ntmps16
    go_wp2_with fail
    go_ret
    exact ⟨rfl, Tr.refl _ _, rfl⟩
  replace hll := Decidable.not_not.1 hll
  rw [← hll] at HF' ⊢
  have HLL := hd hll
  clear hll hc hc'
  go_enter Try.func16, Try.ntmps16
  go_wp2_with fail
  go_loopw [5] (fun i wr => ∃ k : Nat, k ≤ l.length ∧ i = .int .i64 (k : Int) ∧ l.take k = l'.take k ∧ ∃ n, wr = w.drewN n) (fun i _ => l.length - (intOf i).toNat)
  case atStart => exact ⟨0, by omega, rfl, rfl, 0, rfl⟩
  case round =>
    obtain ⟨k, hk, rfl, htk, hwr⟩ := hrel
    have HTK := hd htk
    have HFr : Hid (FLs wr lo (Value.slice a l.length c) l ∧ FLs wr lo' (Value.slice a' l.length c') l') := by obtain ⟨n, rfl⟩ := hwr; exact ⟨HF.out, HF'.out⟩
    have HWR := hd hwr
    clear htk hwr
    by_cases hlt : k < l.length
    · obtain ⟨⟨s, x⟩, hx⟩ : ∃ p, l[k]? = some p := ⟨_, List.getElem?_eq_getElem hlt⟩
      obtain ⟨⟨s', x'⟩, hx'⟩ : ∃ p, l'[k]? = some p := ⟨_, List.getElem?_eq_getElem (by rw [← HLL.out]; exact hlt)⟩
      obtain ⟨g, c0, ua, uc, hv, hlc, hcm, c1, c2, hJ⟩ := HFr.out.1.at hx
      obtain ⟨g', c0', ua', uc', hv', hlc', hcm', c1', c2', hJ'⟩ := HFr.out.2.at hx'
      injection hv with hv1 hz hv2
      injection hv' with hv1' hz' hv2'
      clear hz hz'
      subst hv1 hv2 hv1' hv2'
      rw [← HLL.out] at hlc'
      have HS := hd (fun n => same_is (.slice ua x.length uc) (.slice ua' x'.length uc') x x' (wr.drewN n) hJ.isB hJ'.isB)
      have HX := hd hx; have HX' := hd hx'
      clear hJ hJ' hx hx'
      have FALSE : s ≠ s' ∨ x ≠ x' → l ≠ l' := fun q e => by
        have h1 := HX.out
        rw [e, HX'.out] at h1
        injection h1 with h1
        injection h1 with h2 h3
        rcases q with q | q
        · exact q h2.symm
        · exact q h3.symm
      by_cases hxx : x = x'
      · rw [decide_eq_true hxx] at HS
        have HXX := hd hxx
        clear hxx
        by_cases hss : s = s'
        · have HN : Hid (l.take (k + 1) = l'.take (k + 1)) := by
            show _ = _
            rw [List.take_add_one, List.take_add_one, HTK.out, HX.out, HX'.out, HXX.out, hss]
          clear FALSE
          have hq : (!s.toList == s'.toList) = false := by rw [hss]; simp
          have HSS := hd hss
          clear hss
          go_wp2_with fail
          go_quiet ((go_at_call 35; exact Calls.quiet_of (HS.out _)))
          go_wp2_with fail
          go_quiet (fail)
          go_wp2_with fail
          go_roundw
          case rel =>
            refine ⟨k + 1, by omega, by go_num, HN.out, ?_⟩
            obtain ⟨n, hn⟩ := HWR.out
            exact ⟨_, by rw [hn, World.drewN_drewN]⟩
          case measure => simp [intOf]; omega
        · have hq : (!s.toList == s'.toList) = true := by
            have : (s.toList == s'.toList) = false := by
              rw [beq_eq_false_iff_ne]
              intro e
              apply hss
              have e1 : s.data.toList = s'.data.toList := by rw [ByteArray.toList_eq, ByteArray.toList_eq] at e; exact e
              rcases s with ⟨⟨x⟩⟩; rcases s' with ⟨⟨y⟩⟩; simp at e1; rw [e1]
            rw [this]; rfl
          have HF0 := hd (decide_eq_false (FALSE (.inl hss)))
          have HSS := hd hss
          clear hss FALSE
          go_wp2_with fail
          go_quiet ((go_at_call 35; exact Calls.quiet_of (HS.out _)))
          go_wp2_with fail
          go_quiet (fail)
          go_wp2_with fail
          rw [HF0.out]
          obtain ⟨n, hn⟩ := HWR.out
          subst hn
          go_ret
          exact ⟨rfl, ⟨rfl, rfl, rfl, Nat.le_refl _, fun _ _ _ => rfl⟩, rfl⟩
      · rw [decide_eq_false hxx] at HS
        have HF0 := hd (decide_eq_false (FALSE (.inr hxx)))
        have HXX := hd hxx
        clear hxx FALSE
        go_wp2_with fail
        go_quiet ((go_at_call 35; exact Calls.quiet_of (HS.out _)))
        go_wp2_with fail
        go_quiet (fail)
        go_wp2_with fail
        rw [HF0.out]
        obtain ⟨n, hn⟩ := HWR.out
        subst hn
        go_ret
        exact ⟨rfl, ⟨rfl, rfl, rfl, Nat.le_refl _, fun _ _ _ => rfl⟩, rfl⟩
    · obtain rfl : l.length = k := by omega
      have HT0 : Hid (decide (l = l') = true) := by
        refine decide_eq_true ?_
        have := HTK.out
        rw [List.take_length, HLL.out, List.take_length] at this
        exact this
      obtain ⟨n, hn⟩ := HWR.out
      subst hn
      go_wp2_with fail
      rw [HT0.out]
      go_ret
      exact ⟨rfl, ⟨rfl, rfl, rfl, Nat.le_refl _, fun _ _ _ => rfl⟩, rfl⟩
end Dk
end Go.Proofs.Ytijdaohddefbmaa
