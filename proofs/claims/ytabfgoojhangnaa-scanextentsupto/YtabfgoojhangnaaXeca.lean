/-
  THE REFERENCE OF LAYER 5: Next.
-/
import Derived.Test.YtabfgoojhangnaaXebz
import Derived.Test.YtabfgoojhangnaaXebg
import Derived.Test.YtabfgoojhangnaaXebi
namespace Go.Proofs.Ytabfgoojhangnaa
open Go.RowKit Go.Shelf
namespace Vt
theorem frm_le {l : List Nat} (hb : Byt l) (z : Int) : locs (frm l.length z) (l.drop (frm l.length z)) = (locs 0 l).filter (fun x => decide (z ≤ (x.1 : Int))) := by
  have h := locs_from hb 0 (frm l.length z)
  rw [Nat.zero_add] at h
  rw [← h]
  refine List.filter_congr fun x hx => ?_
  have hm := locs_mem hb 0 x hx
  have h9 := hm.2.2.2.1
  have h2 := hm.2.1
  rw [Bool.eq_iff_iff, decide_eq_true_eq, decide_eq_true_eq]
  unfold frm
  omega
theorem fst_at {l : List Nat} (hb : Byt l) {z : Int} {k : Nat} {x : Lc} (hx : (locs 0 l)[k]? = some x) (hz : z ≤ (x.1 : Int)) (hlo : ∀ j y, j < k → (locs 0 l)[j]? = some y → (y.1 : Int) < z) : fst l z = ((x.1 : Int), (x.2.1 : Int)) := by
  refine fst_cons ?_
  rw [frm_le hb]
  have hk := (List.getElem?_eq_some_iff.1 hx).1
  have e : locs 0 l = (locs 0 l).take k ++ x :: (locs 0 l).drop (k + 1) := by
    conv => lhs; rw [← List.take_append_drop k (locs 0 l)]
    rw [List.drop_eq_getElem_cons hk]
    congr 2
    exact (List.getElem?_eq_some_iff.1 hx).2
  have e2 : ((locs 0 l).take k).filter (fun x => decide (z ≤ (x.1 : Int))) = [] := by
    rw [List.filter_eq_nil_iff]
    intro y hy
    obtain ⟨j, hj, rfl⟩ := List.mem_iff_getElem.1 hy
    rw [List.length_take] at hj
    have := hlo j ((locs 0 l)[j]) (by omega) (List.getElem?_eq_getElem (by omega))
    rw [List.getElem_take]
    simp only [decide_eq_true_eq]
    omega
  rw [e, List.filter_append, e2, List.nil_append, List.filter_cons, if_pos (by simpa using hz)]
  exact ⟨_, rfl⟩
theorem fst_none {l : List Nat} (hb : Byt l) {z : Int} (hlo : ∀ j y, j < (locs 0 l).length → (locs 0 l)[j]? = some y → (y.1 : Int) < z) : fst l z = (-1, 0) := by
  refine fst_nil ?_
  rw [frm_le hb, List.filter_eq_nil_iff]
  intro y hy
  obtain ⟨j, hj, rfl⟩ := List.mem_iff_getElem.1 hy
  have := hlo j ((locs 0 l)[j]) hj (List.getElem?_eq_getElem hj)
  simp only [decide_eq_true_eq]
  omega
attribute [local go_sem] Oper.semAt_some
set_option maxRecDepth 100000 in
set_option maxHeartbeats 2000000 in
theorem r5_next (v : Value) (l : List Nat) (z : Int) (w : World) (hI : IsB w v l) (hl : l.length ≤ 10000000) :
    Calls Try.prog 9 #[v, .int .i64 z] w fun e w' => e = .returned (.tuple #[.int .i64 (fst l z).1, .int .i64 (fst l z).2]) ∧ Below w.heap.size w w' := by
  obtain ⟨av0, c, rfl⟩ := hI.shape
  have HI := hd hI
  have hby := hI.1
  have HFA := hd (fun k x hx hz hlo => fst_at hby (z := z) (k := k) (x := x) hx hz hlo)
  have HFN := hd (fun hlo => fst_none hby (z := z) hlo)
  have hll := locs_len hI.1 _ (Nat.le_refl _) 0
  clear hI hby
  go_enter Try.func9, Try.ntmps9
  go_wp2_with fail
  refine Calls.mono (r5_all _ l w HI.out (by omega)) ?_
  rintro e w1 ⟨u, rfl, hj, hb⟩
  obtain ⟨au, cu, rfl, hcu⟩ := hj.shape
  rw [List.length_map] at hcu hj ⊢
  have HJ := hd hj
  have HB := hd hb
  obtain ⟨L, hL⟩ : ∃ L, L = locs 0 l := ⟨_, rfl⟩
  rw [← hL] at HJ HFA HFN hcu hll ⊢
  clear hj hb HI hL
  go_wp2_with fail
  go_loopw [7] (fun i wr => ∃ (k : Nat), k ≤ L.length ∧ i = .int .i64 (k : Int) ∧ wr = w1 ∧ ∀ j y, j < k → L[j]? = some y → (y.1 : Int) < z) (fun i _ => L.length - (intOf i).toNat)
  case atStart => exact ⟨0, by omega, rfl, rfl, fun j y hj => by omega⟩
  case round =>
    obtain ⟨k, hk, rfl, hwr, hlo⟩ := hrel
    subst hwr
    have HLO := hd hlo
    clear hlo
    have hmx : Try.prog.follows .mixedOrders = true := by kernel_rfl
    by_cases hlt : k < L.length
    · obtain ⟨⟨x1, x2, f⟩, hx⟩ : ∃ x, L[k]? = some x := ⟨L[k], List.getElem?_eq_getElem hlt⟩
      have hxm : (L.map fov)[k]? = some (fov (x1, x2, f)) := by rw [List.getElem?_map, hx]; rfl
      have hne : L.map fov ≠ [] := by intro e; rw [e] at hxm; simp at hxm
      obtain ⟨g, cu', hv1, hg1, hm1⟩ := HJ.out.nn hne
      injection hv1 with e1 e2 e3
      subst e1
      have r0 := HJ.out.at k _ 0 _ hxm rfl
      have r1 := HJ.out.at k _ 1 _ hxm rfl
      simp only [Nat.add_zero] at r0
      have HX := hd hx
      clear hxm hne e2 e3 hg1 hm1 hx
      by_cases hz : z ≤ (x1 : Int)
      · have hz' : (x1 : Int) ≥ z := hz
        have HF := hd (HFA.out k _ HX.out hz HLO.out)
        clear hz
        go_wp2_with fail
        go_quiet (fail)
        go_wp2_with fail
        go_ret2
        exact ⟨by rw [HF.out]; rfl, below_drewN HB.out nq⟩
      · have hz' : ¬ (x1 : Int) ≥ z := hz
        have HLO2 : Hid (∀ j y, j < k + 1 → L[j]? = some y → (y.1 : Int) < z) := fun j y hj hy => by
          rcases Nat.lt_or_ge j k with h | h
          · exact HLO.out j y h hy
          · obtain rfl : j = k := by omega
            rw [HX.out] at hy
            injection hy with hy
            subst hy
            show (x1 : Int) < z
            omega
        clear hz
        go_wp2_with fail
        go_roundw
        case rel => exact ⟨k + 1, by omega, by go_num, trivial, HLO2.out⟩
        case measure => simp [intOf]; omega
    · obtain rfl : k = L.length := by omega
      have HF := hd (HFN.out HLO.out)
      go_wp2_with fail
      go_ret2
      exact ⟨by rw [HF.out]; rfl, HB.out⟩
end Vt
end Go.Proofs.Ytabfgoojhangnaa
