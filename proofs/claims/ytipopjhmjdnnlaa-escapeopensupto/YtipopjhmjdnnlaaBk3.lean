/-
  THE WALK OF the book's dry.
-/
import Derived.Test.YtipopjhmjdnnlaaBk2
import Derived.Deep.QuietTactic
import Derived.BigQuiet
namespace Go.Proofs.Ytipopjhmjdnnlaa
open Go.RowKit
namespace Ow
open Vt
theorem drewB {B : Nat} {a w : World} (h : Below B a w) (n : Nat) : Below B a (w.drewN n) := ⟨h.os, h.tape, h.output, h.size, h.block⟩
theorem JP.solid {T : TypeId} {w : World} {base : Nat} {v : Value} {cs : List (Value × Value)} (h : JP T w base v cs) (h0 : 0 < cs.length) : ∃ g cap, v = .slice (some ⟨g, 0, none⟩) cs.length cap := by
  rcases h.2.2 with ⟨_, e⟩ | ⟨g, cap, cur, e, _⟩
  · omega
  · exact ⟨g, cap, e⟩
theorem JV.solid {T : TypeId} {w : World} {base : Nat} {v : Value} {cs : List Value} (h : JV T w base v cs) (h0 : 0 < cs.length) : ∃ g cap, v = .slice (some ⟨g, 0, none⟩) cs.length cap := by
  rcases h.2.2 with ⟨_, e⟩ | ⟨g, cap, cur, e, _⟩
  · omega
  · exact ⟨g, cap, e⟩
set_option maxRecDepth 100000 in
set_option maxHeartbeats 1000000 in
theorem dry_is (base X m : Nat) (VH VA : Value) (hs : List (Value × List Nat)) (al : List (Value × Nat × Nat)) (w : World) (hK : BK w base X m VH VA hs al) (hal : al.length ≤ 10000) :
    Calls Try.prog 7 #[.pointer (some ⟨X, 0, none⟩)] w fun e w' => e = .returned (.bool true) ∧ Below w.heap.size w w' := by
  obtain ⟨aA, cA, rfl, hcA⟩ := hK.krow.shape
  rw [List.length_map] at hcA hK
  have HK := hd hK
  have hc2 := hK.box.cell 2 _ rfl
  clear hK
  go_enter Try.func7, Try.ntmps7
  go_wp2_with fail
  go_loopw [3] (fun i wr => ∃ k : Nat, k ≤ al.length ∧ i = .int .i64 (k : Int) ∧ Below w.heap.size w wr) (fun i _ => al.length - (intOf i).toNat)
  case atStart => exact ⟨0, by omega, rfl, Below.refl _ _⟩
  case round =>
    obtain ⟨k, hk, rfl, hB⟩ := hrel
    obtain ⟨wo, hww⟩ : ∃ wo, wo = wr := ⟨_, rfl⟩
    subst hww
    have HR := hd (HK.out.keep hB)
    have HB := hd hB
    clear hB
    have hc3 := HR.out.box.cell 2 _ rfl
    by_cases hlt : k < al.length
    · obtain ⟨gA, cA', e⟩ := HR.out.krow.solid (by rw [List.length_map]; omega)
      injection e with e1 e2 e3
      subst e1 e3
      obtain ⟨p, hp⟩ : ∃ p, al[k]? = some p := ⟨_, List.getElem?_eq_getElem hlt⟩
      have hkr := HR.out.krow
      obtain ⟨hx1, hx2, hcm, hgl, hx3, hcc⟩ := hkr.at
      obtain ⟨q1, q2⟩ := hcc k (kcell p) (by rw [List.getElem?_map, hp]; rfl)
      have hrow := HR.out.all p (List.mem_of_getElem? hp)
      obtain ⟨a1, c1, e4, hc1⟩ := hrow.shape
      obtain ⟨v1, n1, mk1⟩ := p
      simp only [kcell] at q1 q2 hrow e4 hc1
      rw [List.length_replicate] at e4 hc1
      subst e4
      have HROW := hd hrow
      clear hkr hrow hcc hc2 hx1 hx2 hx3 e2 hcm
      go_wp2_with fail
      go_loopw [5] (fun i wq => ∃ j : Nat, j ≤ n1 ∧ i = .int .i64 (j : Int) ∧ Below (wo.heap.size + 1) (wo.alloc (.cells #[.slice a1 n1 c1, .int .u8 (mk1 : Int)] TK)) wq) (fun i _ => n1 - (intOf i).toNat)
      case atStart => exact ⟨0, by omega, rfl, Below.refl _ _⟩
      case round =>
        obtain ⟨j, hj, rfl, hB2⟩ := hrel
        have hbx : Blk wr wo.heap.size TK [.slice a1 n1 c1, .int .u8 (mk1 : Int)] := (Blk.new wo TK _).below (by omega) hB2
        have hb0 := hbx.cell 0 _ rfl
        have hb1 := hbx.cell 1 _ rfl
        have HW : Hid (Below w.heap.size w wr) := (HB.out.alloc HB.out.size _).trans (hB2.mono (by have := HB.out.size; omega))
        have hrw : JV E8 wr base (.slice a1 n1 c1) (List.replicate n1 (.int .u8 (mk1 : Int))) := (HROW.out.below ((Below.refl _ _).alloc (Nat.le_refl _) _)).below (by rw [World.size_alloc]; exact hB2)
        have HB2 := hd hB2
        clear hbx hB2
        by_cases hjl : j < n1
        · obtain ⟨g1, c2, e⟩ := hrw.solid (by rw [List.length_replicate]; omega)
          injection e with e1 e2 e3
          subst e1 e3
          obtain ⟨hx1, hx2, hcm, hgl1, hx3, hcc⟩ := hrw.at
          have hcj := (hcc j _ (by rw [List.getElem?_replicate, if_pos hjl])).1
          unfold maxLen at hcm
          clear hrw hcc e2 hx1 hx2 hx3 q1 q2 hc3
          have hji : ((j : Nat) : Int) < (n1 : Int) := by omega
          go_wp2_with fail
          go_quiet (fail)
          go_wp2_with fail
          exact ⟨⟨j + 1, by omega, by go_num, drewB HB2.out _⟩, by simp [intOf]; omega⟩
        · obtain rfl : j = n1 := by omega
          clear hrw q1 q2 hc3
          go_wp2_with fail
          exact ⟨⟨k + 1, by omega, by go_num, HW.out⟩, by simp [intOf]; omega⟩
    · obtain rfl : k = al.length := by omega
      go_wp2_with fail
      go_ret
      exact ⟨rfl, HB.out⟩
end Ow
end Go.Proofs.Ytipopjhmjdnnlaa
