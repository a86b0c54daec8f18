/-
  THE WALKS OF the laws' own 'joined' (two lists of bytes, one behind the other) and 'sameBytes'.
-/
import Derived.Test.YtojogadklhmkbaaU1
import Derived.Test.YtojogadklhmkbaaE4
namespace Go.Proofs.Ytojogadklhmkbaa
open Go.RowKit
namespace Vt
set_option maxRecDepth 100000 in
set_option maxHeartbeats 400000 in
theorem joined_is (va vb : Value) (la lb : List Nat) (w : World) (hA : IsB w va la) (hB : IsB w vb lb) (hm : la.length + lb.length ≤ 140737488355328) :
    Calls Try.prog 30 #[va, vb] w fun e w' => ∃ v, e = .returned v ∧ JB w' w.heap.size v (la ++ lb) ∧ Below w.heap.size w w' := by
  obtain ⟨a, ca, rfl⟩ := hA.shape
  obtain ⟨b, cb, rfl⟩ := hB.shape
  have HA := hd hA
  have HB := hd hB
  clear hA hB
  have tok1 : True := trivial
  go_enter Try.func30, Try.ntmps30
  go_wp2_with (first
    | (at_builtin; have _t := tok1; refine wpList_append_jb _ rfl _ _ rfl w.heap.size (.slice none 0 0) (.slice a la.length ca) [] la rfl rfl (jb_nil _ _) HA.out la.length (by simp) la rfl (by omega) (Nat.le_refl _) ?_; intro a2 c2 w2 hj2 hg2 hc2; clear tok1; have tok2 : True := trivial; have hb2 := (jb_nil w w.heap.size).grown (Below.refl w.heap.size w) (Nat.le_refl _) (Nat.le_refl _) hg2)
    | (at_builtin; have _t := tok2; refine wpList_append_jb _ rfl _ _ rfl w.heap.size (.slice a2 la.length c2) (.slice b lb.length cb) la lb rfl rfl hj2 (HB.out.below hb2) (la.length + lb.length) rfl (la ++ lb) rfl (by omega) hb2.size ?_; intro a3 c3 w3 hj3 hg3 hc3; clear tok2))
  go_ret
  exact ⟨_, rfl, hj3, hj2.grown hb2 (Nat.le_refl _) hb2.size hg3⟩
set_option maxRecDepth 100000 in
set_option maxHeartbeats 400000 in
theorem sameB_is (va vb : Value) (la lb : List Nat) (w : World) (hA : IsB w va la) (hB : IsB w vb lb) :
    Calls Try.prog 31 #[va, vb] w fun e w' => e = .returned (.bool (decide (la = lb))) ∧ w' = w := by
  have c1 := conv_is w va la hA
  have c2 := conv_is w vb lb hB
  have HE := hd (str_eq hA.1 hB.1)
  clear hA hB
  go_enter Try.func31, Try.ntmps31
  go_wp2_with fail
  go_ret
  exact ⟨by rw [HE.out]; rfl, rfl⟩
end Vt
end Go.Proofs.Ytojogadklhmkbaa
