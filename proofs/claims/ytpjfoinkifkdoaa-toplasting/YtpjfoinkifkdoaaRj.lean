/-
  joined: bytes one behind the other.
-/
import Derived.Test.YtpjfoinkifkdoaaRv
namespace Go.Proofs.Ytpjfoinkifkdoaa
open Go.ChangeShapes Go.WideShapes Go.ChangeAt Go.RowKit Go.Shelf
namespace Vt
set_option maxRecDepth 100000 in
set_option maxHeartbeats 1000000 in
theorem joined_is (v u : Value) (l m : List Nat) (w : World) (hI : IsB w v l) (hU : IsB w u m) (hm : l.length + m.length ≤ 140737488355328) :
    Calls Try.prog 24 #[v, u] w fun e w' => ∃ x, e = .returned x ∧ JB w' w.heap.size x (l ++ m) ∧ Below w.heap.size w w' := by
  obtain ⟨a, c, rfl⟩ := hI.shape
  obtain ⟨ub, uc, rfl⟩ := hU.shape
  have HI := hd hI
  have HU := hd hU
  clear hI hU
  have tok1 : True := trivial
  go_enter Try.func24, Try.ntmps24
  go_wp2_with (first
    | (at_builtin; have _t := tok1; refine wpList_append_jk Try.underlying27 info_u8 _ rfl _ _ rfl w.heap.size (.slice none 0 0) (.slice a l.length c) [] l rfl rfl (jk_nil _ _) HI.out l.length (by simp) l rfl (by omega) (by omega) (Nat.le_refl _) ?_; intro a2 c2 w2 hj2 hg2 hk2 hc2; clear tok1; have tok2 : True := trivial; have b2 : Below w.heap.size w w2 := (Below.refl _ w).grown hg2 (Nat.le_refl _) (fun k e => by cases e); have hs2 := b2.size; clear hk2)
    | (at_builtin; have _t := tok2; refine wpList_append_jk Try.underlying27 info_u8 _ rfl _ _ rfl w.heap.size (.slice a2 l.length c2) (.slice ub m.length uc) l m rfl rfl hj2 (HU.out.below b2) (l.length + m.length) rfl (l ++ m) rfl (by omega) (by omega) hs2 ?_; intro a3 c3 w3 hj3 hg3 hk3 hc3; clear tok2; have b3 := b2.grown hg3 hs2 (fun k e => hj2.blk_ge k e); clear hk3))
  go_ret
  exact ⟨_, rfl, hj3, b3⟩
end Vt
end Go.Proofs.Ytpjfoinkifkdoaa
