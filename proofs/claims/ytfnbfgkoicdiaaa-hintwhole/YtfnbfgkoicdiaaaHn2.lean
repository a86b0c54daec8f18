/-
  hint.written; hint.through: frames from end to end, each handed to a function value.
-/
import Derived.Test.YtfnbfgkoicdiaaaHn1
import Derived.Test.YtfnbfgkoicdiaaaG3
import Derived.Test.YtfnbfgkoicdiaaaSc1
namespace Go.Proofs.Ytfnbfgkoicdiaaa
open Go.RowKit Go.Shelf
namespace Vt
attribute [local go_sem] Oper.semAt_some
set_option maxRecDepth 100000 in
set_option maxHeartbeats 1000000 in
theorem written_is (f : Fr) (w : World) (hw : f.Wf) (h : rf f = 0) : Calls Try.prog 30 #[.agg (fv f)] w fun e w' => ∃ u, e = .returned u ∧ JB w' w.heap.size u (en f) ∧ Below w.heap.size w w' := by
  have HE : Hid (∀ w, Calls Try.prog 8 #[.agg (fv f)] w fun e w' => ∃ u, e = .returned (.tuple #[u, .int .i64 0]) ∧ JB w' w.heap.size u (en f) ∧ Below w.heap.size w w') := fun w => encF_all hw h w
  obtain ⟨ls, hls⟩ : ∃ ls, ls = en f := ⟨_, rfl⟩
  rw [← hls] at HE ⊢
  clear hls hw h
  obtain ⟨k, ⟨rl, rk, rkey, rval⟩, ⟨pl, pk, pa, pn, pkey⟩, ⟨ec, eb, ef, es⟩⟩ := f
  simp only [fv] at HE ⊢
  go_enter Try.func30, Try.ntmps30
  go_wp2_with fail
  refine Calls.mono (HE.out _) ?_
  rintro e w1 ⟨u, rfl, hj, hb⟩
  clear HE
  have HJ := hd hj
  have HB := hd hb
  clear hj hb
  go_wp2_with fail
  go_ret
  have h1 : Below w.heap.size w w1 := ((Below.refl _ _).alloc (Nat.le_refl _) _).trans (HB.out.mono (by simp))
  exact ⟨u, rfl, HJ.out.base (by simp), h1⟩
end Vt
end Go.Proofs.Ytfnbfgkoicdiaaa
