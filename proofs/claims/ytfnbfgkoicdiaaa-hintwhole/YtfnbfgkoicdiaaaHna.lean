/-
  hint.Load: the pointers, and the verdict.
-/
import Derived.Test.YtfnbfgkoicdiaaaHn9
namespace Go.Proofs.Ytfnbfgkoicdiaaa
open Go.RowKit Go.Shelf
namespace Vt
attribute [local go_sem] Oper.semAt_some
theorem eq_prt (n k : Int) (s : Nat) (w : World) : (Op.equalIn 10000 36 (.agg (prl n k s)) (.agg (prl n k s))).run Try.prog w = .ok true w := by
  unfold prl
  simp [go_sem, Op.eqFields]
theorem ne_prt {n k n' k' : Int} {s s' : Nat} (h : ¬ (n = n' ∧ k = k' ∧ s = s')) (w : World) : (Op.equalIn 10000 36 (.agg (prl n k s)) (.agg (prl n' k' s'))).run Try.prog w = .ok false w := by
  unfold prl
  simp [go_sem, Op.eqFields]
  intro h1 h2 h3
  exact h ⟨h1, h2, by omega⟩
theorem neq_prt_no (n k : Int) (s : Nat) (w : World) : (binOp .neq 36 (.agg (prl n k s)) (.agg (prl n k s))).run Try.prog w = .ok (.bool false) w := by
  rw [run_neq_struct, eq_prt]; rfl
theorem neq_prt_yes {n k n' k' : Int} {s s' : Nat} (h : ¬ (n = n' ∧ k = k' ∧ s = s')) (w : World) : (binOp .neq 36 (.agg (prl n k s)) (.agg (prl n' k' s'))).run Try.prog w = .ok (.bool true) w := by
  rw [run_neq_struct, ne_prt h]; rfl
/-- what Load tells -/
def ldP (o : Option St) (bp fp : Int) (sp : Nat) (n : Nat) (e : Ending) (w' : World) : Prop := match o with
  | some s => (¬ (s.e.bytes = bp ∧ s.e.frames = fp ∧ s.e.sum = sp) ∧ e = .returned (.tuple #[.slice none 0 0, .int .i64 3])) ∨ ((s.e.bytes = bp ∧ s.e.frames = fp ∧ s.e.sum = sp) ∧ ∃ u, e = .returned (.tuple #[u, .int .i64 1]) ∧ JPt w' n u (s.ps.map pvl))
  | none => e = .returned (.tuple #[.slice none 0 0, .int .i64 4])
set_option maxRecDepth 100000 in
set_option maxHeartbeats 2000000 in
theorem load_is (v : Value) (l : List Nat) (bp fp : Int) (sp : Nat) (w : World) (hI : IsB w v l) :
    Calls Try.prog 9 #[v, .agg (prl bp fp sp)] w fun e w' => ldP (ldS l) bp fp sp w.heap.size e w' ∧ Below w.heap.size w w' := by
  have HP : Hid (∀ w', Below w.heap.size w w' → Calls Try.prog 26 #[v] w' fun e w'' => ptsP (ldS l) w'.heap.size e w'' ∧ Below w'.heap.size w' w'') := fun w' h => parts_is v l w' (hI.below h)
  obtain ⟨a, c, rfl⟩ := hI.shape
  clear hI
  generalize ldS l = o at *
  simp only [prl]
  go_enter Try.func9, Try.ntmps9
  go_wp2_with fail
  refine Calls.mono (HP.out _ ((Below.refl _ _).alloc (Nat.le_refl _) _)) ?_
  clear HP
  rintro e w1 ⟨hpt, hb⟩
  have HPW := hd ((Blk.new w 36 _).keep hb)
  have HB := hd (below_alloc1 hb)
  have hsz := hb.size
  rw [World.size_alloc] at hsz
  clear hb
  have p0 := HPW.out.cell 0 _ rfl
  have p1 := HPW.out.cell 1 _ rfl
  have p2 := HPW.out.cell 2 _ rfl
  have n1 : ¬ w.heap.size = w1.heap.size := by omega
  have n2 : ¬ w1.heap.size = w.heap.size := by omega
  have n3 : w.heap.size < w1.heap.size := by omega
  cases o with
  | none =>
    obtain rfl : e = _ := hpt
    simp only [prl]
    go_wp2_with fail
    go_ret2
    exact ⟨rfl, HB.out.alloc HB.out.size _⟩
  | some s =>
    obtain ⟨u, rfl, hj⟩ := hpt
    obtain ⟨sp_, ⟨ec, eb, ef, es⟩, en_, nx_⟩ := s
    simp only [prl] at hj ⊢
    have HJ := hd hj
    clear hj
    by_cases hq : eb = bp ∧ ef = fp ∧ es = sp
    · obtain ⟨rfl, rfl, rfl⟩ := hq
      have heq := neq_prt_no eb ef es
      simp only [prl] at heq
      go_wp2_with fail
      go_ret2
      exact ⟨.inr ⟨⟨rfl, rfl, rfl⟩, _, rfl, (HJ.out.alloc _).lower (by simp)⟩, HB.out.alloc HB.out.size _⟩
    · have heq := neq_prt_yes hq
      simp only [prl] at heq
      have HQ := hd hq
      clear hq
      go_wp2_with fail
      go_ret2
      exact ⟨.inl ⟨HQ.out, rfl⟩, HB.out.alloc HB.out.size _⟩
end Vt
end Go.Proofs.Ytfnbfgkoicdiaaa
