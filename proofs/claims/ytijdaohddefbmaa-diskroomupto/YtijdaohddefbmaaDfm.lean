/-
  ACTS THAT FAIL OR BREAK OFF, PLAINLY: what an act does to a disk that is armed; disks that differ in the count of acts alone go on alike.
-/
import Derived.Test.YtijdaohddefbmaaDkl
namespace Go.Proofs.Ytijdaohddefbmaa
namespace Dk
/-- is it refused, and by what -/
def rS (S : Ds) (o : Op7) : Nat :=
  if o.kind = 1 then rCreate S o.nm else if o.kind = 2 then rAppend S o.nm o.dat else if o.kind = 3 then look S o.nm true else if o.kind = 4 then look S o.nm (isNm o.to) else if o.kind = 5 then look S o.nm true
  else if o.kind = 6 then rTrunc S o.nm o.n else look S o.nm (decide (0 ≤ o.n) && decide (0 ≤ o.m))
/-- what it does -/
def gS (o : Op7) : Ds → Ds :=
  if o.kind = 1 then gCreate o.nm else if o.kind = 2 then gAppend o.nm o.dat else if o.kind = 3 then gSync o.nm else if o.kind = 4 then gRename o.nm o.to else if o.kind = 5 then gRemove o.nm
  else if o.kind = 6 then gTrunc o.nm o.n.toNat else id
def acted (o : Op7) : Prop := 1 ≤ o.kind ∧ o.kind ≤ 7
theorem actS_eq {S : Ds} {o : Op7} (h : acted o) : actS S o = actOf S (rS S o) (gS o) := by
  obtain ⟨h1, h2⟩ := h
  unfold actS rS gS
  by_cases k1 : o.kind = 1
  · simp only [k1, if_true]; rfl
  by_cases k2 : o.kind = 2
  · simp only [k2, if_neg (show ¬ (2 : Int) = 1 by decide), if_true]; rfl
  by_cases k3 : o.kind = 3
  · simp only [k3, if_neg (show ¬ (3 : Int) = 1 by decide), if_neg (show ¬ (3 : Int) = 2 by decide), if_true]; rfl
  by_cases k4 : o.kind = 4
  · simp only [k4, if_neg (show ¬ (4 : Int) = 1 by decide), if_neg (show ¬ (4 : Int) = 2 by decide), if_neg (show ¬ (4 : Int) = 3 by decide), if_true]; rfl
  by_cases k5 : o.kind = 5
  · simp only [k5, if_neg (show ¬ (5 : Int) = 1 by decide), if_neg (show ¬ (5 : Int) = 2 by decide), if_neg (show ¬ (5 : Int) = 3 by decide), if_neg (show ¬ (5 : Int) = 4 by decide), if_true]; rfl
  by_cases k6 : o.kind = 6
  · simp only [k6, if_neg (show ¬ (6 : Int) = 1 by decide), if_neg (show ¬ (6 : Int) = 2 by decide), if_neg (show ¬ (6 : Int) = 3 by decide), if_neg (show ¬ (6 : Int) = 4 by decide), if_neg (show ¬ (6 : Int) = 5 by decide), if_true]; rfl
  have k7 : o.kind = 7 := by omega
  rw [if_neg k1, if_neg k2, if_neg k3, if_neg k4, if_neg k5, if_neg k6, if_pos k7, if_neg k1, if_neg k2, if_neg k3, if_neg k4, if_neg k5, if_neg k6, if_neg k1, if_neg k2, if_neg k3, if_neg k4, if_neg k5, if_neg k6]; rfl
theorem actS_no {S : Ds} {o : Op7} (h : ¬ acted o) : actS S o = (0, S) := by
  unfold acted at h
  unfold actS
  rw [if_neg (by omega), if_neg (by omega), if_neg (by omega), if_neg (by omega), if_neg (by omega), if_neg (by omega), if_neg (by omega)]
/-- the same files, armed otherwise -/
def arm (S : Ds) (a f b : Nat) (x : Bool) : Ds := { S with acts := a, fail := f, brk := b, done := x }
theorem arm_self (S : Ds) : arm S S.acts S.fail S.brk S.done = S := rfl
theorem arm_arm (S : Ds) (a f b : Nat) (x : Bool) (a' f' b' : Nat) (x' : Bool) : arm (arm S a f b x) a' f' b' x' = arm S a' f' b' x' := rfl
theorem tick_arm (S : Ds) (a f b : Nat) (x : Bool) : tick (arm S a f b x) = arm S (a + 1) (f - 1) (b - 1) x := rfl
theorem rS_arm (S : Ds) (a f b : Nat) (x : Bool) (o : Op7) : rS (arm S a f b x) o = rS S o := rfl
theorem gS_arm (S : Ds) (a f b : Nat) (x : Bool) (o : Op7) : gS o (arm S a f b x) = arm (gS o S) a f b x := by
  unfold gS
  by_cases k1 : o.kind = 1
  · rw [if_pos k1]; rfl
  rw [if_neg k1]
  by_cases k2 : o.kind = 2
  · rw [if_pos k2]; rfl
  rw [if_neg k2]
  by_cases k3 : o.kind = 3
  · rw [if_pos k3]; rfl
  rw [if_neg k3]
  by_cases k4 : o.kind = 4
  · rw [if_pos k4]
    show gRename o.nm o.to (arm S a f b x) = arm (gRename o.nm o.to S) a f b x
    unfold gRename
    show (match get S.fs o.nm with | none => _ | some f => _) = _
    cases get S.fs o.nm <;> rfl
  rw [if_neg k4]
  by_cases k5 : o.kind = 5
  · rw [if_pos k5]; rfl
  rw [if_neg k5]
  by_cases k6 : o.kind = 6
  · rw [if_pos k6]; rfl
  rw [if_neg k6]; rfl
theorem gS_down (S : Ds) (o : Op7) : (gS o S).down = S.down := by
  unfold gS
  by_cases k4 : o.kind = 4
  · simp only [k4, if_neg (show ¬ (4 : Int) = 1 by decide), if_neg (show ¬ (4 : Int) = 2 by decide), if_neg (show ¬ (4 : Int) = 3 by decide), if_true]
    unfold gRename
    cases get S.fs o.nm <;> rfl
  · repeat' (first | rfl | (split))
    all_goals first | rfl | (exact absurd (by assumption) k4)
theorem bar_ne (S : Ds) (x : Bool) : bar S x ≠ 74 ∧ (S.down = false → bar S x ≠ 75) := by
  unfold bar
  by_cases h : S.down = true
  · rw [if_pos h]; exact ⟨by decide, fun q => by rw [q] at h; cases h⟩
  · rw [if_neg h]
    cases x <;> exact ⟨by decide, fun _ => by decide⟩
theorem look_ne (S : Ds) (s : ByteArray) (x : Bool) : look S s x ≠ 74 ∧ (S.down = false → look S s x ≠ 75) := by
  unfold look
  split
  · exact bar_ne S _
  · split <;> exact ⟨by decide, fun _ => by decide⟩
theorem rS_ne (S : Ds) (o : Op7) : rS S o ≠ 74 ∧ (S.down = false → rS S o ≠ 75) := by
  unfold rS
  split
  · unfold rCreate
    split
    · exact bar_ne S _
    · split <;> exact ⟨by decide, fun _ => by decide⟩
  split
  · unfold rAppend
    split
    · exact look_ne S _ _
    · split <;> exact ⟨by decide, fun _ => by decide⟩
  split
  · exact look_ne S _ _
  split
  · exact look_ne S _ _
  split
  · exact look_ne S _ _
  split
  · unfold rTrunc
    split
    · exact look_ne S _ _
    · split <;> exact ⟨by decide, fun _ => by decide⟩
  · exact look_ne S _ _
theorem rS_down {S : Ds} (h : S.down = true) (o : Op7) : rS S o = 75 := by
  have hb : ∀ x, bar S x = 75 := fun x => by unfold bar; rw [if_pos h]
  have hl : ∀ s x, look S s x = 75 := fun s x => by unfold look; rw [hb, if_pos (by decide)]
  unfold rS rCreate rAppend rTrunc
  simp only [hb, hl, ne_eq, show ¬ (75 : Nat) = 0 by decide, not_false_eq_true, if_true, ite_self]
/-- DiskFails: an act of a disk on which the next act is to fail -/
theorem fails_at {S : Ds} (h : Ok S) (o : Op7) : ∃ r n f, actS (arm S S.acts 1 S.brk S.done) o = (r, arm S n f S.brk S.done) ∧ f ≤ 1 ∧ ((n = S.acts + 1 ∧ r = 74) ∨ (n = S.acts ∧ r ≠ 74)) := by
  by_cases ha : acted o
  · rw [actS_eq ha, rS_arm]
    unfold actOf
    by_cases hr : rS S o = 0
    · rw [if_neg (by omega)]
      unfold run
      rw [if_neg (show ¬ (arm S S.acts 1 S.brk S.done).brk = 1 by show ¬ S.brk = 1; rw [h.2.2]; decide), if_pos (show (arm S S.acts 1 S.brk S.done).fail = 1 from rfl), tick_arm]
      refine ⟨74, S.acts + 1, 0, ?_, by omega, .inl ⟨rfl, rfl⟩⟩
      rw [h.2.2]
    · rw [if_pos hr]
      exact ⟨_, S.acts, 1, rfl, by omega, .inr ⟨rfl, (rS_ne S o).1⟩⟩
  · rw [actS_no ha]
    exact ⟨0, S.acts, 1, rfl, by omega, .inr ⟨rfl, by decide⟩⟩
/-- the count of acts alone differs: all goes on alike -/
theorem alike1 {S : Ds} (h : Ok S) (n : Nat) (o : Op7) : ∃ m, actS (arm S n S.fail S.brk S.done) o = ((actS S o).1, arm (actS S o).2 m (actS S o).2.fail (actS S o).2.brk (actS S o).2.done) := by
  by_cases ha : acted o
  · have hk : Ok (arm S n S.fail S.brk S.done) := ⟨h.1, h.2.1, h.2.2⟩
    rw [actS_eq ha, actS_eq ha, rS_arm, actOf_ok hk, actOf_ok h]
    by_cases hr : rS S o = 0
    · rw [if_neg (by omega), if_neg (by omega), tick_arm, gS_arm]
      refine ⟨n + 1, ?_⟩
      have e : gS o (tick S) = arm (gS o S) (S.acts + 1) (S.fail - 1) (S.brk - 1) S.done := by
        conv => lhs; rw [← arm_self S, tick_arm, gS_arm]
      rw [e]
      rfl
    · rw [if_pos hr, if_pos hr]
      exact ⟨n, rfl⟩
  · rw [actS_no ha, actS_no ha]
    exact ⟨n, rfl⟩
theorem alike {S : Ds} (h : Ok S) (n : Nat) (l : List Op7) : ∃ m, actsS (arm S n S.fail S.brk S.done) l = arm (actsS S l) m (actsS S l).fail (actsS S l).brk (actsS S l).done := by
  induction l generalizing S n with
  | nil => exact ⟨n, rfl⟩
  | cons o r ih =>
    obtain ⟨m, hm⟩ := alike1 h n o
    obtain ⟨k, hk⟩ := ih (actS_ok h o) m
    refine ⟨k, ?_⟩
    show actsS (actS (arm S n S.fail S.brk S.done) o).2 r = _
    rw [hm]
    exact hk
/-- DiskEnds: an act of a disk on which the next act is to break off -/
theorem ends_at {S : Ds} (h : Ok S) (x : Bool) (o : Op7) :
    (∃ r, actS (arm S S.acts S.fail 1 x) o = (r, arm S S.acts S.fail 1 x) ∧ r ≠ 75) ∨
    (actS (arm S S.acts S.fail 1 x) o).1 = 75 ∧ (actS (arm S S.acts S.fail 1 x) o).2.acts = S.acts + 1 ∧ (actS (arm S S.acts S.fail 1 x) o).2.down = true ∧
      (actS (arm S S.acts S.fail 1 x) o).2.fs = (if x then (actS S o).2 else S).fs ∧ Ok (if x then (actS S o).2 else S) ∧ ((actS S o).2.acts = S.acts + 1) := by
  by_cases ha : acted o
  · rw [actS_eq ha, actS_eq ha, rS_arm, actOf_ok h]
    unfold actOf
    by_cases hr : rS S o = 0
    · have hne : ¬ (rS S o ≠ 0) := by omega
      simp only [if_neg hne]
      refine .inr ?_
      unfold run
      rw [if_pos (show (arm S S.acts S.fail 1 x).brk = 1 from rfl), tick_arm, gS_arm]
      have e : gS o (tick S) = arm (gS o S) (S.acts + 1) (S.fail - 1) (S.brk - 1) S.done := by
        conv => lhs; rw [← arm_self S, tick_arm, gS_arm]
      rw [e]
      have hok : Ok (arm (gS o S) (S.acts + 1) (S.fail - 1) (S.brk - 1) S.done) := ⟨(gS_down S o).trans h.1, by show S.fail - 1 = 0; rw [h.2.1], by show S.brk - 1 = 0; rw [h.2.2]⟩
      cases x
      · exact ⟨rfl, rfl, rfl, rfl, h, rfl⟩
      · exact ⟨rfl, rfl, rfl, rfl, hok, rfl⟩
    · exact .inl ⟨rS S o, by rw [if_pos hr], (rS_ne S o).2 h.1⟩
  · rw [actS_no ha]
    exact .inl ⟨0, rfl, by decide⟩
theorem down_stays {S : Ds} (h : S.down = true) (o : Op7) : (actS S o).2 = S ∧ (acted o → (actS S o).1 = 75) := by
  by_cases ha : acted o
  · rw [actS_eq ha]
    unfold actOf
    rw [rS_down h, if_pos (by decide)]
    exact ⟨rfl, fun _ => rfl⟩
  · rw [actS_no ha]
    exact ⟨rfl, fun q => absurd q ha⟩
end Dk
end Go.Proofs.Ytijdaohddefbmaa
