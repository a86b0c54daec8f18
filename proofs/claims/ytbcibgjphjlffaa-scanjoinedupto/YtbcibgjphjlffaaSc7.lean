/-
  EXTENTS COVER EVERY BYTE ONCE, plainly: they lie end to end; at a frame's first byte a frame is read, at no other place.
-/
import Derived.Test.YtbcibgjphjlffaaSc0
namespace Go.Proofs.Ytbcibgjphjlffaa
namespace Vt
/-- extents that lie end to end from at_ on to the end; pj: is the one ahead junk? -/
def Tiles (l : List Nat) : Nat → Bool → List Ex → Prop
  | at_, _, [] => at_ = l.length
  | at_, pj, x :: r => ∃ n : Nat, x.2.1 = (at_ : Int) ∧ x.2.2 = (n : Int) ∧ 1 ≤ n ∧ at_ + n ≤ l.length ∧ (x.1 = true → pj = false) ∧
      (∀ k, at_ ≤ k → k < at_ + n → ((dcd (l.drop k)).2.2 = 0 ↔ (x.1 = false ∧ k = at_))) ∧ (x.1 = false → (dcd (l.drop at_)).2.1 = n) ∧ Tiles l (at_ + n) x.1 r
theorem locs_empty {m : List Nat} : ∀ e, locs e m = [] → ∀ k, k < m.length → (dcd (m.drop k)).2.2 ≠ 0 := by
  intro e h k hk hc
  have := locs_has (l := m) e k hk hc
  rw [h] at this
  cases this
theorem locs_head {m : List Nat} (hb : Byt m) : ∀ (e : Nat) (x : Lc) (r : List Lc), locs e m = x :: r →
    e ≤ x.1 ∧ (∀ k, k < x.1 - e → (dcd (m.drop k)).2.2 ≠ 0) ∧ dcd (m.drop (x.1 - e)) = (x.2.2, x.2.1, 0) ∧ x.1 - e + x.2.1 ≤ m.length ∧ r = locs (x.1 + x.2.1) (m.drop (x.1 - e + x.2.1)) := by
  induction m with
  | nil => intro e x r h; rw [locs] at h; cases h
  | cons y q ih =>
    intro e x r h
    by_cases hd : (dcd (y :: q)).2.2 = 0
    · rw [locs_ok hb e hd] at h
      injection h with h1 h2
      subst h1
      obtain ⟨_, _, _, k4, _⟩ := en_dcd hb hd
      simp only [Nat.sub_self, List.drop_zero, Nat.zero_add]
      refine ⟨Nat.le_refl _, fun k hk => by omega, Prod.ext rfl (Prod.ext rfl hd), k4, h2.symm⟩
    · rw [locs_err hd] at h
      obtain ⟨h1, h2, h3, h4, h5⟩ := ih (fun z hz => hb z (List.mem_cons_of_mem _ hz)) (e + 1) x r h
      refine ⟨by omega, fun k hk => ?_, ?_, ?_, ?_⟩
      · cases k with
        | zero => exact hd
        | succ k => rw [List.drop_succ_cons]; exact h2 k (by omega)
      · rw [show x.1 - e = (x.1 - (e + 1)) + 1 by omega, List.drop_succ_cons]; exact h3
      · rw [List.length_cons]; omega
      · rw [show x.1 - e + x.2.1 = (x.1 - (e + 1) + x.2.1) + 1 by omega, List.drop_succ_cons]; exact h5
theorem tiles_go {l : List Nat} (hb : Byt l) : ∀ (n e : Nat) (pj : Bool), l.length - e ≤ n → e ≤ l.length → (pj = true → e = l.length ∨ (dcd (l.drop e)).2.2 = 0) → Tiles l e pj (exR e (locs e (l.drop e)) l.length) := by
  intro n
  induction n with
  | zero =>
    intro e pj h1 h2 h3
    have he : e = l.length := by omega
    subst he
    rw [List.drop_length, locs_nil, exR, jk1, if_pos rfl]
    exact rfl
  | succ n ih =>
    intro e pj h1 h2 h3
    cases hx : locs e (l.drop e) with
    | nil =>
      have hem := locs_empty e hx
      rw [exR, jk1]
      by_cases he : e = l.length
      · rw [if_pos he]; exact he
      · rw [if_neg he]
        refine ⟨l.length - e, rfl, by show (l.length : Int) - (e : Int) = _; omega, by omega, by omega, fun _ => ?_, fun k hk1 hk2 => ?_, fun h => (by cases h), by show _ = _; omega⟩
        · cases pj with
          | false => rfl
          | true =>
            rcases h3 rfl with h | h
            · exact absurd h he
            · have := hem 0 (by rw [List.length_drop]; omega)
              rw [List.drop_zero] at this
              exact absurd h this
        · constructor
          · intro h
            have := hem (k - e) (by rw [List.length_drop]; omega)
            rw [List.drop_drop, show e + (k - e) = k by omega] at this
            exact absurd h this
          · rintro ⟨h, _⟩; cases h
    | cons x r =>
      obtain ⟨a1, a2, a3, a4, a5⟩ := locs_head (byt_drop hb e) e x r hx
      rw [List.drop_drop, show e + (x.1 - e) = x.1 by omega] at a3
      rw [List.drop_drop, show e + (x.1 - e + x.2.1) = x.1 + x.2.1 by omega] at a5
      rw [List.length_drop] at a4
      have hok : (dcd (l.drop x.1)).2.2 = 0 := by rw [a3]
      obtain ⟨_, _, k3, k4, _⟩ := en_dcd (byt_drop hb x.1) hok
      have hp := en_pos (dcd (l.drop x.1)).1
      rw [a3] at k3 k4 hp
      simp only at k3 k4 hp
      have tail : ∀ pj', Tiles l x.1 pj' ((false, (x.1 : Int), (x.2.1 : Int)) :: exR (x.1 + x.2.1) r l.length) := by
        intro pj'
        refine ⟨x.2.1, rfl, rfl, by omega, by omega, fun h => (by cases h), fun k hk1 hk2 => ?_, fun _ => by rw [a3], ?_⟩
        · constructor
          · intro h
            refine ⟨rfl, ?_⟩
            refine Classical.byContradiction fun hne => ?_
            have h1 := (dcd_lead (byt_drop hb k) h).1
            rw [getD_drop0] at h1
            have h2 := dcd_in (byt_drop hb x.1) hok (j := k - x.1) (by omega) (by rw [a3]; simp only; omega)
            rw [List.getD_eq_getElem?_getD, List.getElem?_drop, show x.1 + (k - x.1) = k by omega, ← List.getD_eq_getElem?_getD] at h2
            exact h2 h1
          · rintro ⟨_, rfl⟩; exact hok
        · rw [a5]
          exact ih (x.1 + x.2.1) false (by omega) (by omega) (fun h => (by cases h))
      rw [exR, jk1]
      by_cases he : e = x.1
      · rw [if_pos he, List.nil_append, he]; exact tail pj
      · rw [if_neg he, List.singleton_append]
        refine ⟨x.1 - e, rfl, by show (x.1 : Int) - (e : Int) = _; omega, by omega, by omega, fun _ => ?_, fun k hk1 hk2 => ?_, fun h => (by cases h), ?_⟩
        · cases pj with
          | false => rfl
          | true =>
            rcases h3 rfl with h | h
            · omega
            · have := a2 0 (by omega)
              rw [List.drop_zero] at this
              exact absurd h this
        · constructor
          · intro h
            have := a2 (k - e) (by omega)
            rw [List.drop_drop, show e + (k - e) = k by omega] at this
            exact absurd h this
          · rintro ⟨h, _⟩; cases h
        · rw [show e + (x.1 - e) = x.1 by omega]; exact tail true
theorem tiles {l : List Nat} (hb : Byt l) : Tiles l 0 false (exts l) := by
  rw [exts_eq]
  have := tiles_go hb l.length 0 false (by omega) (Nat.zero_le _) (fun h => (by cases h))
  rwa [List.drop_zero] at this
end Vt
end Go.Proofs.Ytbcibgjphjlffaa
