/-
  THE LAW OF A CHAIN OF MOVERS (Rg) where an edge that binds in no order that is drawn here stands behind its operation.
  A REGION THAT DRAWS ITS ORDER, with one call that leaves some world of which a predicate tells, operations beside it that only read what the call does not turn, and a last operation behind all. No condition beyond those that each theorem bears.
-/
import Derived.Test.YtolddolfpnkndaaGreatXuac
import Derived.Test.YtolddolfpnkndaaGreatXuai
namespace Go.Proofs.YtolddolfpnkndaaGreat
open Go Go.RowKit
/-- each operation's forerunners that bind stand ahead of it -/
def aftersBound (ops : Array Oper) : Bool := (List.range ops.size).all fun i => ((ops[i]?).map fun o => o.after.all fun e => !Region.binds .any e || decide (e.on < i)).getD true
theorem all_listedB {ops : Array Oper} {L : Array Bool} (h : aftersBound ops = true) (hs : L.size = ops.size) (hr : Region.ready .any ops L = []) : ∀ i, i < ops.size → L.getD i false = true := by
  intro i
  induction i using Nat.strongRecOn with
  | _ i ih =>
    intro hi
    refine Classical.byContradiction fun hn => ?_
    have hL : L.getD i true = false := by
      rw [Array.getD_eq_getD_getElem?, Array.getElem?_eq_getElem (by omega)] at hn ⊢
      simpa using hn
    have ho : ops[i]? = some ops[i] := Array.getElem?_eq_getElem hi
    have hmem : i ∈ Region.ready .any ops L := by
      unfold Region.ready
      refine List.mem_filter.2 ⟨by simpa using hi, ?_⟩
      rw [hL, ho]
      simp only [Option.map_some, Option.getD_some, Bool.not_false, Bool.true_and, Array.all_eq_true']
      intro e he
      by_cases hb : Region.binds .any e = true
      · have hlt : e.on < i := by
          unfold aftersBound at h
          have := List.all_eq_true.1 h i (by simpa using hi)
          rw [ho] at this
          simp only [Option.map_some, Option.getD_some, Array.all_eq_true'] at this
          have := this e he
          rw [hb] at this
          simpa using this
        rw [ih e.on hlt (by omega)]
        simp
      · have hb' : Region.binds .any e = false := by simpa using hb
        rw [hb']
        simp
    rw [hr] at hmem
    simp at hmem
end Go.Proofs.YtolddolfpnkndaaGreat
namespace Go.Proofs.YtolddolfpnkndaaGreat
open Go Go.RowKit
theorem region_call {P : Program} {id : Nat} {ops : Array Oper} {Q : Exit → Act → World → Prop} {a0 : Act} {w0 : World} (val : Nat → Value) (C E dC : Nat) (R : Value → World → Prop)
    (hm : P.follows .mixedOrders = true) (hg : (ops.all fun o => o.guard.isNone) = true) (hdf : dstsGood ops a0.tmps.size = true) (hah : aftersBound ops = true) (hE : lastOk ops E = true) (hCE : C ≠ E) (hClt : C < ops.size) (hdC : dstOf ops C = some dC)
    (step : ∀ i o, i ≠ E → i ≠ C → ops[i]? = some o → ∀ (a : Act) (w : World), (w = w0.drew ∨ ∃ v, R v w) →
      (∀ k, (∀ j, j < ops.size → dstOf ops j ≠ some k) → a.tmps.getD k undef = a0.tmps.getD k undef) →
      (∀ e ∈ o.after, Region.binds .any e = true → e.on ≠ C → ∀ d, dstOf ops e.on = some d → a.tmps.getD d undef = val e.on) →
      o.wp P a w (fun a' w' => a' = a.put o.dst (val i) ∧ w' = w) Q)
    (call : ∀ o, ops[C]? = some o → ∀ (a : Act),
      (∀ k, (∀ j, j < ops.size → dstOf ops j ≠ some k) → a.tmps.getD k undef = a0.tmps.getD k undef) →
      (∀ e ∈ o.after, Region.binds .any e = true → e.on ≠ C → ∀ d, dstOf ops e.on = some d → a.tmps.getD d undef = val e.on) →
      o.wp P a w0.drew (fun a' w' => ∃ v, a' = a.put o.dst v ∧ R v w') Q)
    (last : ∀ o, ops[E]? = some o → ∀ a w v, R v w → a.defers = a0.defers → a.tmps.size = a0.tmps.size →
      (∀ k, (∀ j, j < ops.size → dstOf ops j ≠ some k) → a.tmps.getD k undef = a0.tmps.getD k undef) →
      (∀ i d, i < ops.size → i ≠ E → i ≠ C → dstOf ops i = some d → a.tmps.getD d undef = val i) → a.tmps.getD dC undef = v →
      (∀ d, dstOf ops E = some d → a.tmps.getD d undef = a0.tmps.getD d undef) → o.wp P a w (fun a' w' => Q .normal a' w') Q) :
    (Code.region id ops true).wp P Q a0 w0 := by
  obtain ⟨hElt, hEanc⟩ := last_spec hE
  refine wp_region_any hm ?_
  refine wpAny_inv (fun L a w => L.size = ops.size ∧ ((L.getD E false = false ∧ ClosedL ops L ∧ ((L.getD C false = false ∧ w = w0.drew) ∨ (L.getD C false = true ∧ R (a.tmps.getD dC undef) w)) ∧ a.defers = a0.defers ∧ a.tmps.size = a0.tmps.size ∧
      (∀ k, (∀ j, j < ops.size → dstOf ops j ≠ some k) → a.tmps.getD k undef = a0.tmps.getD k undef) ∧
      (∀ i d, i < ops.size → i ≠ C → L.getD i false = true → dstOf ops i = some d → a.tmps.getD d undef = val i) ∧
      (∀ d, dstOf ops E = some d → a.tmps.getD d undef = a0.tmps.getD d undef)) ∨ ((∀ j, j < ops.size → L.getD j false = true) ∧ Q .normal a w))) (fun L a w h => h.1) ?_ ?_ _ _ _ _ ?_ ?_
  · rintro L a w i ⟨h1, ⟨hE0, hcl, hw, h3, h4, h5, h6, h7⟩ | ⟨hall, _⟩⟩ hi
    · obtain ⟨o, ho, hlt', hL, haf⟩ := ready_spec hi
      have hLf : L.getD i false = false := by
        rw [Array.getD_eq_getD_getElem?, Array.getElem?_eq_getElem (by omega)] at hL ⊢
        simpa using hL
      have hon : ∀ e ∈ o.after, Region.binds .any e = true → e.on < ops.size := fun e he hb => by
        have := haf e he hb
        rcases Nat.lt_or_ge e.on ops.size with h' | h'
        · exact h'
        · rw [Array.getD_eq_getD_getElem?, Array.getElem?_eq_none (by omega)] at this; simp at this
      have hgo : o.guard = none := by
        rw [Array.all_eq_true] at hg
        have := hg i hlt'
        have ho' : ops[i] = o := by rw [Array.getElem?_eq_getElem hlt'] at ho; injection ho
        rw [ho'] at this
        simpa using this
      unfold wpOp
      rw [ho]
      simp only [wanted_none hgo, if_true]
      -- the list with one operation more, closed
      have hcl' : ClosedL ops (L.setIfInBounds i true) := by
        intro j p hp hj e he hb
        rw [set_getD' _ _ _ (by omega)] at hj ⊢
        by_cases hji : j = i
        · subst hji
          rw [ho] at hp
          injection hp with hp
          subst hp
          rw [haf e he hb]; simp
        · rw [if_neg hji] at hj
          rw [hcl j p hp hj e he hb]; simp
      by_cases hiE : i = E
      · subst hiE
        have hlist : ∀ j, j < ops.size → j ≠ i → L.getD j false = true := fun j hj hne => anc_ready hcl ho haf _ _ (hEanc j hj hne)
        have hCt : L.getD C false = true := hlist C hClt hCE
        have hR : R (a.tmps.getD dC undef) w := by
          rcases hw with ⟨q, _⟩ | ⟨_, q⟩
          · rw [hCt] at q; cases q
          · exact q
        refine .inl (Oper.wp_mono ?_ (last o ho a w _ hR h3 h4 h5 (fun k d hk hne hnC hd => h6 k d hk hnC (hlist k hk hne) hd) rfl h7))
        intro a' w' hq
        refine ⟨by rw [Array.size_setIfInBounds]; exact h1, .inr ⟨fun j hj => ?_, hq⟩⟩
        rw [set_getD' _ _ _ (by omega)]
        by_cases e : j = i
        · rw [if_pos e]
        · rw [if_neg e]; exact hlist j hj e
      · -- what stays of the slots
        have slots : ∀ v, (∀ k, (∀ j, j < ops.size → dstOf ops j ≠ some k) → (a.put o.dst v).tmps.getD k undef = a0.tmps.getD k undef) ∧ (∀ d, dstOf ops E = some d → (a.put o.dst v).tmps.getD d undef = a0.tmps.getD d undef) ∧ (∀ j d, j < ops.size → j ≠ i → dstOf ops j = some d → (a.put o.dst v).tmps.getD d undef = a.tmps.getD d undef) ∧ (∀ d, dstOf ops i = some d → (a.put o.dst v).tmps.getD d undef = v) ∧ (a.put o.dst v).defers = a0.defers ∧ (a.put o.dst v).tmps.size = a0.tmps.size := by
          intro v
          cases hod : o.dst with
          | none => exact ⟨h5, h7, fun _ _ _ _ _ => rfl, fun d q => by simp [dstOf, ho, hod] at q, h3, h4⟩
          | some d' =>
            have hdi : dstOf ops i = some d' := by simp [dstOf, ho, hod]
            have hf := good_spec hdf hlt' hdi
            refine ⟨fun k hk => ?_, fun d hd => ?_, fun j d hj hne hd => ?_, fun d hd => ?_, h3, by simp only [Act.put, Array.size_setIfInBounds]; exact h4⟩
            · rw [getD_put _ _ _ _ (by omega), if_neg (fun e => hk i hlt' (by rw [e]; exact hdi))]
              exact h5 k hk
            · rw [getD_put _ _ _ _ (by omega), if_neg (fun e => hf.2 E hElt (fun q => hiE q.symm) (by rw [← e]; exact hd))]
              exact h7 d hd
            · rw [getD_put _ _ _ _ (by omega), if_neg (fun e => hf.2 j hj hne (by rw [← e]; exact hd))]
            · rw [hdi] at hd
              injection hd with hd
              rw [getD_put _ _ _ _ (by omega), if_pos hd.symm]
        have hvals : ∀ e ∈ o.after, Region.binds .any e = true → e.on ≠ C → ∀ d, dstOf ops e.on = some d → a.tmps.getD d undef = val e.on := fun e he hb hn d hd => h6 e.on d (hon e he hb) hn (haf e he hb) hd
        by_cases hiC : i = C
        · subst hiC
          have hw1 : w = w0.drew := by
            rcases hw with ⟨_, q⟩ | ⟨q, _⟩
            · exact q
            · rw [hLf] at q; cases q
          subst hw1
          refine .inl (Oper.wp_mono ?_ (call o ho a h5 hvals))
          rintro a' w' ⟨v, rfl, hR⟩
          obtain ⟨s1, s2, s3, s4, s5, s6⟩ := slots v
          refine ⟨by rw [Array.size_setIfInBounds]; exact h1, .inl ⟨?_, hcl', .inr ⟨?_, ?_⟩, s5, s6, s1, ?_, s2⟩⟩
          · rw [set_getD' _ _ _ (by omega), if_neg (fun e => hiE e.symm)]; exact hE0
          · rw [set_getD' _ _ _ (by omega), if_pos rfl]
          · rw [s4 dC hdC]; exact hR
          · intro j d hj hjC hLj hdj
            rw [set_getD' _ _ _ (by omega), if_neg hjC] at hLj
            rw [s3 j d hj hjC hdj]
            exact h6 j d hj hjC hLj hdj
        · have hww : w = w0.drew ∨ ∃ v, R v w := hw.elim (fun q => .inl q.2) (fun q => .inr ⟨_, q.2⟩)
          refine .inl (Oper.wp_mono ?_ (step i o hiE hiC ho a w hww h5 hvals))
          rintro a' w' ⟨rfl, rfl⟩
          obtain ⟨s1, s2, s3, s4, s5, s6⟩ := slots (val i)
          refine ⟨by rw [Array.size_setIfInBounds]; exact h1, .inl ⟨?_, hcl', ?_, s5, s6, s1, ?_, s2⟩⟩
          · rw [set_getD' _ _ _ (by omega), if_neg (fun e => hiE e.symm)]; exact hE0
          · rw [set_getD' _ _ _ (by omega), if_neg (fun e => hiC e.symm), s3 C dC hClt (fun e => hiC e.symm) hdC]
            exact hw
          · intro j d hj hjC hLj hdj
            by_cases hji : j = i
            · subst hji; exact s4 d hdj
            · rw [set_getD' _ _ _ (by omega), if_neg hji] at hLj
              rw [s3 j d hj hji hdj]
              exact h6 j d hj hjC hLj hdj
    · exfalso
      obtain ⟨o, ho, hlt', hL, haf⟩ := ready_spec hi
      have := hall i hlt'
      rw [Array.getD_eq_getD_getElem?, Array.getElem?_eq_getElem (by omega)] at hL this
      simp at hL this
      rw [hL] at this
      cases this
  · rintro L a w ⟨h1, ⟨hE0, _⟩ | ⟨_, hq⟩⟩ hr
    · have hall := all_listedB hah h1 hr
      rw [hall E hElt] at hE0
      cases hE0
    · exact hq
  · refine ⟨by simp, .inl ⟨?_, ?_, .inl ⟨?_, rfl⟩, rfl, rfl, fun _ _ => rfl, fun i d hi _ h => ?_, fun _ _ => rfl⟩⟩
    · rw [Array.getD_eq_getD_getElem?, Array.getElem?_replicate]
      split <;> simp
    · intro j p hp hj
      rw [Array.getD_eq_getD_getElem?, Array.getElem?_replicate] at hj
      split at hj <;> simp at hj
    · rw [Array.getD_eq_getD_getElem?, Array.getElem?_replicate]
      split <;> simp
    · rw [Array.getD_eq_getD_getElem?, Array.getElem?_replicate] at h
      simp [hi] at h
  · unfold left
    exact Nat.le_trans (List.countP_le_length) (by simp)
end Go.Proofs.YtolddolfpnkndaaGreat
