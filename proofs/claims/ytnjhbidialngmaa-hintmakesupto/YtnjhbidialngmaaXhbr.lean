/-
  A REGION THAT DRAWS ITS ORDER, with one call that leaves some world of which a predicate tells, operations beside it that only read what the call does not turn, and a last operation behind all. No condition beyond those that each theorem bears.
  A REGION THAT DRAWS ITS ORDER AROUND A CALL: all other operations must come ahead of it, or behind it; ahead the world is told by a predicate; the call leaves some world and value of which another tells; what is behind only reads. No condition beyond those that each theorem bears.
-/
import Derived.Test.YtnjhbidialngmaaXhbq
import Derived.Test.YtnjhbidialngmaaXhbm
namespace Go.Proofs.Ytnjhbidialngmaa
open Go Go.RowKit
end Go.Proofs.Ytnjhbidialngmaa
namespace Go.Proofs.Ytnjhbidialngmaa
open Go Go.RowKit
def pivOk (ops : Array Oper) (C : Nat) : Bool := (List.range ops.size).all fun i => decide (i = C) || (anc ops ops.size C i || anc ops ops.size i C)
theorem piv_spec {ops : Array Oper} {C : Nat} (h : pivOk ops C = true) {i : Nat} (hi : i < ops.size) (hne : i ≠ C) : anc ops ops.size C i = true ∨ anc ops ops.size i C = true := by
  unfold pivOk at h
  have := List.all_eq_true.1 h i (by simpa using hi)
  simpa [hne] using this
theorem step_q {P : Program} {o : Oper} {a : Act} {w w' : World} {Q : Exit → Act → World → Prop} {v : Value} {X : World → Prop} (hX : X w') (h : ∀ K : Act → World → Prop, K (a.put o.dst v) w' → o.wp P a w K Q) : o.wp P a w (fun a' w'' => a' = a.put o.dst v ∧ X w'') Q := h _ ⟨rfl, hX⟩
def tupAt (v : Value) (k : Nat) : Value := match v with
  | .tuple xs => xs.getD k undef
  | _ => undef
theorem region_pivot {P : Program} {id : Nat} {ops : Array Oper} {Q : Exit → Act → World → Prop} {a0 : Act} {w0 : World} (val : Value → Nat → Value) (C : Nat) (Q1 : World → Prop) (R : Value → World → Prop)
    (hm : P.follows .mixedOrders = true) (hg : (ops.all fun o => o.guard.isNone) = true) (hdf : dstsGood ops a0.tmps.size = true) (hah : aftersBound ops = true) (hpiv : pivOk ops C = true) (hClt : C < ops.size) (hvC : ∀ v, val v C = v)
    (hind : ∀ v i, i < ops.size → anc ops ops.size C i = true → val v i = val undef i) (hQ0 : Q1 w0.drew)
    (pre : ∀ i o, ops[i]? = some o → anc ops ops.size C i = true → ∀ (a : Act) (w : World), Q1 w →
      (∀ k, (∀ j, j < ops.size → dstOf ops j ≠ some k) → a.tmps.getD k undef = a0.tmps.getD k undef) →
      (∀ e ∈ o.after, Region.binds .any e = true → ∀ d, dstOf ops e.on = some d → a.tmps.getD d undef = val undef e.on) →
      o.wp P a w (fun a' w' => a' = a.put o.dst (val undef i) ∧ Q1 w') Q)
    (call : ∀ o, ops[C]? = some o → ∀ (a : Act) (w : World), Q1 w →
      (∀ k, (∀ j, j < ops.size → dstOf ops j ≠ some k) → a.tmps.getD k undef = a0.tmps.getD k undef) →
      (∀ e ∈ o.after, Region.binds .any e = true → ∀ d, dstOf ops e.on = some d → a.tmps.getD d undef = val undef e.on) →
      o.wp P a w (fun a' w' => ∃ v, a' = a.put o.dst v ∧ R v w') Q)
    (suf : ∀ i o, ops[i]? = some o → i ≠ C → anc ops ops.size C i = false → ∀ (v : Value) (a : Act) (w : World), R v w →
      (∀ k, (∀ j, j < ops.size → dstOf ops j ≠ some k) → a.tmps.getD k undef = a0.tmps.getD k undef) →
      (∀ e ∈ o.after, Region.binds .any e = true → ∀ d, dstOf ops e.on = some d → a.tmps.getD d undef = val v e.on) →
      o.wp P a w (fun a' w' => a' = a.put o.dst (val v i) ∧ w' = w) Q)
    (done : ∀ v a w, R v w → a.defers = a0.defers → a.tmps.size = a0.tmps.size →
      (∀ k, (∀ j, j < ops.size → dstOf ops j ≠ some k) → a.tmps.getD k undef = a0.tmps.getD k undef) →
      (∀ i d, i < ops.size → dstOf ops i = some d → a.tmps.getD d undef = val v i) → Q .normal a w) :
    (Code.region id ops true).wp P Q a0 w0 := by
  refine wp_region_any hm ?_
  refine wpAny_inv (fun L a w => L.size = ops.size ∧ ClosedL ops L ∧ a.defers = a0.defers ∧ a.tmps.size = a0.tmps.size ∧
      (∀ k, (∀ j, j < ops.size → dstOf ops j ≠ some k) → a.tmps.getD k undef = a0.tmps.getD k undef) ∧
      ((L.getD C false = false ∧ Q1 w ∧ ∀ i d, i < ops.size → L.getD i false = true → dstOf ops i = some d → a.tmps.getD d undef = val undef i) ∨
       (L.getD C false = true ∧ ∃ v, R v w ∧ ∀ i d, i < ops.size → L.getD i false = true → dstOf ops i = some d → a.tmps.getD d undef = val v i))) (fun L a w h => h.1) ?_ ?_ _ _ _ _ ?_ ?_
  · rintro L a w i ⟨h1, hcl, h3, h4, h5, hph⟩ hi
    obtain ⟨o, ho, hlt', hL, haf⟩ := ready_spec hi
    have hLf : L.getD i false = false := by
      rw [Array.getD_eq_getD_getElem?, Array.getElem?_eq_getElem (by omega)] at hL ⊢
      simpa using hL
    have hon : ∀ e ∈ o.after, Region.binds .any e = true → e.on < ops.size := fun e he hb => by
      have := haf e he hb
      rcases Nat.lt_or_ge e.on ops.size with h' | h'
      · exact h'
      · rw [Array.getD_eq_getD_getElem?, Array.getElem?_eq_none (by omega)] at this; simp at this
    have hgo : o.guard = none := by
      rw [Array.all_eq_true] at hg
      have := hg i hlt'
      have ho' : ops[i] = o := by rw [Array.getElem?_eq_getElem hlt'] at ho; injection ho
      rw [ho'] at this
      simpa using this
    unfold wpOp
    rw [ho]
    simp only [wanted_none hgo, if_true]
    have hcl' : ClosedL ops (L.setIfInBounds i true) := by
      intro j p hp hj e he hb
      rw [set_getD' _ _ _ (by omega)] at hj ⊢
      by_cases hji : j = i
      · subst hji
        rw [ho] at hp
        injection hp with hp
        subst hp
        rw [haf e he hb]; simp
      · rw [if_neg hji] at hj
        rw [hcl j p hp hj e he hb]; simp
    have slots : ∀ v, (∀ k, (∀ j, j < ops.size → dstOf ops j ≠ some k) → (a.put o.dst v).tmps.getD k undef = a0.tmps.getD k undef) ∧ (∀ j d, j < ops.size → j ≠ i → dstOf ops j = some d → (a.put o.dst v).tmps.getD d undef = a.tmps.getD d undef) ∧ (∀ d, dstOf ops i = some d → (a.put o.dst v).tmps.getD d undef = v) ∧ (a.put o.dst v).defers = a0.defers ∧ (a.put o.dst v).tmps.size = a0.tmps.size := by
      intro v
      cases hod : o.dst with
      | none => exact ⟨h5, fun _ _ _ _ _ => rfl, fun d q => by simp [dstOf, ho, hod] at q, h3, h4⟩
      | some d' =>
        have hdi : dstOf ops i = some d' := by simp [dstOf, ho, hod]
        have hf := good_spec hdf hlt' hdi
        refine ⟨fun k hk => ?_, fun j d hj hne hd => ?_, fun d hd => ?_, h3, by simp only [Act.put, Array.size_setIfInBounds]; exact h4⟩
        · rw [getD_put _ _ _ _ (by omega), if_neg (fun e => hk i hlt' (by rw [e]; exact hdi))]
          exact h5 k hk
        · rw [getD_put _ _ _ _ (by omega), if_neg (fun e => hf.2 j hj hne (by rw [← e]; exact hd))]
        · rw [hdi] at hd
          injection hd with hd
          rw [getD_put _ _ _ _ (by omega), if_pos hd.symm]
    have hsz' : (L.setIfInBounds i true).size = ops.size := by rw [Array.size_setIfInBounds]; exact h1
    rcases hph with ⟨hC, hQ, h6⟩ | ⟨hC, v, hR, h6⟩
    · have hvals : ∀ e ∈ o.after, Region.binds .any e = true → ∀ d, dstOf ops e.on = some d → a.tmps.getD d undef = val undef e.on := fun e he hb d hd => h6 e.on d (hon e he hb) (haf e he hb) hd
      by_cases hiC : i = C
      · subst hiC
        refine .inl (Oper.wp_mono ?_ (call o ho a w hQ h5 hvals))
        rintro a' w' ⟨v, rfl, hR⟩
        obtain ⟨s1, s3, s4, s5, s6⟩ := slots v
        refine ⟨hsz', hcl', s5, s6, s1, .inr ⟨by rw [set_getD' _ _ _ (by omega), if_pos rfl], v, hR, ?_⟩⟩
        intro j d hj hLj hdj
        by_cases hji : j = i
        · subst hji
          rw [s4 d hdj, hvC]
        · rw [set_getD' _ _ _ (by omega), if_neg hji] at hLj
          rw [s3 j d hj hji hdj, h6 j d hj hLj hdj]
          rcases piv_spec hpiv hj hji with q | q
          · exact (hind v j hj q).symm
          · have := anc_listed hcl _ _ _ hLj q
            rw [hC] at this; cases this
      · have hpre : anc ops ops.size C i = true := by
          rcases piv_spec hpiv hlt' hiC with q | q
          · exact q
          · have := anc_ready hcl ho haf _ _ q
            rw [hC] at this; cases this
        refine .inl (Oper.wp_mono ?_ (pre i o ho hpre a w hQ h5 hvals))
        rintro a' w' ⟨rfl, hQ'⟩
        obtain ⟨s1, s3, s4, s5, s6⟩ := slots (val undef i)
        refine ⟨hsz', hcl', s5, s6, s1, .inl ⟨by rw [set_getD' _ _ _ (by omega), if_neg (fun e => hiC e.symm)]; exact hC, hQ', ?_⟩⟩
        intro j d hj hLj hdj
        by_cases hji : j = i
        · subst hji; exact s4 d hdj
        · rw [set_getD' _ _ _ (by omega), if_neg hji] at hLj
          rw [s3 j d hj hji hdj]; exact h6 j d hj hLj hdj
    · have hvals : ∀ e ∈ o.after, Region.binds .any e = true → ∀ d, dstOf ops e.on = some d → a.tmps.getD d undef = val v e.on := fun e he hb d hd => h6 e.on d (hon e he hb) (haf e he hb) hd
      have hiC : i ≠ C := fun e => by rw [e, hC] at hLf; cases hLf
      have hsuf : anc ops ops.size C i = false := by
        cases hq : anc ops ops.size C i
        · rfl
        · have := anc_listed hcl _ _ _ hC hq
          rw [hLf] at this; cases this
      refine .inl (Oper.wp_mono ?_ (suf i o ho hiC hsuf v a w hR h5 hvals))
      rintro a' w' ⟨rfl, rfl⟩
      obtain ⟨s1, s3, s4, s5, s6⟩ := slots (val v i)
      refine ⟨hsz', hcl', s5, s6, s1, .inr ⟨by rw [set_getD' _ _ _ (by omega), if_neg (fun e => hiC e.symm)]; exact hC, v, hR, ?_⟩⟩
      intro j d hj hLj hdj
      by_cases hji : j = i
      · subst hji; exact s4 d hdj
      · rw [set_getD' _ _ _ (by omega), if_neg hji] at hLj
        rw [s3 j d hj hji hdj]; exact h6 j d hj hLj hdj
  · rintro L a w ⟨h1, hcl, h3, h4, h5, hph⟩ hr
    have hall := all_listedB hah h1 hr
    rcases hph with ⟨hC, _⟩ | ⟨hC, v, hR, h6⟩
    · rw [hall C hClt] at hC; cases hC
    · exact done v a w hR h3 h4 h5 fun i d hi hd => h6 i d hi (hall i hi) hd
  · refine ⟨by simp, ?_, rfl, rfl, fun _ _ => rfl, .inl ⟨?_, hQ0, fun i d hi h => ?_⟩⟩
    · intro j p hp hj
      rw [Array.getD_eq_getD_getElem?, Array.getElem?_replicate] at hj
      split at hj <;> simp at hj
    · rw [Array.getD_eq_getD_getElem?, Array.getElem?_replicate]
      split <;> simp
    · rw [Array.getD_eq_getD_getElem?, Array.getElem?_replicate] at h
      simp [hi] at h
  · unfold left
    exact Nat.le_trans (List.countP_le_length) (by simp)
end Go.Proofs.Ytnjhbidialngmaa
