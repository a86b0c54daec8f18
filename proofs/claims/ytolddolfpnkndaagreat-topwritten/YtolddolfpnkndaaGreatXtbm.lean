/-
  A REGION THAT DRAWS ITS ORDER AROUND A CALL: all other operations must come ahead of it, or behind it; ahead the world is told by a predicate; the call leaves some world and value of which another tells; what is behind only reads. No condition beyond those that each theorem bears.
  What segment.Read tells, plainly.
  A frame, byte by byte.
  FRAMES THERE AND BACK, PLAINLY: what was written is read; what is read is what would be written; the lead byte stands first alone.
-/
import Derived.Test.YtolddolfpnkndaaGreatXtap
import Derived.Test.YtolddolfpnkndaaGreatXtbh
import Derived.Test.YtolddolfpnkndaaGreatXtbl
import Derived.Test.YtolddolfpnkndaaGreatXtbb
namespace Go.Proofs.YtolddolfpnkndaaGreat
open Go Go.RowKit
def pivOk (ops : Array Oper) (C : Nat) : Bool := (List.range ops.size).all fun i => decide (i = C) || (anc ops ops.size C i || anc ops ops.size i C)
theorem piv_spec {ops : Array Oper} {C : Nat} (h : pivOk ops C = true) {i : Nat} (hi : i < ops.size) (hne : i ≠ C) : anc ops ops.size C i = true ∨ anc ops ops.size i C = true := by
  unfold pivOk at h
  have := List.all_eq_true.1 h i (by simpa using hi)
  simpa [hne] using this
theorem step_q {P : Program} {o : Oper} {a : Act} {w w' : World} {Q : Exit → Act → World → Prop} {v : Value} {X : World → Prop} (hX : X w') (h : ∀ K : Act → World → Prop, K (a.put o.dst v) w' → o.wp P a w K Q) : o.wp P a w (fun a' w'' => a' = a.put o.dst v ∧ X w'') Q := h _ ⟨rfl, hX⟩
def tupAt (v : Value) (k : Nat) : Value := match v with
  | .tuple xs => xs.getD k undef
  | _ => undef
theorem region_pivot {P : Program} {id : Nat} {ops : Array Oper} {Q : Exit → Act → World → Prop} {a0 : Act} {w0 : World} (val : Value → Nat → Value) (C : Nat) (Q1 : World → Prop) (R : Value → World → Prop)
    (hm : P.follows .mixedOrders = true) (hg : (ops.all fun o => o.guard.isNone) = true) (hdf : dstsGood ops a0.tmps.size = true) (hah : aftersBound ops = true) (hpiv : pivOk ops C = true) (hClt : C < ops.size) (hvC : ∀ v, val v C = v)
    (hind : ∀ v i, i < ops.size → anc ops ops.size C i = true → val v i = val undef i) (hQ0 : Q1 w0.drew)
    (pre : ∀ i o, ops[i]? = some o → anc ops ops.size C i = true → ∀ (a : Act) (w : World), Q1 w →
      (∀ k, (∀ j, j < ops.size → dstOf ops j ≠ some k) → a.tmps.getD k undef = a0.tmps.getD k undef) →
      (∀ e ∈ o.after, Region.binds .any e = true → ∀ d, dstOf ops e.on = some d → a.tmps.getD d undef = val undef e.on) →
      o.wp P a w (fun a' w' => a' = a.put o.dst (val undef i) ∧ Q1 w') Q)
    (call : ∀ o, ops[C]? = some o → ∀ (a : Act) (w : World), Q1 w →
      (∀ k, (∀ j, j < ops.size → dstOf ops j ≠ some k) → a.tmps.getD k undef = a0.tmps.getD k undef) →
      (∀ e ∈ o.after, Region.binds .any e = true → ∀ d, dstOf ops e.on = some d → a.tmps.getD d undef = val undef e.on) →
      o.wp P a w (fun a' w' => ∃ v, a' = a.put o.dst v ∧ R v w') Q)
    (suf : ∀ i o, ops[i]? = some o → i ≠ C → anc ops ops.size C i = false → ∀ (v : Value) (a : Act) (w : World), R v w →
      (∀ k, (∀ j, j < ops.size → dstOf ops j ≠ some k) → a.tmps.getD k undef = a0.tmps.getD k undef) →
      (∀ e ∈ o.after, Region.binds .any e = true → ∀ d, dstOf ops e.on = some d → a.tmps.getD d undef = val v e.on) →
      o.wp P a w (fun a' w' => a' = a.put o.dst (val v i) ∧ w' = w) Q)
    (done : ∀ v a w, R v w → a.defers = a0.defers → a.tmps.size = a0.tmps.size →
      (∀ k, (∀ j, j < ops.size → dstOf ops j ≠ some k) → a.tmps.getD k undef = a0.tmps.getD k undef) →
      (∀ i d, i < ops.size → dstOf ops i = some d → a.tmps.getD d undef = val v i) → Q .normal a w) :
    (Code.region id ops true).wp P Q a0 w0 := by
  refine wp_region_any hm ?_
  refine wpAny_inv (fun L a w => L.size = ops.size ∧ ClosedL ops L ∧ a.defers = a0.defers ∧ a.tmps.size = a0.tmps.size ∧
      (∀ k, (∀ j, j < ops.size → dstOf ops j ≠ some k) → a.tmps.getD k undef = a0.tmps.getD k undef) ∧
      ((L.getD C false = false ∧ Q1 w ∧ ∀ i d, i < ops.size → L.getD i false = true → dstOf ops i = some d → a.tmps.getD d undef = val undef i) ∨
       (L.getD C false = true ∧ ∃ v, R v w ∧ ∀ i d, i < ops.size → L.getD i false = true → dstOf ops i = some d → a.tmps.getD d undef = val v i))) (fun L a w h => h.1) ?_ ?_ _ _ _ _ ?_ ?_
  · rintro L a w i ⟨h1, hcl, h3, h4, h5, hph⟩ hi
    obtain ⟨o, ho, hlt', hL, haf⟩ := ready_spec hi
    have hLf : L.getD i false = false := by
      rw [Array.getD_eq_getD_getElem?, Array.getElem?_eq_getElem (by omega)] at hL ⊢
      simpa using hL
    have hon : ∀ e ∈ o.after, Region.binds .any e = true → e.on < ops.size := fun e he hb => by
      have := haf e he hb
      rcases Nat.lt_or_ge e.on ops.size with h' | h'
      · exact h'
      · rw [Array.getD_eq_getD_getElem?, Array.getElem?_eq_none (by omega)] at this; simp at this
    have hgo : o.guard = none := by
      rw [Array.all_eq_true] at hg
      have := hg i hlt'
      have ho' : ops[i] = o := by rw [Array.getElem?_eq_getElem hlt'] at ho; injection ho
      rw [ho'] at this
      simpa using this
    unfold wpOp
    rw [ho]
    simp only [wanted_none hgo, if_true]
    have hcl' : ClosedL ops (L.setIfInBounds i true) := by
      intro j p hp hj e he hb
      rw [set_getD' _ _ _ (by omega)] at hj ⊢
      by_cases hji : j = i
      · subst hji
        rw [ho] at hp
        injection hp with hp
        subst hp
        rw [haf e he hb]; simp
      · rw [if_neg hji] at hj
        rw [hcl j p hp hj e he hb]; simp
    have slots : ∀ v, (∀ k, (∀ j, j < ops.size → dstOf ops j ≠ some k) → (a.put o.dst v).tmps.getD k undef = a0.tmps.getD k undef) ∧ (∀ j d, j < ops.size → j ≠ i → dstOf ops j = some d → (a.put o.dst v).tmps.getD d undef = a.tmps.getD d undef) ∧ (∀ d, dstOf ops i = some d → (a.put o.dst v).tmps.getD d undef = v) ∧ (a.put o.dst v).defers = a0.defers ∧ (a.put o.dst v).tmps.size = a0.tmps.size := by
      intro v
      cases hod : o.dst with
      | none => exact ⟨h5, fun _ _ _ _ _ => rfl, fun d q => by simp [dstOf, ho, hod] at q, h3, h4⟩
      | some d' =>
        have hdi : dstOf ops i = some d' := by simp [dstOf, ho, hod]
        have hf := good_spec hdf hlt' hdi
        refine ⟨fun k hk => ?_, fun j d hj hne hd => ?_, fun d hd => ?_, h3, by simp only [Act.put, Array.size_setIfInBounds]; exact h4⟩
        · rw [getD_put _ _ _ _ (by omega), if_neg (fun e => hk i hlt' (by rw [e]; exact hdi))]
          exact h5 k hk
        · rw [getD_put _ _ _ _ (by omega), if_neg (fun e => hf.2 j hj hne (by rw [← e]; exact hd))]
        · rw [hdi] at hd
          injection hd with hd
          rw [getD_put _ _ _ _ (by omega), if_pos hd.symm]
    have hsz' : (L.setIfInBounds i true).size = ops.size := by rw [Array.size_setIfInBounds]; exact h1
    rcases hph with ⟨hC, hQ, h6⟩ | ⟨hC, v, hR, h6⟩
    · have hvals : ∀ e ∈ o.after, Region.binds .any e = true → ∀ d, dstOf ops e.on = some d → a.tmps.getD d undef = val undef e.on := fun e he hb d hd => h6 e.on d (hon e he hb) (haf e he hb) hd
      by_cases hiC : i = C
      · subst hiC
        refine .inl (Oper.wp_mono ?_ (call o ho a w hQ h5 hvals))
        rintro a' w' ⟨v, rfl, hR⟩
        obtain ⟨s1, s3, s4, s5, s6⟩ := slots v
        refine ⟨hsz', hcl', s5, s6, s1, .inr ⟨by rw [set_getD' _ _ _ (by omega), if_pos rfl], v, hR, ?_⟩⟩
        intro j d hj hLj hdj
        by_cases hji : j = i
        · subst hji
          rw [s4 d hdj, hvC]
        · rw [set_getD' _ _ _ (by omega), if_neg hji] at hLj
          rw [s3 j d hj hji hdj, h6 j d hj hLj hdj]
          rcases piv_spec hpiv hj hji with q | q
          · exact (hind v j hj q).symm
          · have := anc_listed hcl _ _ _ hLj q
            rw [hC] at this; cases this
      · have hpre : anc ops ops.size C i = true := by
          rcases piv_spec hpiv hlt' hiC with q | q
          · exact q
          · have := anc_ready hcl ho haf _ _ q
            rw [hC] at this; cases this
        refine .inl (Oper.wp_mono ?_ (pre i o ho hpre a w hQ h5 hvals))
        rintro a' w' ⟨rfl, hQ'⟩
        obtain ⟨s1, s3, s4, s5, s6⟩ := slots (val undef i)
        refine ⟨hsz', hcl', s5, s6, s1, .inl ⟨by rw [set_getD' _ _ _ (by omega), if_neg (fun e => hiC e.symm)]; exact hC, hQ', ?_⟩⟩
        intro j d hj hLj hdj
        by_cases hji : j = i
        · subst hji; exact s4 d hdj
        · rw [set_getD' _ _ _ (by omega), if_neg hji] at hLj
          rw [s3 j d hj hji hdj]; exact h6 j d hj hLj hdj
    · have hvals : ∀ e ∈ o.after, Region.binds .any e = true → ∀ d, dstOf ops e.on = some d → a.tmps.getD d undef = val v e.on := fun e he hb d hd => h6 e.on d (hon e he hb) (haf e he hb) hd
      have hiC : i ≠ C := fun e => by rw [e, hC] at hLf; cases hLf
      have hsuf : anc ops ops.size C i = false := by
        cases hq : anc ops ops.size C i
        · rfl
        · have := anc_listed hcl _ _ _ hC hq
          rw [hLf] at this; cases this
      refine .inl (Oper.wp_mono ?_ (suf i o ho hiC hsuf v a w hR h5 hvals))
      rintro a' w' ⟨rfl, rfl⟩
      obtain ⟨s1, s3, s4, s5, s6⟩ := slots (val v i)
      refine ⟨hsz', hcl', s5, s6, s1, .inr ⟨by rw [set_getD' _ _ _ (by omega), if_neg (fun e => hiC e.symm)]; exact hC, v, hR, ?_⟩⟩
      intro j d hj hLj hdj
      by_cases hji : j = i
      · subst hji; exact s4 d hdj
      · rw [set_getD' _ _ _ (by omega), if_neg hji] at hLj
        rw [s3 j d hj hji hdj]; exact h6 j d hj hLj hdj
  · rintro L a w ⟨h1, hcl, h3, h4, h5, hph⟩ hr
    have hall := all_listedB hah h1 hr
    rcases hph with ⟨hC, _⟩ | ⟨hC, v, hR, h6⟩
    · rw [hall C hClt] at hC; cases hC
    · exact done v a w hR h3 h4 h5 fun i d hi hd => h6 i d hi (hall i hi) hd
  · refine ⟨by simp, ?_, rfl, rfl, fun _ _ => rfl, .inl ⟨?_, hQ0, fun i d hi h => ?_⟩⟩
    · intro j p hp hj
      rw [Array.getD_eq_getD_getElem?, Array.getElem?_replicate] at hj
      split at hj <;> simp at hj
    · rw [Array.getD_eq_getD_getElem?, Array.getElem?_replicate]
      split <;> simp
    · rw [Array.getD_eq_getD_getElem?, Array.getElem?_replicate] at h
      simp [hi] at h
  · unfold left
    exact Nat.le_trans (List.countP_le_length) (by simp)
end Go.Proofs.YtolddolfpnkndaaGreat
namespace Go.Proofs.YtolddolfpnkndaaGreat
open Go.RowKit Go.Maps Go.Sort
namespace Sg
open Vt Dk
def rdBad (sg : Nat) (at_ ln : Int) : Prop := sg = 0 ∨ at_ < 0 ∨ ln < 1
noncomputable def rdX (S : Ds) (sg : Nat) (at_ ln : Int) : Rec × Nat :=
  if (decF (Dk.bytes S (nmS sg) at_ ln) 0).2.2 ≠ 0 ∨ (((decF (Dk.bytes S (nmS sg) at_ ln) 0).2.1 : Nat) : Int) ≠ ln ∨ ((decF (Dk.bytes S (nmS sg) at_ ln) 0).1.kind ≠ 1 ∧ (decF (Dk.bytes S (nmS sg) at_ ln) 0).1.kind ≠ 2) then (zr, 91) else ((decF (Dk.bytes S (nmS sg) at_ ln) 0).1.r, 0)
def rdT (r : Rec) (e : Nat) : Value := .tuple #[.agg (rv r), .int .i64 (e : Int)]
end Sg
end Go.Proofs.YtolddolfpnkndaaGreat
namespace Go.Proofs.YtolddolfpnkndaaGreat
namespace Vt
theorem en_eq (f : Fr) : en f = 167 :: (dg 3 (wr (bd f)).length ++ (wr (bd f) ++ dg 5 (Crc.go 0 (dg 3 (wr (bd f)).length ++ wr (bd f))))) := by
  unfold en ep; simp
end Vt
end Go.Proofs.YtolddolfpnkndaaGreat
namespace Go.Proofs.YtolddolfpnkndaaGreat
namespace Vt
theorem nx_none {l : List Nat} (h : ∀ x ∈ l, x ≠ 167) : nx l = l.length := by
  unfold nx
  rw [List.findIdx_eq_length]
  intro x hx
  simpa using h x hx
theorem p3 : (128 : Nat) ^ 3 = 2097152 := by decide
theorem p5 : (128 : Nat) ^ 5 = 34359738368 := by decide
/-- what was written is read, whatever stands behind -/
theorem dcd_en {f : Fr} (hw : f.Wf) (h : rf f = 0) (r : List Nat) : dcd (en f ++ r) = (f, (en f).length, 0) := by
  obtain ⟨hb1, hb2⟩ := bd_len hw h
  have hl := (wr_len (bd f)).2
  have hp := prs_bd hw h
  have hS := Crc.go_lt 0 (dg 3 (wr (bd f)).length ++ wr (bd f))
  have hEL := en_len f
  have hno := wr_no (bd f)
  have hplain := plain_wr (bd f)
  have hbad := badB_wr (bd f) 0
  rw [en_eq] at hEL ⊢
  generalize hW : wr (bd f) = W at *
  generalize hSS : Crc.go 0 (dg 3 W.length ++ W) = S at *
  have hN3 : nm (dg 3 W.length) = W.length := by rw [nm_dg, p3]; omega
  have hS5 : nm (dg 5 S) = S := by rw [nm_dg, p5]; omega
  have d3 := dg_len 3 W.length
  have d5 := dg_len 5 S
  have hm : (167 :: (dg 3 W.length ++ (W ++ dg 5 S))) ++ r = 167 :: (dg 3 W.length ++ (W ++ (dg 5 S ++ r))) := by simp
  rw [hm]
  have hdig : dig (167 :: (dg 3 W.length ++ (W ++ (dg 5 S ++ r)))) = dg 3 W.length := by
    unfold dig
    rw [List.drop_succ_cons, List.drop_zero, List.take_append_of_le_length (by omega), List.take_of_length_le (by omega)]
  have hlen : (167 :: (dg 3 W.length ++ (W ++ (dg 5 S ++ r)))).length = W.length + 9 + r.length := by simp [d3, d5]; omega
  have hrl : rl (167 :: (dg 3 W.length ++ (W ++ (dg 5 S ++ r)))) = (W.length, 0) := by
    have := rl_0 (l := 167 :: (dg 3 W.length ++ (W ++ (dg 5 S ++ r)))) rfl (by rw [hdig]; exact dg_lt _ _) (by rw [hlen]; omega) (by rw [hdig, hN3, hlen]; omega)
    rw [this, hdig, hN3]
  have h4 : (167 :: (dg 3 W.length ++ (W ++ (dg 5 S ++ r)))).drop 4 = W ++ (dg 5 S ++ r) := by
    rw [show (4 : Nat) = 3 + 1 by omega, List.drop_succ_cons, List.drop_left' d3]
  have hE : ((167 :: (dg 3 W.length ++ (W ++ (dg 5 S ++ r)))).drop 4).take W.length = W := by rw [h4, List.take_left]
  have hT : ((167 :: (dg 3 W.length ++ (W ++ (dg 5 S ++ r)))).drop (4 + W.length)).take 5 = dg 5 S := by
    rw [← List.drop_drop, h4, List.drop_left, List.take_left' d5]
  have hM : ((167 :: (dg 3 W.length ++ (W ++ (dg 5 S ++ r)))).drop 1).take (3 + W.length) = dg 3 W.length ++ W := by
    rw [List.drop_succ_cons, List.drop_zero, ← List.append_assoc, List.take_left' (by rw [List.length_append, d3])]
  have hO : opF W = some f := by
    have := opF_yes (l := W) (by rw [hbad]) (by rw [hplain, hp]) (by rw [hplain, hp]; exact h)
    rw [this, hplain, hp]
  unfold dcd
  rw [hrl]
  simp only
  rw [hE, hT, hM, if_neg (by simp), if_neg (by rw [nx_none hno]; omega), if_neg (fun q => q ⟨dg_lt _ _, by rw [hS5, hSS]⟩), hO]
  simp only
  rw [hEL]
/-- what is read is what would be written -/
theorem en_dcd {m : List Nat} (hb : Byt m) (h : (dcd m).2.2 = 0) : rf (dcd m).1 = 0 ∧ (dcd m).1.Wf ∧ (dcd m).2.1 = (en (dcd m).1).length ∧ (dcd m).2.1 ≤ m.length ∧ m.take (dcd m).2.1 = en (dcd m).1 := by
  by_cases h1 : (rl m).2 ≠ 0
  · unfold dcd at h; rw [if_pos h1] at h; exact absurd h h1
  · obtain ⟨n, er, hn⟩ : ∃ n er, rl m = (n, er) := ⟨_, _, rfl⟩
    rw [hn] at h1
    simp only at h1
    obtain rfl : er = 0 := by omega
    obtain ⟨r1, r2, r3, r4, r5, r6⟩ := rl_ok hn
    unfold dcd at h ⊢
    rw [hn] at h ⊢
    simp only at h ⊢
    rw [if_neg (by simp)] at h ⊢
    by_cases c1 : nx ((m.drop 4).take n) < n
    · rw [if_pos c1] at h; simp at h
    · rw [if_neg c1] at h ⊢
      by_cases c2 : ¬ ((∀ x ∈ (m.drop (4 + n)).take 5, x < 128) ∧ nm ((m.drop (4 + n)).take 5) = Crc.go 0 ((m.drop 1).take (3 + n)))
      · rw [if_pos c2] at h; simp at h
      · rw [if_neg c2] at h ⊢
        obtain ⟨s1, s2⟩ := Classical.not_not.1 c2
        cases ho : opF ((m.drop 4).take n) with
        | none => rw [ho] at h; simp at h
        | some f =>
          simp only
          unfold opF at ho
          split at ho
          · rename_i c3
            obtain ⟨o1, o2, o3⟩ := c3
            injection ho with ho
            have hpb : Byt (plain ((m.drop 4).take n)) := plain_byt (byt_take (byt_drop hb 4) n)
            obtain ⟨q1, q2⟩ := bd_prs hpb o3 (by rw [o2]) (by rw [o2])
            rw [ho] at o3 q1 q2
            have hW : wr (bd f) = (m.drop 4).take n := by rw [q1]; exact only o1
            have hWl : (wr (bd f)).length = n := by rw [hW, List.length_take, List.length_drop]; omega
            have hD : dg 3 n = dig m := by
              have := dg_nm r2
              rw [dig_len, show min 3 (m.length - 1) = 3 by omega, ← r4] at this
              exact this
            have hT : dg 5 (Crc.go 0 ((m.drop 1).take (3 + n))) = (m.drop (4 + n)).take 5 := by
              have := dg_nm s1
              rw [List.length_take, List.length_drop, show min 5 (m.length - (4 + n)) = 5 by omega, s2] at this
              exact this
            have hmid : dig m ++ (m.drop 4).take n = (m.drop 1).take (3 + n) := by
              unfold dig
              rw [List.take_add, List.drop_drop]
            have hen : en f = 167 :: (dig m ++ ((m.drop 4).take n ++ (m.drop (4 + n)).take 5)) := by
              rw [en_eq, hWl, hW, hD, hmid, hT]
            have htake : m.take (n + 9) = 167 :: (dig m ++ ((m.drop 4).take n ++ (m.drop (4 + n)).take 5)) := by
              have e0 : m.take (n + 9) = m.take 1 ++ ((m.drop 1).take (3 + n) ++ (m.drop (4 + n)).take 5) := by
                rw [show n + 9 = 1 + (3 + n + 5) by omega, List.take_add, List.take_add, List.drop_drop, show 1 + (3 + n) = 4 + n by omega]
              have e1 : m.take 1 = [167] := by
                cases m with
                | nil => simp at r3
                | cons x t => simp at r1; simp [r1]
              rw [e0, e1, ← hmid]
              simp
            refine ⟨o3, q2, ?_, r5, ?_⟩
            · rw [en_len, hWl]
            · rw [htake, hen]
          · cases ho
theorem en_no {f : Fr} {j : Nat} (h1 : 1 ≤ j) (h2 : j < (en f).length) : (en f).getD j 0 ≠ 167 := by
  have key : ∀ x ∈ (en f).drop 1, x ≠ 167 := by
    rw [en_eq]
    intro x hx
    simp only [List.drop_succ_cons, List.drop_zero, List.mem_append] at hx
    rcases hx with hx | hx | hx
    · have := dg_lt _ _ x hx; omega
    · exact wr_no _ x hx
    · have := dg_lt _ _ x hx; omega
  refine key _ ?_
  rw [List.getD_eq_getElem?_getD, List.getElem?_eq_getElem h2, Option.getD_some]
  refine List.mem_iff_getElem.2 ⟨j - 1, by rw [List.length_drop]; omega, ?_⟩
  rw [List.getElem_drop]
  congr 1
  omega
theorem en_head (f : Fr) : (en f).getD 0 0 = 167 := by rw [en_eq]; rfl
theorem dcd_err {m : List Nat} (h : (dcd m).2.2 ≠ 0) : (dcd m).1 = zf ∧ (dcd m).2.1 = 0 := by
  unfold dcd at h ⊢
  by_cases h1 : (rl m).2 ≠ 0
  · rw [if_pos h1]; exact ⟨rfl, rfl⟩
  · rw [if_neg h1] at h ⊢
    by_cases h2 : nx ((m.drop 4).take (rl m).1) < (rl m).1
    · rw [if_pos h2]; exact ⟨rfl, rfl⟩
    · rw [if_neg h2] at h ⊢
      by_cases h3 : ¬ ((∀ x ∈ (m.drop (4 + (rl m).1)).take 5, x < 128) ∧ nm ((m.drop (4 + (rl m).1)).take 5) = Crc.go 0 ((m.drop 1).take (3 + (rl m).1)))
      · rw [if_pos h3]; exact ⟨rfl, rfl⟩
      · rw [if_neg h3] at h ⊢
        cases ho : opF ((m.drop 4).take (rl m).1) with
        | none => exact ⟨rfl, rfl⟩
        | some f => rw [ho] at h; exact absurd rfl h
theorem decF_ok {l : List Nat} {z : Int} (hb : Byt l) (h : (decF l z).2.2 = 0) : ∃ a : Nat, z = (a : Int) ∧ a < l.length ∧ rf (decF l z).1 = 0 ∧ (decF l z).1.Wf ∧ (decF l z).2.1 = (en (decF l z).1).length ∧ a + (decF l z).2.1 ≤ l.length ∧ (l.drop a).take (decF l z).2.1 = en (decF l z).1 := by
  unfold decF at h ⊢
  by_cases h1 : z < 0 ∨ (l.length : Int) ≤ z
  · rw [if_pos h1] at h; simp at h
  · rw [if_neg h1] at h ⊢
    obtain ⟨a, rfl⟩ : ∃ a : Nat, z = (a : Int) := ⟨z.toNat, by omega⟩
    rw [Int.toNat_natCast] at h ⊢
    obtain ⟨e1, e2, e3, e4, e5⟩ := en_dcd (byt_drop hb a) h
    rw [List.length_drop] at e4
    exact ⟨a, rfl, by omega, e1, e2, e3, by omega, e5⟩
theorem en_pos (f : Fr) : 9 ≤ (en f).length := by rw [en_len]; omega
/-- no two frames have a byte in common -/
theorem apart {l : List Nat} {x y : Int} (hb : Byt l) (hx : (decF l x).2.2 = 0) (hy : (decF l y).2.2 = 0) (hne : x < y) : x + ((decF l x).2.1 : Int) ≤ y := by
  obtain ⟨a, rfl, ha, _, _, a3, a4, a5⟩ := decF_ok hb hx
  obtain ⟨b, rfl, hb', _, _, b3, b4, b5⟩ := decF_ok hb hy
  have hab : a < b := by omega
  refine Classical.byContradiction fun hn => ?_
  have hlt : b < a + (decF l (a : Int)).2.1 := by omega
  have h1 : l.getD b 0 = 167 := by
    have e := congrArg (fun q => q.getD 0 0) b5
    rw [en_head] at e
    rw [← e, List.getD_eq_getElem?_getD, List.getD_eq_getElem?_getD, List.getElem?_take, if_pos (by rw [b3]; have := en_pos (decF l (b : Int)).1; omega), List.getElem?_drop, Nat.add_zero]
  have h2 := en_no (f := (decF l (a : Int)).1) (j := b - a) (by omega) (by rw [← a3]; omega)
  have e := congrArg (fun q => q.getD (b - a) 0) a5
  rw [← e, List.getD_eq_getElem?_getD, List.getElem?_take, if_pos (by omega), List.getElem?_drop, show a + (b - a) = b by omega, ← List.getD_eq_getElem?_getD] at h2
  exact h2 h1
end Vt
end Go.Proofs.YtolddolfpnkndaaGreat
