/-
  The law ScanMade: what is laid down by turns is found.
  A REGION THAT DRAWS ITS ORDER, whose operations that turn the world stand one behind the other (a chain): each operation is looked at once, in the worlds in which it may come up. No condition beyond those that each theorem bears.
  THE LAW OF A CHAIN OF MOVERS (Rg) where an edge that binds in no order that is drawn here stands behind its operation.
  A REGION THAT DRAWS ITS ORDER, by an invariant, with operations that their guards pass over. No condition beyond those that the theorem bears.
  A frame behind a region whose operations write neighbouring slots, told at once. No condition beyond those that the theorem bears.
-/
import Derived.Test.YtifjjoobbegpoaaMkav
import Derived.Test.YtifjjoobbegpoaaMkbb
import Derived.Test.YtifjjoobbegpoaaMkap
import Derived.Test.YtifjjoobbegpoaaMkaw
namespace Go.Proofs.Ytifjjoobbegpoaa
open Go.RowKit Go.Shelf
namespace Vt
/-- bytes that were made of junk and frames by turns, and the frames among them -/
def Mk (bs : List Nat) (wn : List Lc) : Prop := Byt bs ∧ (∀ x ∈ wn, isw [1, 2] x = true) ∧ ∀ r, Byt r → locs 0 (bs ++ r) = wn ++ locs bs.length r
theorem Mk.nil : Mk [] [] := ⟨(by intro x hx; cases hx), (by simp), fun r _ => by simp⟩
theorem Mk.junk {bs : List Nat} {wn : List Lc} (h : Mk bs wn) {x : Nat} (hx : x < 256) (h2 : x ≠ 167) : Mk (bs ++ [x]) wn := by
  have hb1 : Byt [x] := by intro y hy; simp at hy; omega
  refine ⟨byt_app h.1 hb1, h.2.1, fun r hr => ?_⟩
  rw [List.append_assoc, h.2.2 ([x] ++ r) (byt_app hb1 hr), locs_junk (j := [x]) (by intro y hy; simp at hy; omega) (byt_app hb1 hr), List.length_append]
theorem Mk.en {bs : List Nat} {wn : List Lc} (h : Mk bs wn) {f : Fr} (hw : f.Wf) (hf : rf f = 0) (hk : f.kind = 1 ∨ f.kind = 2) : Mk (bs ++ en f) (wn ++ [(bs.length, (en f).length, f)]) := by
  have hb1 : Byt (Vt.en f) := en_byt hf
  refine ⟨byt_app h.1 hb1, ?_, fun r hr => ?_⟩
  · intro x hx
    rcases List.mem_append.1 hx with h3 | h3
    · exact h.2.1 x h3
    · simp only [List.mem_singleton] at h3
      subst h3
      unfold isw
      simp only [decide_eq_true_eq]
      rcases hk with e | e <;> simp [e]
  · rw [List.append_assoc, h.2.2 (Vt.en f ++ r) (byt_app hb1 hr), locs_en hw hf (byt_app hb1 hr), List.length_append, List.append_assoc, List.singleton_append]
theorem Mk.locs {bs : List Nat} {wn : List Lc} (h : Mk bs wn) : Vt.locs 0 bs = wn := by
  have := h.2.2 [] (by intro x hx; cases hx)
  rwa [List.append_nil, locs_nil, List.append_nil] at this
theorem Mk.recs {bs : List Nat} {wn : List Lc} (h : Mk bs wn) : Vt.recs [1, 2] bs = wn := by
  unfold Vt.recs
  rw [h.locs]
  exact List.filter_eq_self.2 h.2.1
theorem Mk.len {bs : List Nat} {wn : List Lc} (h : Mk bs wn) : 9 * wn.length ≤ bs.length := by
  have := locs_len h.1 _ (Nat.le_refl _) 0
  rwa [h.locs] at this
theorem ofR_kind {r : Rec} (h : rf (ofR r) = 0) : r.kind = 1 ∨ r.kind = 2 := by
  have hk : (ofR r).kind = r.kind := rfl
  unfold rf at h
  by_cases c : (ofR r).kind = 1 ∨ (ofR r).kind = 2
  · exact c
  · rw [if_neg c] at h
    by_cases c3 : (ofR r).kind = 3
    · rw [if_pos c3] at h
      unfold rfP at h
      rw [if_pos (by show (0 : Int) ≠ 1 ∧ (0 : Int) ≠ 2; decide)] at h
      cases h
    · rw [if_neg c3] at h
      by_cases c4 : (ofR r).kind = 4
      · rw [if_pos c4] at h
        unfold rfE at h
        split at h
        · cases h
        · rw [if_pos (by
            intro e
            have e2 : r = zr := congrArg Fr.r e
            rw [e2] at c4
            have c5 : (0 : Int) = 4 := c4
            omega)] at h
          cases h
      · rw [if_neg c4] at h
        cases h
/-- a slice of records as a parameter -/
def IsRc (w : World) (v : Value) (rs : List Rec) : Prop :=
  (∀ r ∈ rs, r.lsn < 18446744073709551616) ∧ ((rs = [] ∧ ∃ a c, v = .slice a 0 c) ∨ ∃ b off c, v = .slice (some ⟨b, off, none⟩) rs.length c ∧ b < w.heap.size ∧ ∀ i, i < rs.length → ∀ j u, (rv (rs.getD i zr))[j]? = some u → w.cell? ⟨b, off + i * 4 + j, none⟩ = some u)
theorem JK.grownR {k : IntKind} {M : Nat} {E E' : TypeId} {sz' : Nat} {w w' : World} {b1 b2 : Nat} {v u : Value} {l : List Nat} {m : List (List Value)} (h : JK k M E w b1 v l) (hr : JR E' sz' w b2 u m) (hne : E ≠ E') (hg : w.grownBy w' u.ownBlock) : JK k M E w' b1 v l := by
  refine h.grownO hg fun g hgb e => ?_
  obtain ⟨_, _, ⟨rfl, _⟩ | ⟨g1, cap1, cur1, rfl, _, hh1, _⟩⟩ := h
  · cases hgb
  · obtain ⟨_, _, ⟨rfl, _⟩ | ⟨g2, cap2, cur2, rfl, _, hh2, _⟩⟩ := hr
    · cases e
    · cases hgb
      injection e with e
      have e' : g1 = g2 := e
      subst e'
      rw [hh1] at hh2
      injection hh2 with hh2
      injection hh2 with _ hh2
      exact hne hh2
theorem JR.grownK {k : IntKind} {M : Nat} {E E' : TypeId} {sz' : Nat} {w w' : World} {b1 b2 : Nat} {v u : Value} {l : List Nat} {m : List (List Value)} (hr : JR E' sz' w b2 u m) (h : JK k M E w b1 v l) (hne : E ≠ E') (hg : w.grownBy w' v.ownBlock) : JR E' sz' w' b2 u m := by
  refine hr.grownO hg fun g hgb e => ?_
  obtain ⟨_, _, ⟨rfl, _⟩ | ⟨g1, cap1, cur1, rfl, _, hh1, _⟩⟩ := h
  · cases e
  · obtain ⟨_, _, ⟨rfl, _⟩ | ⟨g2, cap2, cur2, rfl, _, hh2, _⟩⟩ := hr
    · cases hgb
    · cases hgb
      injection e with e
      have e' : g2 = g1 := e
      subst e'
      rw [hh1] at hh2
      injection hh2 with hh2
      injection hh2 with _ hh2
      exact hne hh2
theorem eq_lc (x : Lc) (w : World) : (Op.equalIn 10000 43 (.agg (lcv x).toArray) (.agg (lcv x).toArray)).run Try.prog w = .ok true w := by
  unfold lcv
  simp [go_sem, Op.eqFields]
theorem neq_lc (x : Lc) (w : World) : (binOp .neq 43 (.agg (lcv x).toArray) (.agg (lcv x).toArray)).run Try.prog w = .ok (.bool false) w := by
  rw [run_neq_struct, eq_lc]; rfl
end Vt
end Go.Proofs.Ytifjjoobbegpoaa
namespace Go.Proofs.Ytifjjoobbegpoaa
open Go.RowKit Go.Shelf
namespace Vt
end Vt
end Go.Proofs.Ytifjjoobbegpoaa
namespace Go.Proofs.Ytifjjoobbegpoaa
open Go Go.RowKit
/-- operation j must come ahead of operation i -/
def anc (ops : Array Oper) : Nat → Nat → Nat → Bool
  | 0, _, _ => false
  | f + 1, i, j => match ops[i]? with
    | none => false
    | some o => o.after.any fun e => Region.binds .any e && (e.on == j || anc ops f e.on j)
def ClosedL (ops : Array Oper) (L : Array Bool) : Prop := ∀ j p, ops[j]? = some p → L.getD j false = true → ∀ e ∈ p.after, Region.binds .any e = true → L.getD e.on false = true
theorem anc_listed {ops : Array Oper} {L : Array Bool} (hc : ClosedL ops L) : ∀ f i j, L.getD i false = true → anc ops f i j = true → L.getD j false = true := by
  intro f
  induction f with
  | zero => intro i j _ h; cases h
  | succ f ih =>
    intro i j hi h
    unfold anc at h
    split at h
    · cases h
    · rename_i o ho
      rw [Array.any_eq_true'] at h
      obtain ⟨e, he, h⟩ := h
      simp only [Bool.and_eq_true, Bool.or_eq_true, beq_iff_eq] at h
      have hl := hc i o ho hi e he h.1
      rcases h.2 with rfl | h2
      · exact hl
      · exact ih _ _ hl h2
theorem anc_ready {ops : Array Oper} {L : Array Bool} (hc : ClosedL ops L) {i : Nat} {o : Oper} (ho : ops[i]? = some o) (hon : ∀ e ∈ o.after, Region.binds .any e = true → L.getD e.on false = true) (f j : Nat) (h : anc ops f i j = true) : L.getD j false = true := by
  cases f with
  | zero => cases h
  | succ f =>
    unfold anc at h
    rw [ho] at h
    simp only [Array.any_eq_true'] at h
    obtain ⟨e, he, h⟩ := h
    simp only [Bool.and_eq_true, Bool.or_eq_true, beq_iff_eq] at h
    have hl := hon e he h.1
    rcases h.2 with rfl | h2
    · exact hl
    · exact anc_listed hc f _ _ hl h2
theorem set_getD' (L : Array Bool) (i j : Nat) (hi : i < L.size) : (L.setIfInBounds i true).getD j false = if j = i then true else L.getD j false := by
  rw [Array.getD_eq_getD_getElem?, Array.getD_eq_getD_getElem?, Array.getElem?_setIfInBounds]
  by_cases h : j = i
  · subst h; simp [hi]
  · rw [if_neg (by omega), if_neg h]
def dstsGood (ops : Array Oper) (n : Nat) : Bool :=
  (List.range ops.size).all fun i => match dstOf ops i with
    | none => true
    | some d => decide (d < n) && (List.range ops.size).all fun j => decide (i = j) || !(dstOf ops j == some d)
theorem good_spec {ops : Array Oper} {n : Nat} (h : dstsGood ops n = true) {i d : Nat} (hi : i < ops.size) (hd : dstOf ops i = some d) : d < n ∧ ∀ j, j < ops.size → j ≠ i → dstOf ops j ≠ some d := by
  unfold dstsGood at h
  have := List.all_eq_true.1 h i (by simpa using hi)
  rw [hd] at this
  simp only [Bool.and_eq_true, decide_eq_true_eq, List.all_eq_true, List.mem_range, Bool.or_eq_true, Bool.not_eq_eq_eq_not, Bool.not_true, beq_eq_false_iff_ne] at this
  refine ⟨this.1, fun j hj hne => ?_⟩
  rcases this.2 j hj with h' | h'
  · exact absurd h'.symm hne
  · exact h'
/-- the movers: no one twice, each behind all that stand ahead of it in the list -/
def chainOk (ops : Array Oper) (ms : List Nat) : Bool :=
  (List.range ms.length).all fun k => (List.range ms.length).all fun k' => decide (k = k') || (decide (ms.getD k 0 ≠ ms.getD k' 0) && (decide (k < k') || anc ops ops.size (ms.getD k 0) (ms.getD k' 0)))
theorem chain_spec {ops : Array Oper} {ms : List Nat} (h : chainOk ops ms = true) {k k' : Nat} (hk : k < ms.length) (hk' : k' < ms.length) (hne : k ≠ k') : ms.getD k 0 ≠ ms.getD k' 0 ∧ (k' < k → anc ops ops.size (ms.getD k 0) (ms.getD k' 0) = true) := by
  unfold chainOk at h
  have := List.all_eq_true.1 (List.all_eq_true.1 h k (by simpa using hk)) k' (by simpa using hk')
  simp only [Bool.or_eq_true, decide_eq_true_eq, Bool.and_eq_true] at this
  rcases this with h1 | ⟨h1, h2⟩
  · exact absurd h1 hne
  · refine ⟨h1, fun hlt => ?_⟩
    rcases h2 with h2 | h2
    · omega
    · exact h2
/-- s of the movers are listed, the first ones -/
def Stage (ms : List Nat) (L : Array Bool) (s : Nat) : Prop := s ≤ ms.length ∧ ∀ k, k < ms.length → L.getD (ms.getD k 0) false = decide (k < s)
theorem region_chain {P : Program} {id : Nat} {ops : Array Oper} {Q : Exit → Act → World → Prop} {a0 : Act} {w0 : World} (val : Nat → Value) (ms : List Nat) (S : Nat → World)
    (hm : P.follows .mixedOrders = true) (hg : (ops.all fun o => o.guard.isNone) = true) (hdf : dstsGood ops a0.tmps.size = true) (hah : aftersAhead ops = true) (hch : chainOk ops ms = true) (hW0 : S 0 = w0.drew)
    (step : ∀ i o, ops[i]? = some o → ∀ (s : Nat) (a : Act), s ≤ ms.length →
      (∀ k, k < ms.length → anc ops ops.size i (ms.getD k 0) = true → k < s) → (∀ k, k < ms.length → (ms.getD k 0 = i ∨ anc ops ops.size (ms.getD k 0) i = true) → s ≤ k) →
      (∀ k, (∀ j, j < ops.size → dstOf ops j ≠ some k) → a.tmps.getD k undef = a0.tmps.getD k undef) →
      (∀ e ∈ o.after, Region.binds .any e = true → ∀ d, dstOf ops e.on = some d → a.tmps.getD d undef = val e.on) →
      (∀ j d, j < ops.size → (j = i ∨ anc ops ops.size j i = true) → dstOf ops j = some d → a.tmps.getD d undef = a0.tmps.getD d undef) →
      o.wp P a (S s) (fun a' w' => a' = a.put o.dst (val i) ∧ w' = S (if ms.contains i then s + 1 else s)) Q)
    (done : ∀ a, a.defers = a0.defers → a.tmps.size = a0.tmps.size →
      (∀ k, (∀ j, j < ops.size → dstOf ops j ≠ some k) → a.tmps.getD k undef = a0.tmps.getD k undef) →
      (∀ i d, i < ops.size → dstOf ops i = some d → a.tmps.getD d undef = val i) → Q .normal a (S ms.length)) (hlt : ∀ m ∈ ms, m < ops.size) :
    (Code.region id ops true).wp P Q a0 w0 := by
  refine wp_region_any hm ?_
  refine wpAny_inv (fun L a w => L.size = ops.size ∧ ClosedL ops L ∧ (∃ s, Stage ms L s ∧ w = S s) ∧ a.defers = a0.defers ∧ a.tmps.size = a0.tmps.size ∧
      (∀ k, (∀ j, j < ops.size → dstOf ops j ≠ some k) → a.tmps.getD k undef = a0.tmps.getD k undef) ∧
      (∀ i d, i < ops.size → L.getD i false = true → dstOf ops i = some d → a.tmps.getD d undef = val i) ∧
      (∀ j d, j < ops.size → L.getD j false = false → dstOf ops j = some d → a.tmps.getD d undef = a0.tmps.getD d undef)) (fun L a w h => h.1) ?_ ?_ _ _ _ _ ?_ ?_
  · rintro L a w i ⟨h1, hcl, ⟨s, hS, rfl⟩, h3, h4, h5, h6, h7⟩ hi
    obtain ⟨o, ho, hlt', hL, haf⟩ := ready_spec hi
    have hLf : L.getD i false = false := by
      rw [Array.getD_eq_getD_getElem?, Array.getElem?_eq_getElem (by omega)] at hL ⊢
      simpa using hL
    have hon : ∀ e ∈ o.after, Region.binds .any e = true → e.on < ops.size := fun e he hb => by
      have := haf e he hb
      rcases Nat.lt_or_ge e.on ops.size with h' | h'
      · exact h'
      · rw [Array.getD_eq_getD_getElem?, Array.getElem?_eq_none (by omega)] at this; simp at this
    have hun : ∀ j, (j = i ∨ anc ops ops.size j i = true) → L.getD j false = false := by
      intro j hj
      rcases hj with rfl | hj
      · exact hLf
      · cases h : L.getD j false with
        | false => rfl
        | true => rw [anc_listed hcl _ _ _ h hj] at hLf; cases hLf
    have hlo : ∀ k, k < ms.length → anc ops ops.size i (ms.getD k 0) = true → k < s := by
      intro k hk ha
      have := anc_ready hcl ho haf _ _ ha
      rw [hS.2 k hk] at this
      simpa using this
    have hhi : ∀ k, k < ms.length → (ms.getD k 0 = i ∨ anc ops ops.size (ms.getD k 0) i = true) → s ≤ k := by
      intro k hk ha
      have := hun _ ha
      rw [hS.2 k hk] at this
      simpa using this
    have hst := step i o ho s a hS.1 hlo hhi h5 (fun e he hb d hd => h6 e.on d (hon e he hb) (haf e he hb) hd) (fun j d hj ha hd => h7 j d hj (hun j ha) hd)
    have hgo : o.guard = none := by
      rw [Array.all_eq_true] at hg
      have := hg i hlt'
      have ho' : ops[i] = o := by rw [Array.getElem?_eq_getElem hlt'] at ho; injection ho
      rw [ho'] at this
      simpa using this
    unfold wpOp
    rw [ho]
    simp only [wanted_none hgo, if_true]
    refine .inl (Oper.wp_mono ?_ hst)
    rintro a' w' ⟨rfl, rfl⟩
    refine ⟨by rw [Array.size_setIfInBounds]; exact h1, ?_, ⟨_, ?_, rfl⟩, ?_, ?_, ?_, ?_, ?_⟩
    · intro j p hp hj e he hb
      rw [set_getD' _ _ _ (by omega)] at hj ⊢
      by_cases hji : j = i
      · subst hji
        rw [ho] at hp
        injection hp with hp
        subst hp
        rw [haf e he hb]; simp
      · rw [if_neg hji] at hj
        rw [hcl j p hp hj e he hb]; simp
    · by_cases hmi : i ∈ ms
      · obtain ⟨k, hk, hki⟩ := List.getElem_of_mem hmi
        have hkd : ms.getD k 0 = i := by rw [List.getD_eq_getElem?_getD, List.getElem?_eq_getElem hk, Option.getD_some, hki]
        have hs1 := hhi k hk (.inl hkd)
        have hs2 : k ≤ s := by
          cases k with
          | zero => omega
          | succ k =>
            have := hlo k (by omega) (by rw [← hkd]; exact (chain_spec hch hk (by omega) (by omega)).2 (by omega))
            omega
        have hsk : s = k := by omega
        subst hsk
        rw [if_pos (by simpa using hmi)]
        refine ⟨by omega, fun k' hk' => ?_⟩
        rw [set_getD' _ _ _ (by omega)]
        by_cases e : k' = s
        · subst e; rw [if_pos hkd]; simp
        · rw [if_neg (fun q => (chain_spec hch hk' hk e).1 (q.trans hkd.symm)), hS.2 k' hk']
          rw [decide_eq_decide]; omega
      · rw [if_neg (by simpa using hmi)]
        refine ⟨hS.1, fun k' hk' => ?_⟩
        rw [set_getD' _ _ _ (by omega), if_neg (fun q => hmi ?_), hS.2 k' hk']
        rw [← q, List.getD_eq_getElem?_getD, List.getElem?_eq_getElem hk', Option.getD_some]
        exact List.getElem_mem _
    · cases o.dst <;> exact h3
    · cases hod : o.dst with
      | none => exact h4
      | some d => simp only [Act.put, Array.size_setIfInBounds]; exact h4
    · intro k hk
      cases hod : o.dst with
      | none => exact h5 k hk
      | some d =>
        have hdi : dstOf ops i = some d := by simp [dstOf, ho, hod]
        rw [getD_put _ _ _ _ (by have := (good_spec hdf hlt' hdi).1; omega), if_neg (fun e => hk i hlt' (by rw [e]; exact hdi))]
        exact h5 k hk
    · intro j d hj hLj hdj
      rw [set_getD' _ _ _ (by omega)] at hLj
      cases hod : o.dst with
      | none =>
        by_cases hji : j = i
        · subst hji
          have : dstOf ops j = none := by simp [dstOf, ho, hod]
          rw [this] at hdj
          cases hdj
        · rw [if_neg hji] at hLj
          exact h6 j d hj hLj hdj
      | some d' =>
        have hdi : dstOf ops i = some d' := by simp [dstOf, ho, hod]
        have hf := good_spec hdf hlt' hdi
        rw [getD_put _ _ _ _ (by omega)]
        by_cases hji : j = i
        · subst hji
          rw [hdi] at hdj
          injection hdj with hdj
          rw [if_pos hdj.symm]
        · rw [if_neg hji] at hLj
          rw [if_neg (fun e => hf.2 j hj hji (by rw [← e]; exact hdj))]
          exact h6 j d hj hLj hdj
    · intro j d hj hLj hdj
      rw [set_getD' _ _ _ (by omega)] at hLj
      have hji : j ≠ i := by
        rintro rfl
        rw [if_pos rfl] at hLj
        cases hLj
      rw [if_neg hji] at hLj
      cases hod : o.dst with
      | none => exact h7 j d hj hLj hdj
      | some d' =>
        have hdi : dstOf ops i = some d' := by simp [dstOf, ho, hod]
        have hf := good_spec hdf hlt' hdi
        rw [getD_put _ _ _ _ (by omega), if_neg (fun e => hf.2 j hj hji (by rw [← e]; exact hdj))]
        exact h7 j d hj hLj hdj
  · rintro L a w ⟨h1, hcl, ⟨s, hS, rfl⟩, h3, h4, h5, h6, h7⟩ hr
    have hall := all_listed hah h1 hr
    have hs : s = ms.length := by
      refine Nat.le_antisymm hS.1 (Nat.le_of_not_lt fun h => ?_)
      have e := hS.2 s h
      have hmem : ms.getD s 0 ∈ ms := by rw [List.getD_eq_getElem?_getD, List.getElem?_eq_getElem h, Option.getD_some]; exact List.getElem_mem _
      rw [hall _ (hlt _ hmem)] at e
      simp at e
    subst hs
    exact done a h3 h4 h5 fun i d hi hd => h6 i d hi (hall i hi) hd
  · refine ⟨by simp, ?_, ⟨0, ⟨Nat.zero_le _, fun k hk => ?_⟩, hW0.symm⟩, rfl, rfl, fun _ _ => rfl, fun i d hi h => ?_, fun _ _ _ _ _ => rfl⟩
    · intro j p hp hj
      rw [Array.getD_eq_getD_getElem?, Array.getElem?_replicate] at hj
      split at hj <;> simp at hj
    · rw [Array.getD_eq_getD_getElem?, Array.getElem?_replicate]
      split <;> simp
    · rw [Array.getD_eq_getD_getElem?, Array.getElem?_replicate] at h
      simp [hi] at h
  · unfold left
    exact Nat.le_trans (List.countP_le_length) (by simp)
/-- two frames of one length that read alike are one -/
theorem arr_one {x y : Array Value} (hs : x.size = y.size) (h : ∀ k, k < y.size → x.getD k undef = y.getD k undef) : x = y := by
  refine Array.ext hs fun i h1 h2 => ?_
  have := h i h2
  rwa [Array.getD_eq_getD_getElem?, Array.getD_eq_getD_getElem?, Array.getElem?_eq_getElem h1, Array.getElem?_eq_getElem h2] at this
theorem step_c {P : Program} {o : Oper} {a : Act} {w w' : World} {Q : Exit → Act → World → Prop} {v : Value} {X : World} (hX : w' = X) (h : ∀ K : Act → World → Prop, K (a.put o.dst v) w' → o.wp P a w K Q) : o.wp P a w (fun a' w'' => a' = a.put o.dst v ∧ w'' = X) Q := h _ ⟨rfl, hX⟩
end Go.Proofs.Ytifjjoobbegpoaa
namespace Go.Proofs.Ytifjjoobbegpoaa
open Go Go.RowKit
/-- each operation's forerunners that bind stand ahead of it -/
def aftersBound (ops : Array Oper) : Bool := (List.range ops.size).all fun i => ((ops[i]?).map fun o => o.after.all fun e => !Region.binds .any e || decide (e.on < i)).getD true
theorem all_listedB {ops : Array Oper} {L : Array Bool} (h : aftersBound ops = true) (hs : L.size = ops.size) (hr : Region.ready .any ops L = []) : ∀ i, i < ops.size → L.getD i false = true := by
  intro i
  induction i using Nat.strongRecOn with
  | _ i ih =>
    intro hi
    refine Classical.byContradiction fun hn => ?_
    have hL : L.getD i true = false := by
      rw [Array.getD_eq_getD_getElem?, Array.getElem?_eq_getElem (by omega)] at hn ⊢
      simpa using hn
    have ho : ops[i]? = some ops[i] := Array.getElem?_eq_getElem hi
    have hmem : i ∈ Region.ready .any ops L := by
      unfold Region.ready
      refine List.mem_filter.2 ⟨by simpa using hi, ?_⟩
      rw [hL, ho]
      simp only [Option.map_some, Option.getD_some, Bool.not_false, Bool.true_and, Array.all_eq_true']
      intro e he
      by_cases hb : Region.binds .any e = true
      · have hlt : e.on < i := by
          unfold aftersBound at h
          have := List.all_eq_true.1 h i (by simpa using hi)
          rw [ho] at this
          simp only [Option.map_some, Option.getD_some, Array.all_eq_true'] at this
          have := this e he
          rw [hb] at this
          simpa using this
        rw [ih e.on hlt (by omega)]
        simp
      · have hb' : Region.binds .any e = false := by simpa using hb
        rw [hb']
        simp
    rw [hr] at hmem
    simp at hmem
theorem region_chainB {P : Program} {id : Nat} {ops : Array Oper} {Q : Exit → Act → World → Prop} {a0 : Act} {w0 : World} (val : Nat → Value) (ms : List Nat) (S : Nat → World)
    (hm : P.follows .mixedOrders = true) (hg : (ops.all fun o => o.guard.isNone) = true) (hdf : dstsGood ops a0.tmps.size = true) (hah : aftersBound ops = true) (hch : chainOk ops ms = true) (hW0 : S 0 = w0.drew)
    (step : ∀ i o, ops[i]? = some o → ∀ (s : Nat) (a : Act), s ≤ ms.length →
      (∀ k, k < ms.length → anc ops ops.size i (ms.getD k 0) = true → k < s) → (∀ k, k < ms.length → (ms.getD k 0 = i ∨ anc ops ops.size (ms.getD k 0) i = true) → s ≤ k) →
      (∀ k, (∀ j, j < ops.size → dstOf ops j ≠ some k) → a.tmps.getD k undef = a0.tmps.getD k undef) →
      (∀ e ∈ o.after, Region.binds .any e = true → ∀ d, dstOf ops e.on = some d → a.tmps.getD d undef = val e.on) →
      (∀ j d, j < ops.size → (j = i ∨ anc ops ops.size j i = true) → dstOf ops j = some d → a.tmps.getD d undef = a0.tmps.getD d undef) →
      o.wp P a (S s) (fun a' w' => a' = a.put o.dst (val i) ∧ w' = S (if ms.contains i then s + 1 else s)) Q)
    (done : ∀ a, a.defers = a0.defers → a.tmps.size = a0.tmps.size →
      (∀ k, (∀ j, j < ops.size → dstOf ops j ≠ some k) → a.tmps.getD k undef = a0.tmps.getD k undef) →
      (∀ i d, i < ops.size → dstOf ops i = some d → a.tmps.getD d undef = val i) → Q .normal a (S ms.length)) (hlt : ∀ m ∈ ms, m < ops.size) :
    (Code.region id ops true).wp P Q a0 w0 := by
  refine wp_region_any hm ?_
  refine wpAny_inv (fun L a w => L.size = ops.size ∧ ClosedL ops L ∧ (∃ s, Stage ms L s ∧ w = S s) ∧ a.defers = a0.defers ∧ a.tmps.size = a0.tmps.size ∧
      (∀ k, (∀ j, j < ops.size → dstOf ops j ≠ some k) → a.tmps.getD k undef = a0.tmps.getD k undef) ∧
      (∀ i d, i < ops.size → L.getD i false = true → dstOf ops i = some d → a.tmps.getD d undef = val i) ∧
      (∀ j d, j < ops.size → L.getD j false = false → dstOf ops j = some d → a.tmps.getD d undef = a0.tmps.getD d undef)) (fun L a w h => h.1) ?_ ?_ _ _ _ _ ?_ ?_
  · rintro L a w i ⟨h1, hcl, ⟨s, hS, rfl⟩, h3, h4, h5, h6, h7⟩ hi
    obtain ⟨o, ho, hlt', hL, haf⟩ := ready_spec hi
    have hLf : L.getD i false = false := by
      rw [Array.getD_eq_getD_getElem?, Array.getElem?_eq_getElem (by omega)] at hL ⊢
      simpa using hL
    have hon : ∀ e ∈ o.after, Region.binds .any e = true → e.on < ops.size := fun e he hb => by
      have := haf e he hb
      rcases Nat.lt_or_ge e.on ops.size with h' | h'
      · exact h'
      · rw [Array.getD_eq_getD_getElem?, Array.getElem?_eq_none (by omega)] at this; simp at this
    have hun : ∀ j, (j = i ∨ anc ops ops.size j i = true) → L.getD j false = false := by
      intro j hj
      rcases hj with rfl | hj
      · exact hLf
      · cases h : L.getD j false with
        | false => rfl
        | true => rw [anc_listed hcl _ _ _ h hj] at hLf; cases hLf
    have hlo : ∀ k, k < ms.length → anc ops ops.size i (ms.getD k 0) = true → k < s := by
      intro k hk ha
      have := anc_ready hcl ho haf _ _ ha
      rw [hS.2 k hk] at this
      simpa using this
    have hhi : ∀ k, k < ms.length → (ms.getD k 0 = i ∨ anc ops ops.size (ms.getD k 0) i = true) → s ≤ k := by
      intro k hk ha
      have := hun _ ha
      rw [hS.2 k hk] at this
      simpa using this
    have hst := step i o ho s a hS.1 hlo hhi h5 (fun e he hb d hd => h6 e.on d (hon e he hb) (haf e he hb) hd) (fun j d hj ha hd => h7 j d hj (hun j ha) hd)
    have hgo : o.guard = none := by
      rw [Array.all_eq_true] at hg
      have := hg i hlt'
      have ho' : ops[i] = o := by rw [Array.getElem?_eq_getElem hlt'] at ho; injection ho
      rw [ho'] at this
      simpa using this
    unfold wpOp
    rw [ho]
    simp only [wanted_none hgo, if_true]
    refine .inl (Oper.wp_mono ?_ hst)
    rintro a' w' ⟨rfl, rfl⟩
    refine ⟨by rw [Array.size_setIfInBounds]; exact h1, ?_, ⟨_, ?_, rfl⟩, ?_, ?_, ?_, ?_, ?_⟩
    · intro j p hp hj e he hb
      rw [set_getD' _ _ _ (by omega)] at hj ⊢
      by_cases hji : j = i
      · subst hji
        rw [ho] at hp
        injection hp with hp
        subst hp
        rw [haf e he hb]; simp
      · rw [if_neg hji] at hj
        rw [hcl j p hp hj e he hb]; simp
    · by_cases hmi : i ∈ ms
      · obtain ⟨k, hk, hki⟩ := List.getElem_of_mem hmi
        have hkd : ms.getD k 0 = i := by rw [List.getD_eq_getElem?_getD, List.getElem?_eq_getElem hk, Option.getD_some, hki]
        have hs1 := hhi k hk (.inl hkd)
        have hs2 : k ≤ s := by
          cases k with
          | zero => omega
          | succ k =>
            have := hlo k (by omega) (by rw [← hkd]; exact (chain_spec hch hk (by omega) (by omega)).2 (by omega))
            omega
        have hsk : s = k := by omega
        subst hsk
        rw [if_pos (by simpa using hmi)]
        refine ⟨by omega, fun k' hk' => ?_⟩
        rw [set_getD' _ _ _ (by omega)]
        by_cases e : k' = s
        · subst e; rw [if_pos hkd]; simp
        · rw [if_neg (fun q => (chain_spec hch hk' hk e).1 (q.trans hkd.symm)), hS.2 k' hk']
          rw [decide_eq_decide]; omega
      · rw [if_neg (by simpa using hmi)]
        refine ⟨hS.1, fun k' hk' => ?_⟩
        rw [set_getD' _ _ _ (by omega), if_neg (fun q => hmi ?_), hS.2 k' hk']
        rw [← q, List.getD_eq_getElem?_getD, List.getElem?_eq_getElem hk', Option.getD_some]
        exact List.getElem_mem _
    · cases o.dst <;> exact h3
    · cases hod : o.dst with
      | none => exact h4
      | some d => simp only [Act.put, Array.size_setIfInBounds]; exact h4
    · intro k hk
      cases hod : o.dst with
      | none => exact h5 k hk
      | some d =>
        have hdi : dstOf ops i = some d := by simp [dstOf, ho, hod]
        rw [getD_put _ _ _ _ (by have := (good_spec hdf hlt' hdi).1; omega), if_neg (fun e => hk i hlt' (by rw [e]; exact hdi))]
        exact h5 k hk
    · intro j d hj hLj hdj
      rw [set_getD' _ _ _ (by omega)] at hLj
      cases hod : o.dst with
      | none =>
        by_cases hji : j = i
        · subst hji
          have : dstOf ops j = none := by simp [dstOf, ho, hod]
          rw [this] at hdj
          cases hdj
        · rw [if_neg hji] at hLj
          exact h6 j d hj hLj hdj
      | some d' =>
        have hdi : dstOf ops i = some d' := by simp [dstOf, ho, hod]
        have hf := good_spec hdf hlt' hdi
        rw [getD_put _ _ _ _ (by omega)]
        by_cases hji : j = i
        · subst hji
          rw [hdi] at hdj
          injection hdj with hdj
          rw [if_pos hdj.symm]
        · rw [if_neg hji] at hLj
          rw [if_neg (fun e => hf.2 j hj hji (by rw [← e]; exact hdj))]
          exact h6 j d hj hLj hdj
    · intro j d hj hLj hdj
      rw [set_getD' _ _ _ (by omega)] at hLj
      have hji : j ≠ i := by
        rintro rfl
        rw [if_pos rfl] at hLj
        cases hLj
      rw [if_neg hji] at hLj
      cases hod : o.dst with
      | none => exact h7 j d hj hLj hdj
      | some d' =>
        have hdi : dstOf ops i = some d' := by simp [dstOf, ho, hod]
        have hf := good_spec hdf hlt' hdi
        rw [getD_put _ _ _ _ (by omega), if_neg (fun e => hf.2 j hj hji (by rw [← e]; exact hdj))]
        exact h7 j d hj hLj hdj
  · rintro L a w ⟨h1, hcl, ⟨s, hS, rfl⟩, h3, h4, h5, h6, h7⟩ hr
    have hall := all_listedB hah h1 hr
    have hs : s = ms.length := by
      refine Nat.le_antisymm hS.1 (Nat.le_of_not_lt fun h => ?_)
      have e := hS.2 s h
      have hmem : ms.getD s 0 ∈ ms := by rw [List.getD_eq_getElem?_getD, List.getElem?_eq_getElem h, Option.getD_some]; exact List.getElem_mem _
      rw [hall _ (hlt _ hmem)] at e
      simp at e
    subst hs
    exact done a h3 h4 h5 fun i d hi hd => h6 i d hi (hall i hi) hd
  · refine ⟨by simp, ?_, ⟨0, ⟨Nat.zero_le _, fun k hk => ?_⟩, hW0.symm⟩, rfl, rfl, fun _ _ => rfl, fun i d hi h => ?_, fun _ _ _ _ _ => rfl⟩
    · intro j p hp hj
      rw [Array.getD_eq_getD_getElem?, Array.getElem?_replicate] at hj
      split at hj <;> simp at hj
    · rw [Array.getD_eq_getD_getElem?, Array.getElem?_replicate]
      split <;> simp
    · rw [Array.getD_eq_getD_getElem?, Array.getElem?_replicate] at h
      simp [hi] at h
  · unfold left
    exact Nat.le_trans (List.countP_le_length) (by simp)
end Go.Proofs.Ytifjjoobbegpoaa
namespace Go.Proofs.Ytifjjoobbegpoaa
open Go Go.RowKit
theorem skip_good {P : Program} {o : Oper} {a : Act} {w : World} {Q : Exit → Act → World → Prop} {ops : Array Oper} (good : Value → World → Prop) {X : Prop} (hw : Region.wanted o (yielded ops a.tmps) = true)
    (h : ∀ K : Act → World → Prop, (∀ v w', good v w' → K (a.put o.dst v) w') → o.wp P a w K Q) :
    if Region.wanted o (yielded ops a.tmps) then o.wp P a w (fun a' w' => ∃ v, a' = a.put o.dst v ∧ good v w') Q else X := by
  rw [if_pos hw]
  exact h _ (fun v w' hg => ⟨v, rfl, hg⟩)
theorem skip_no {o : Oper} {f : Nat → Option Bool} {A X : Prop} {j : Nat} {b : Bool} (h : o.guard = some (j, !b)) (hf : f j = some b) (hx : X) : if Region.wanted o f then A else X := by
  rw [if_neg]
  · exact hx
  · unfold Region.wanted; rw [h]; simp [hf]
theorem skip_un {o : Oper} {f : Nat → Option Bool} {A X : Prop} {j : Nat} {b : Bool} (h : o.guard = some (j, b)) (hf : f j = none) (hx : X) : if Region.wanted o f then A else X := by
  rw [if_neg]
  · exact hx
  · unfold Region.wanted; rw [h]; simp [hf]
theorem yielded_un {ops : Array Oper} {t : Array Value} {j d : Nat} (hj : dstOf ops j = some d) (hv : t.getD d undef = undef) : yielded ops t j = none := by
  unfold yielded
  unfold dstOf at hj
  rw [hj]
  simp only [Option.bind_some]
  rw [Array.getD_eq_getD_getElem?] at hv
  cases h : t[d]? with
  | none => rfl
  | some v =>
    rw [h] at hv
    simp only [Option.getD_some] at hv
    subst hv
    rfl
/-- region_inv, where an operation may be passed over by its guard: it yields undef then. 'G i v w': what operation i has yielded, v, is good in the world w; it stays so while the world grows ('W', 'stable'); each operation, its forerunners' yields being good, yields something good ('step'). -/
theorem region_skip {P : Program} {id : Nat} {ops : Array Oper} {Q : Exit → Act → World → Prop} {a0 : Act} {w0 : World} (G : Nat → Value → World → Prop) (W : World → Prop)
    (hm : P.follows .mixedOrders = true) (hd : dstsApart ops a0.tmps.size = true) (hah : aftersBound ops = true) (hW0 : W w0.drew)
    (stable : ∀ i v w w', W w → W w' → Below w.heap.size w w' → G i v w → G i v w')
    (step : ∀ i o, ops[i]? = some o → ∀ a w, W w → a.defers = a0.defers → a.tmps.size = a0.tmps.size →
      (∀ k, (∀ j, j < ops.size → dstOf ops j ≠ some k) → a.tmps.getD k undef = a0.tmps.getD k undef) →
      (∀ e ∈ o.after, Region.binds .any e = true → G e.on (slotOf ops a e.on) w) →
      (if Region.wanted o (yielded ops a.tmps) then o.wp P a w (fun a' w' => ∃ v, a' = a.put o.dst v ∧ Below w.heap.size w w' ∧ W w' ∧ G i v w') Q else G i undef w))
    (done : ∀ a w, W w → a.defers = a0.defers → a.tmps.size = a0.tmps.size →
      (∀ k, (∀ j, j < ops.size → dstOf ops j ≠ some k) → a.tmps.getD k undef = a0.tmps.getD k undef) →
      (∀ i, i < ops.size → G i (slotOf ops a i) w) → Q .normal a w) :
    (Code.region id ops true).wp P Q a0 w0 := by
  refine wp_region_any hm ?_
  refine wpAny_inv (fun L a w => L.size = ops.size ∧ W w ∧ a.defers = a0.defers ∧ a.tmps.size = a0.tmps.size ∧
      (∀ k, (∀ j, j < ops.size → dstOf ops j ≠ some k) → a.tmps.getD k undef = a0.tmps.getD k undef) ∧
      (∀ i, i < ops.size → L.getD i false = true → G i (slotOf ops a i) w)) (fun L a w h => h.1) ?_ ?_ _ _ _ _ ?_ ?_
  · rintro L a w i ⟨h1, h2, h3, h4, h5, h6⟩ hi
    obtain ⟨o, ho, hlt, hL, haf⟩ := ready_spec hi
    obtain ⟨d, hdi, hdn, hdj⟩ := dsts_spec hd hlt
    have hod : o.dst = some d := by simpa [dstOf, ho] using hdi
    have hst := step i o ho a w h2 h3 h4 h5 (fun e he hb => h6 e.on (by
      have := haf e he hb
      rcases Nat.lt_or_ge e.on ops.size with h' | h'
      · exact h'
      · rw [Array.getD_eq_getD_getElem?, Array.getElem?_eq_none (by omega)] at this; simp at this) (haf e he hb))
    have fin : ∀ v w', Below w.heap.size w w' → W w' → G i v w' → (L.setIfInBounds i true).size = ops.size ∧ W w' ∧ (a.put o.dst v).defers = a0.defers ∧ (a.put o.dst v).tmps.size = a0.tmps.size ∧
        (∀ k, (∀ j, j < ops.size → dstOf ops j ≠ some k) → (a.put o.dst v).tmps.getD k undef = a0.tmps.getD k undef) ∧
        (∀ j, j < ops.size → (L.setIfInBounds i true).getD j false = true → G j (slotOf ops (a.put o.dst v) j) w') := by
      intro v w' hb hW' hG
      have hda : d < a.tmps.size := by omega
      rw [hod]
      refine ⟨by rw [Array.size_setIfInBounds]; exact h1, hW', by simp only [Act.put]; exact h3, by simp only [Act.put, Array.size_setIfInBounds]; exact h4, ?_, ?_⟩
      · intro k hk
        rw [getD_put _ _ _ _ hda, if_neg (fun e => hk i hlt (by rw [e]; exact hdi))]
        exact h5 k hk
      · intro j hj hLj
        by_cases e : j = i
        · subst e
          unfold slotOf
          rw [hdi, Option.getD_some, getD_put _ _ _ _ hda, if_pos rfl]
          exact hG
        · obtain ⟨dj, hdj1, hdj2, hdj3⟩ := dsts_spec hd hj
          have hne : dj ≠ d := fun e2 => hdj j hj e (by rw [← e2]; exact hdj1)
          unfold slotOf
          rw [hdj1, Option.getD_some, getD_put _ _ _ _ hda, if_neg hne]
          have hLj' : L.getD j false = true := by
            rw [Array.getD_eq_getD_getElem?, Array.getElem?_setIfInBounds_ne (by omega)] at hLj
            rw [Array.getD_eq_getD_getElem?]; exact hLj
          have := h6 j hj hLj'
          unfold slotOf at this
          rw [hdj1, Option.getD_some] at this
          exact stable j _ w w' h2 hW' hb this
    unfold wpOp
    rw [ho]
    split at hst
    · rename_i hw
      simp only [hw, if_true]
      refine .inl (Oper.wp_mono ?_ hst)
      rintro a' w' ⟨v, rfl, hb, hW', hG⟩
      exact fin v w' hb hW' hG
    · rename_i hw
      simp only [hw]
      exact fin undef w (Below.refl _ _) h2 hst
  · rintro L a w ⟨h1, h2, h3, h4, h5, h6⟩ hr
    exact done a w h2 h3 h4 h5 fun i hi => h6 i hi (all_listedB hah h1 hr i hi)
  · refine ⟨by simp, hW0, rfl, rfl, fun _ _ => rfl, fun i hi h => ?_⟩
    rw [Array.getD_eq_getD_getElem?, Array.getElem?_replicate] at h
    simp [hi] at h
  · unfold left
    exact Nat.le_trans (List.countP_le_length) (by simp)
end Go.Proofs.Ytifjjoobbegpoaa
namespace Go.Proofs.Ytifjjoobbegpoaa
open Go Go.RowKit
/-- all that the region writes lies from lo on, below hi -/
def dstsIn (ops : Array Oper) (lo hi : Nat) : Bool := (List.range ops.size).all fun j => match dstOf ops j with
  | none => true
  | some d => decide (lo ≤ d) && decide (d < hi)
theorem dstsIn_spec {ops : Array Oper} {lo hi k : Nat} (h : dstsIn ops lo hi = true) (hk : k < lo ∨ hi ≤ k) : ∀ j, j < ops.size → dstOf ops j ≠ some k := by
  intro j hj e
  have := List.all_eq_true.1 h j (by simpa using hj)
  rw [e] at this
  simp only [Bool.and_eq_true, decide_eq_true_eq] at this
  omega
theorem tmps_of {ops : Array Oper} {t t0 : Array Value} {lo : Nat} {vs : List Value} (hs : t.size = t0.size) (hd : dstsIn ops lo (lo + vs.length) = true) (hlo : lo + vs.length ≤ t0.size)
    (hout : ∀ k, (∀ j, j < ops.size → dstOf ops j ≠ some k) → t.getD k undef = t0.getD k undef) (hin : ∀ i, i < vs.length → t.getD (lo + i) undef = vs.getD i undef) :
    t = (t0.toList.take lo ++ (vs ++ t0.toList.drop (lo + vs.length))).toArray := by
  have hl0 : t0.toList.length = t0.size := Array.length_toList
  refine arr_one (by simp only [List.size_toArray, List.length_append, List.length_take, List.length_drop, hl0]; omega) fun k hk => ?_
  have e : ∀ X : List Value, X.toArray.getD k undef = X[k]?.getD undef := fun X => by rw [Array.getD_eq_getD_getElem?]; simp
  refine Eq.trans ?_ (e _).symm
  rw [Array.getD_eq_getD_getElem?]
  clear e
  by_cases h1 : k < lo
  · have := hout k (dstsIn_spec hd (.inl h1))
    rw [Array.getD_eq_getD_getElem?, Array.getD_eq_getD_getElem?] at this
    rw [this, List.getElem?_append_left (by rw [List.length_take, hl0]; omega), List.getElem?_take_of_lt h1, Array.getElem?_toList]
  · rw [List.getElem?_append_right (by rw [List.length_take, hl0]; omega), List.length_take, hl0, Nat.min_eq_left (by omega)]
    by_cases h2 : k < lo + vs.length
    · have := hin (k - lo) (by omega)
      rw [Array.getD_eq_getD_getElem?, List.getD_eq_getElem?_getD, show lo + (k - lo) = k by omega] at this
      rw [this, List.getElem?_append_left (by omega)]
    · have := hout k (dstsIn_spec hd (.inr (by omega)))
      rw [Array.getD_eq_getD_getElem?, Array.getD_eq_getD_getElem?] at this
      rw [this, List.getElem?_append_right (by omega), List.getElem?_drop, Array.getElem?_toList]
      congr 2
      omega
end Go.Proofs.Ytifjjoobbegpoaa
