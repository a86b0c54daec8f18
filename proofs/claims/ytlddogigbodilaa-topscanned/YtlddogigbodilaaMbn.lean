/-
  ScanClean's walk: what is clean stays.
  A HINT FILE READ BY THE DOCUMENT's ROAD, plainly: all frames but the last are pointers one behind the other, the last is the ending; against ldS, which says what the program reads.
  A REGION THAT DRAWS ITS ORDER, whose last operation comes behind all others and alone turns the world, in whatever way (a call). No condition beyond those that each theorem bears.
-/
import Derived.Test.YtlddogigbodilaaMas
import Derived.Test.YtlddogigbodilaaMau
import Derived.Test.YtlddogigbodilaaMbj
import Derived.Test.YtlddogigbodilaaMbm
import Derived.Test.YtlddogigbodilaaMav
import Derived.Test.YtlddogigbodilaaMbg
namespace Go.Proofs.Ytlddogigbodilaa
open Go.ChangeShapes Go.WideShapes Go.ChangeAt Go.RowKit Go.Shelf
namespace Vt
attribute [local go_sem] Oper.semAt_some
theorem plf_frames (fs : List Fr) : ∀ p, (plf p fs).map (fun x => x.2.2) = fs := by
  induction fs with
  | nil => intro p; rfl
  | cons f q ih => intro p; simp only [plf, List.map_cons]; rw [ih]
theorem fex_clean (fs : List Fr) : ∀ p, ∀ x ∈ fex p fs, x.1 = false := by
  induction fs with
  | nil => intro p x hx; cases hx
  | cons f q ih =>
    intro p x hx
    simp only [fex, List.mem_cons] at hx
    rcases hx with rfl | hx
    · rfl
    · exact ih _ _ hx
/-- what Clean leaves, plainly -/
theorem clean_plain {l : List Nat} (hb : Byt l) : Byt (cln l (locs 0 l)) ∧ (locs 0 (cln l (locs 0 l))).map (fun x => x.2.2) = (locs 0 l).map (fun x => x.2.2) ∧ (∀ x ∈ exts (cln l (locs 0 l)), x.1 = false) ∧ cln (cln l (locs 0 l)) (locs 0 (cln l (locs 0 l))) = cln l (locs 0 l) := by
  obtain ⟨fs, h1, h2, h3⟩ := cln_all hb
  rw [h1]
  have hby := ens_byt h2
  have hlo : locs 0 (ens fs) = plf 0 fs := by
    have := locs_ens h2 (r := []) byt_nil 0
    rwa [List.append_nil, locs_nil, List.append_nil] at this
  refine ⟨hby, by rw [hlo, plf_frames, h3], by rw [exts_ens h2]; exact fex_clean fs 0, ?_⟩
  obtain ⟨gs, k1, k2, k3⟩ := cln_all hby
  rw [k1, k3, hlo, plf_frames]
abbrev JFr := JR 41 14
theorem info_fr : (Try.prog.info? 41).map (fun i => (i.zero, i.size, i.bytes)) = some (some (.agg #[.int .i64 0, .int .u64 0, .int .i64 0, .string ⟨#[]⟩, .string ⟨#[]⟩, .int .u64 0, .int .i64 0, .int .i64 0, .int .i64 0, .string ⟨#[]⟩, .int .i64 0, .int .i64 0, .int .i64 0, .int .u32 0]), 14, 136) := by kernel_rfl
theorem frv_one (f : Fr) : ∀ u ∈ frv f, u.oneCell' = true := by
  intro u hu
  simp only [frv, List.mem_cons, List.mem_nil_iff, or_false] at hu
  rcases hu with rfl | rfl | rfl | rfl | rfl | rfl | rfl | rfl | rfl | rfl | rfl | rfl | rfl | rfl <;> rfl
theorem blkQ_kept {W W' : World} {row : Option Nat} {O : Nat} {t : TypeId} {cs : List Value} (h : Blk W O t cs) (hg : W.grownBy W' row) (hr : ∀ r, row = some r → ∃ o : Obj, W.heap[r]? = some o ∧ o.isCells = false) : Blk W' O t cs := by
  refine h.grown hg (fun e => ?_)
  obtain ⟨o, ho, hc⟩ := hr O e.symm
  have h2 : W.heap[O]? = _ := h
  rw [h2] at ho
  injection ho with ho
  rw [← ho] at hc
  cases hc
theorem jr_turned {E : TypeId} {sz B base : Nat} {X : Nat → Prop} {V V' : World} {v : Value} {ls : List (List Value)} (h : JR E sz V base v ls) (ht : Turned X B V V') (hX : ∀ g, v.ownBlock = some g → ¬ X g) : JR E sz V' base v ls := by
  obtain ⟨h1, h0, ⟨rfl, e⟩ | ⟨g', cap', cur, rfl, hbs, hh, hr⟩⟩ := h
  · exact ⟨h1, h0, .inl ⟨rfl, e⟩⟩
  · exact ⟨h1, h0, .inr ⟨g', cap', cur, rfl, hbs, ht.block g' _ hh (hX g' rfl) (.inl rfl), hr⟩⟩
theorem frv_inj {f g : Fr} (h : frv f = frv g) : f = g := by
  obtain ⟨k, ⟨rl, rk, rkey, rval⟩, ⟨pl, pk, pa, pn, pkey⟩, ⟨ec, eb, ef, es⟩⟩ := f
  obtain ⟨k0, ⟨rl0, rk0, rkey0, rval0⟩, ⟨pl0, pk0, pa0, pn0, pkey0⟩, ⟨ec0, eb0, ef0, es0⟩⟩ := g
  simp only [frv, List.cons.injEq, Value.int.injEq, Value.string.injEq, true_and, and_true, Int.natCast_inj] at h
  obtain ⟨h1, h2, h3, h4, h5, h6, h7, h8, h9, h10, h11, h12, h13, h14⟩ := h
  subst h1 h2 h3 h4 h5 h6 h7 h8 h9 h10 h11 h12 h13 h14
  rfl
theorem ko_drewN (U : World) (nn : Nat) : KeepsOthers U (U.drewN nn) := ⟨Nat.le_refl _, fun _ _ h _ => h⟩
/-- between two rounds of the second range -/
def ClJ (P : Nat) (V1 : World) (L : List (List Value)) {B : Nat} (pre : List (PL B)) (X : Nat → Prop) (U : World) : Prop :=
  Boxed U P 3 (.int .i64 (pre.length : Int)) ∧ pre.map (fun x => frv x.1.2.2) <+: L ∧ Below P V1 U ∧ P + 1 ≤ U.heap.size ∧ (∀ k, X k → P + 1 ≤ k)
theorem clJ_abides {P : Nat} {V1 : World} {L : List (List Value)} (hs : V1.heap.size = P + 1) {B : Nat} : AbidesX (P + 1) (ClJ P V1 L (B := B)) := by
  rintro s X X' V V' ⟨h0, h1, h2, h3, h4⟩ ht hX
  refine ⟨boxed_turned h0 ht (fun x => by have := h4 _ x; omega), h1, below_turned h2 (by omega) ht (by omega) (fun k hk => by have := h4 k hk; omega), Nat.le_trans h3 ht.size, fun k hk => ?_⟩
  rcases hX k hk with h | h
  · exact h4 k h
  · omega
theorem pre_snoc_yes {α : Type} {A L : List α} {x : α} (h : A <+: L) (hx : L[A.length]? = some x) : A ++ [x] <+: L := by
  obtain ⟨r, rfl⟩ := h
  rw [List.getElem?_append_right (Nat.le_refl _), Nat.sub_self] at hx
  cases r with
  | nil => simp at hx
  | cons y r =>
    simp at hx
    subst hx
    exact ⟨r, by simp⟩
theorem pre_snoc_no {α : Type} {A L : List α} {x : α} (hx : L[A.length]? ≠ some x) : ¬ A ++ [x] <+: L := by
  rintro ⟨r, rfl⟩
  apply hx
  simp
end Vt
end Go.Proofs.Ytlddogigbodilaa
namespace Go.Proofs.Ytlddogigbodilaa
open Go.RowKit
namespace Vt
/-- the state behind some pointers: none has ended it -/
def onw (ps : List Ptr) (n : Int) : St := ⟨ps, ze, false, n⟩
theorem onw_step {ps : List Ptr} {n : Int} {f : Fr} (h3 : f.kind = 3) (hn : f.p.at_ = n) : stp (onw ps n) f = some (onw (ps ++ [f.p]) (n + f.p.len)) := by
  unfold stp onw
  simp [h3, hn]
theorem sts_two (s : Option St) (A : List Lc) (x y : Lc) : sts s (A ++ [x, y]) = ((sts s A).bind fun s => stp s x.2.2).bind fun s => stp s y.2.2 := by
  rw [show A ++ [x, y] = (A ++ [x]) ++ [y] by simp, sts_snoc, sts_snoc]
/-- a frame in the midst that is no pointer, or does not go on where the one ahead ended: no hint file -/
theorem ldS_mid {l : List Nat} {A B : List Lc} {x y : Lc} {ps : List Ptr} {n : Int} (hl : locs 0 l = A ++ x :: y :: B) (hs : sts (some st0) A = some (onw ps n)) (hx : ¬ (x.2.2.kind = 3 ∧ x.2.2.p.at_ = n)) : ldS l = none := by
  have h2 : sts (some st0) (A ++ [x, y]) = none := by
    rw [sts_two, hs, Option.bind_some]
    by_cases h4 : x.2.2.kind = 4
    · have e : stp (onw ps n) x.2.2 = some ⟨ps, x.2.2.e, true, n⟩ := by unfold stp onw; simp [h4]
      rw [e, Option.bind_some]
      unfold stp
      rw [if_pos rfl]
    · have e : stp (onw ps n) x.2.2 = none := by
        unfold stp onw
        rw [if_neg (by simp), if_neg h4, if_neg hx]
      rw [e]
      rfl
  have h3 : sts (some st0) (locs 0 l) = none := sts_pre h2 ⟨B, by rw [hl]; simp⟩
  unfold ldS
  split
  · rw [h3]; rfl
  · rfl
/-- the last frame is no ending: no hint file -/
theorem ldS_last_no {l : List Nat} {A : List Lc} {y : Lc} {ps : List Ptr} {n : Int} (hl : locs 0 l = A ++ [y]) (hs : sts (some st0) A = some (onw ps n)) (hy : y.2.2.kind ≠ 4) : ldS l = none := by
  unfold ldS
  split
  · rw [hl, sts_snoc, hs, Option.bind_some]
    by_cases h3 : y.2.2.kind = 3 ∧ y.2.2.p.at_ = n
    · rw [onw_step h3.1 h3.2, Option.bind_some, if_neg (fun h => by have := h.1; cases this)]
    · have e : stp (onw ps n) y.2.2 = none := by
        unfold stp onw
        rw [if_neg (by simp), if_neg hy, if_neg h3]
      rw [e]
      rfl
  · rfl
/-- the last frame is an ending: it must count what is ahead of it -/
theorem ldS_last {l : List Nat} {A : List Lc} {y : Lc} {ps : List Ptr} {n : Int} (hc : Cl l) (hl : locs 0 l = A ++ [y]) (hs : sts (some st0) A = some (onw ps n)) (hy : y.2.2.kind = 4) :
    (good ⟨ps, y.2.2.e, true, n⟩ → ldS l = some ⟨ps, y.2.2.e, true, n⟩) ∧ (¬ good ⟨ps, y.2.2.e, true, n⟩ → ldS l = none) := by
  have e : stp (onw ps n) y.2.2 = some ⟨ps, y.2.2.e, true, n⟩ := by unfold stp onw; simp [hy]
  have h : sts (some st0) (locs 0 l) = some ⟨ps, y.2.2.e, true, n⟩ := by rw [hl, sts_snoc, hs, Option.bind_some, e]
  unfold ldS
  rw [if_pos hc, h, Option.bind_some]
  exact ⟨fun g => by rw [if_pos g], fun g => by rw [if_neg g]⟩
theorem ldS_dirt {l : List Nat} (hc : ¬ Cl l) : ldS l = none := by unfold ldS; rw [if_neg hc]
/-- no frame at all: no hint file -/
theorem ldS_empty {l : List Nat} (hl : locs 0 l = []) : ldS l = none := by
  unfold ldS
  split
  · have h : sts (some st0) [] = some st0 := rfl
    rw [hl, h, Option.bind_some, if_neg (fun h => by have := h.1; cases this)]
  · rfl
end Vt
end Go.Proofs.Ytlddogigbodilaa
namespace Go.Proofs.Ytlddogigbodilaa
open Go Go.RowKit
def lastOk (ops : Array Oper) (L : Nat) : Bool := decide (L < ops.size) && (List.range ops.size).all fun j => decide (j = L) || anc ops ops.size L j
theorem last_spec {ops : Array Oper} {L : Nat} (h : lastOk ops L = true) : L < ops.size ∧ ∀ j, j < ops.size → j ≠ L → anc ops ops.size L j = true := by
  unfold lastOk at h
  simp only [Bool.and_eq_true, decide_eq_true_eq, List.all_eq_true, List.mem_range, Bool.or_eq_true] at h
  exact ⟨h.1, fun j hj hne => (h.2 j hj).elim (fun e => absurd e hne) id⟩
theorem region_end {P : Program} {id : Nat} {ops : Array Oper} {Q : Exit → Act → World → Prop} {a0 : Act} {w0 : World} (val : Nat → Value) (E : Nat)
    (hm : P.follows .mixedOrders = true) (hg : (ops.all fun o => o.guard.isNone) = true) (hdf : dstsGood ops a0.tmps.size = true) (hah : aftersAhead ops = true) (hE : lastOk ops E = true)
    (step : ∀ i o, i ≠ E → ops[i]? = some o → ∀ (a : Act),
      (∀ k, (∀ j, j < ops.size → dstOf ops j ≠ some k) → a.tmps.getD k undef = a0.tmps.getD k undef) →
      (∀ e ∈ o.after, Region.binds .any e = true → ∀ d, dstOf ops e.on = some d → a.tmps.getD d undef = val e.on) →
      o.wp P a w0.drew (fun a' w' => a' = a.put o.dst (val i) ∧ w' = w0.drew) Q)
    (last : ∀ o, ops[E]? = some o → ∀ a, a.defers = a0.defers → a.tmps.size = a0.tmps.size →
      (∀ k, (∀ j, j < ops.size → dstOf ops j ≠ some k) → a.tmps.getD k undef = a0.tmps.getD k undef) →
      (∀ i d, i < ops.size → i ≠ E → dstOf ops i = some d → a.tmps.getD d undef = val i) →
      (∀ d, dstOf ops E = some d → a.tmps.getD d undef = a0.tmps.getD d undef) → o.wp P a w0.drew (fun a' w' => Q .normal a' w') Q) :
    (Code.region id ops true).wp P Q a0 w0 := by
  obtain ⟨hElt, hEanc⟩ := last_spec hE
  refine wp_region_any hm ?_
  refine wpAny_inv (fun L a w => L.size = ops.size ∧ ((L.getD E false = false ∧ ClosedL ops L ∧ w = w0.drew ∧ a.defers = a0.defers ∧ a.tmps.size = a0.tmps.size ∧
      (∀ k, (∀ j, j < ops.size → dstOf ops j ≠ some k) → a.tmps.getD k undef = a0.tmps.getD k undef) ∧
      (∀ i d, i < ops.size → L.getD i false = true → dstOf ops i = some d → a.tmps.getD d undef = val i) ∧
      (∀ d, dstOf ops E = some d → a.tmps.getD d undef = a0.tmps.getD d undef)) ∨ ((∀ j, j < ops.size → L.getD j false = true) ∧ Q .normal a w))) (fun L a w h => h.1) ?_ ?_ _ _ _ _ ?_ ?_
  · rintro L a w i ⟨h1, ⟨hE0, hcl, rfl, h3, h4, h5, h6, h7⟩ | ⟨hall, _⟩⟩ hi
    · obtain ⟨o, ho, hlt', hL, haf⟩ := ready_spec hi
      have hLf : L.getD i false = false := by
        rw [Array.getD_eq_getD_getElem?, Array.getElem?_eq_getElem (by omega)] at hL ⊢
        simpa using hL
      have hon : ∀ e ∈ o.after, Region.binds .any e = true → e.on < ops.size := fun e he hb => by
        have := haf e he hb
        rcases Nat.lt_or_ge e.on ops.size with h' | h'
        · exact h'
        · rw [Array.getD_eq_getD_getElem?, Array.getElem?_eq_none (by omega)] at this; simp at this
      have hgo : o.guard = none := by
        rw [Array.all_eq_true] at hg
        have := hg i hlt'
        have ho' : ops[i] = o := by rw [Array.getElem?_eq_getElem hlt'] at ho; injection ho
        rw [ho'] at this
        simpa using this
      unfold wpOp
      rw [ho]
      simp only [wanted_none hgo, if_true]
      by_cases hiE : i = E
      · subst hiE
        have hlist : ∀ j, j < ops.size → j ≠ i → L.getD j false = true := fun j hj hne => anc_ready hcl ho haf _ _ (hEanc j hj hne)
        refine .inl (Oper.wp_mono ?_ (last o ho a h3 h4 h5 (fun k d hk hne hd => h6 k d hk (hlist k hk hne) hd) h7))
        intro a' w' hq
        refine ⟨by rw [Array.size_setIfInBounds]; exact h1, .inr ⟨fun j hj => ?_, hq⟩⟩
        rw [set_getD' _ _ _ (by omega)]
        by_cases e : j = i
        · rw [if_pos e]
        · rw [if_neg e]; exact hlist j hj e
      · refine .inl (Oper.wp_mono ?_ (step i o hiE ho a h5 (fun e he hb d hd => h6 e.on d (hon e he hb) (haf e he hb) hd)))
        rintro a' w' ⟨rfl, rfl⟩
        refine ⟨by rw [Array.size_setIfInBounds]; exact h1, .inl ⟨?_, ?_, rfl, ?_, ?_, ?_, ?_, ?_⟩⟩
        · rw [set_getD' _ _ _ (by omega), if_neg (fun e => hiE e.symm)]; exact hE0
        · intro j p hp hj e he hb
          rw [set_getD' _ _ _ (by omega)] at hj ⊢
          by_cases hji : j = i
          · subst hji
            rw [ho] at hp
            injection hp with hp
            subst hp
            rw [haf e he hb]; simp
          · rw [if_neg hji] at hj
            rw [hcl j p hp hj e he hb]; simp
        · cases o.dst <;> exact h3
        · cases hod : o.dst with
          | none => exact h4
          | some d => simp only [Act.put, Array.size_setIfInBounds]; exact h4
        · intro k hk
          cases hod : o.dst with
          | none => exact h5 k hk
          | some d =>
            have hdi : dstOf ops i = some d := by simp [dstOf, ho, hod]
            rw [getD_put _ _ _ _ (by have := (good_spec hdf hlt' hdi).1; omega), if_neg (fun e => hk i hlt' (by rw [e]; exact hdi))]
            exact h5 k hk
        · intro j d hj hLj hdj
          rw [set_getD' _ _ _ (by omega)] at hLj
          cases hod : o.dst with
          | none =>
            by_cases hji : j = i
            · subst hji
              have : dstOf ops j = none := by simp [dstOf, ho, hod]
              rw [this] at hdj
              cases hdj
            · rw [if_neg hji] at hLj
              exact h6 j d hj hLj hdj
          | some d' =>
            have hdi : dstOf ops i = some d' := by simp [dstOf, ho, hod]
            have hf := good_spec hdf hlt' hdi
            rw [getD_put _ _ _ _ (by omega)]
            by_cases hji : j = i
            · subst hji
              rw [hdi] at hdj
              injection hdj with hdj
              rw [if_pos hdj.symm]
            · rw [if_neg hji] at hLj
              rw [if_neg (fun e => hf.2 j hj hji (by rw [← e]; exact hdj))]
              exact h6 j d hj hLj hdj
        · intro d hdj
          cases hod : o.dst with
          | none => exact h7 d hdj
          | some d' =>
            have hdi : dstOf ops i = some d' := by simp [dstOf, ho, hod]
            have hf := good_spec hdf hlt' hdi
            rw [getD_put _ _ _ _ (by omega), if_neg (fun e => hf.2 E hElt (fun q => hiE q.symm) (by rw [← e]; exact hdj))]
            exact h7 d hdj
    · exfalso
      obtain ⟨o, ho, hlt', hL, haf⟩ := ready_spec hi
      have := hall i hlt'
      rw [Array.getD_eq_getD_getElem?, Array.getElem?_eq_getElem (by omega)] at hL this
      simp at hL this
      rw [hL] at this
      cases this
  · rintro L a w ⟨h1, ⟨hE0, _⟩ | ⟨_, hq⟩⟩ hr
    · have hall := all_listed hah h1 hr
      rw [hall E hElt] at hE0
      cases hE0
    · exact hq
  · refine ⟨by simp, .inl ⟨?_, ?_, rfl, rfl, rfl, fun _ _ => rfl, fun i d hi h => ?_, fun _ _ => rfl⟩⟩
    · rw [Array.getD_eq_getD_getElem?, Array.getElem?_replicate]
      split <;> simp
    · intro j p hp hj
      rw [Array.getD_eq_getD_getElem?, Array.getElem?_replicate] at hj
      split at hj <;> simp at hj
    · rw [Array.getD_eq_getD_getElem?, Array.getElem?_replicate] at h
      simp [hi] at h
  · unfold left
    exact Nat.le_trans (List.countP_le_length) (by simp)
end Go.Proofs.Ytlddogigbodilaa
