/-
  ScanClean's walk: what is clean stays.
  A frame behind a region whose operations write neighbouring slots, told at once. No condition beyond those that the theorem bears.
-/
import Derived.Test.YtlddogigbodilaaNbl
import Derived.Test.YtlddogigbodilaaNbp
import Derived.Test.YtlddogigbodilaaNbx
import Derived.Test.YtlddogigbodilaaNby
namespace Go.Proofs.Ytlddogigbodilaa
open Go.ChangeShapes Go.WideShapes Go.ChangeAt Go.RowKit Go.Shelf
namespace Vt
attribute [local go_sem] Oper.semAt_some
theorem plf_frames (fs : List Fr) : ∀ p, (plf p fs).map (fun x => x.2.2) = fs := by
  induction fs with
  | nil => intro p; rfl
  | cons f q ih => intro p; simp only [plf, List.map_cons]; rw [ih]
theorem fex_clean (fs : List Fr) : ∀ p, ∀ x ∈ fex p fs, x.1 = false := by
  induction fs with
  | nil => intro p x hx; cases hx
  | cons f q ih =>
    intro p x hx
    simp only [fex, List.mem_cons] at hx
    rcases hx with rfl | hx
    · rfl
    · exact ih _ _ hx
/-- what Clean leaves, plainly -/
theorem clean_plain {l : List Nat} (hb : Byt l) : Byt (cln l (locs 0 l)) ∧ (locs 0 (cln l (locs 0 l))).map (fun x => x.2.2) = (locs 0 l).map (fun x => x.2.2) ∧ (∀ x ∈ exts (cln l (locs 0 l)), x.1 = false) ∧ cln (cln l (locs 0 l)) (locs 0 (cln l (locs 0 l))) = cln l (locs 0 l) := by
  obtain ⟨fs, h1, h2, h3⟩ := cln_all hb
  rw [h1]
  have hby := ens_byt h2
  have hlo : locs 0 (ens fs) = plf 0 fs := by
    have := locs_ens h2 (r := []) byt_nil 0
    rwa [List.append_nil, locs_nil, List.append_nil] at this
  refine ⟨hby, by rw [hlo, plf_frames, h3], by rw [exts_ens h2]; exact fex_clean fs 0, ?_⟩
  obtain ⟨gs, k1, k2, k3⟩ := cln_all hby
  rw [k1, k3, hlo, plf_frames]
abbrev JFr := JR 41 14
theorem info_fr : (Try.prog.info? 41).map (fun i => (i.zero, i.size, i.bytes)) = some (some (.agg #[.int .i64 0, .int .u64 0, .int .i64 0, .string ⟨#[]⟩, .string ⟨#[]⟩, .int .u64 0, .int .i64 0, .int .i64 0, .int .i64 0, .string ⟨#[]⟩, .int .i64 0, .int .i64 0, .int .i64 0, .int .u32 0]), 14, 136) := by kernel_rfl
theorem frv_one (f : Fr) : ∀ u ∈ frv f, u.oneCell' = true := by
  intro u hu
  simp only [frv, List.mem_cons, List.mem_nil_iff, or_false] at hu
  rcases hu with rfl | rfl | rfl | rfl | rfl | rfl | rfl | rfl | rfl | rfl | rfl | rfl | rfl | rfl <;> rfl
theorem blkQ_kept {W W' : World} {row : Option Nat} {O : Nat} {t : TypeId} {cs : List Value} (h : Blk W O t cs) (hg : W.grownBy W' row) (hr : ∀ r, row = some r → ∃ o : Obj, W.heap[r]? = some o ∧ o.isCells = false) : Blk W' O t cs := by
  refine h.grown hg (fun e => ?_)
  obtain ⟨o, ho, hc⟩ := hr O e.symm
  have h2 : W.heap[O]? = _ := h
  rw [h2] at ho
  injection ho with ho
  rw [← ho] at hc
  cases hc
theorem jr_turned {E : TypeId} {sz B base : Nat} {X : Nat → Prop} {V V' : World} {v : Value} {ls : List (List Value)} (h : JR E sz V base v ls) (ht : Turned X B V V') (hX : ∀ g, v.ownBlock = some g → ¬ X g) : JR E sz V' base v ls := by
  obtain ⟨h1, h0, ⟨rfl, e⟩ | ⟨g', cap', cur, rfl, hbs, hh, hr⟩⟩ := h
  · exact ⟨h1, h0, .inl ⟨rfl, e⟩⟩
  · exact ⟨h1, h0, .inr ⟨g', cap', cur, rfl, hbs, ht.block g' _ hh (hX g' rfl) (.inl rfl), hr⟩⟩
theorem frv_inj {f g : Fr} (h : frv f = frv g) : f = g := by
  obtain ⟨k, ⟨rl, rk, rkey, rval⟩, ⟨pl, pk, pa, pn, pkey⟩, ⟨ec, eb, ef, es⟩⟩ := f
  obtain ⟨k0, ⟨rl0, rk0, rkey0, rval0⟩, ⟨pl0, pk0, pa0, pn0, pkey0⟩, ⟨ec0, eb0, ef0, es0⟩⟩ := g
  simp only [frv, List.cons.injEq, Value.int.injEq, Value.string.injEq, true_and, and_true, Int.natCast_inj] at h
  obtain ⟨h1, h2, h3, h4, h5, h6, h7, h8, h9, h10, h11, h12, h13, h14⟩ := h
  subst h1 h2 h3 h4 h5 h6 h7 h8 h9 h10 h11 h12 h13 h14
  rfl
theorem ko_drewN (U : World) (nn : Nat) : KeepsOthers U (U.drewN nn) := ⟨Nat.le_refl _, fun _ _ h _ => h⟩
/-- between two rounds of the second range -/
def ClJ (P : Nat) (V1 : World) (L : List (List Value)) {B : Nat} (pre : List (PL B)) (X : Nat → Prop) (U : World) : Prop :=
  Boxed U P 3 (.int .i64 (pre.length : Int)) ∧ pre.map (fun x => frv x.1.2.2) <+: L ∧ Below P V1 U ∧ P + 1 ≤ U.heap.size ∧ (∀ k, X k → P + 1 ≤ k)
theorem clJ_abides {P : Nat} {V1 : World} {L : List (List Value)} (hs : V1.heap.size = P + 1) {B : Nat} : AbidesX (P + 1) (ClJ P V1 L (B := B)) := by
  rintro s X X' V V' ⟨h0, h1, h2, h3, h4⟩ ht hX
  refine ⟨boxed_turned h0 ht (fun x => by have := h4 _ x; omega), h1, below_turned h2 (by omega) ht (by omega) (fun k hk => by have := h4 k hk; omega), Nat.le_trans h3 ht.size, fun k hk => ?_⟩
  rcases hX k hk with h | h
  · exact h4 k h
  · omega
theorem pre_snoc_yes {α : Type} {A L : List α} {x : α} (h : A <+: L) (hx : L[A.length]? = some x) : A ++ [x] <+: L := by
  obtain ⟨r, rfl⟩ := h
  rw [List.getElem?_append_right (Nat.le_refl _), Nat.sub_self] at hx
  cases r with
  | nil => simp at hx
  | cons y r =>
    simp at hx
    subst hx
    exact ⟨r, by simp⟩
theorem pre_snoc_no {α : Type} {A L : List α} {x : α} (hx : L[A.length]? ≠ some x) : ¬ A ++ [x] <+: L := by
  rintro ⟨r, rfl⟩
  apply hx
  simp
end Vt
end Go.Proofs.Ytlddogigbodilaa
namespace Go.Proofs.Ytlddogigbodilaa
open Go Go.RowKit
/-- all that the region writes lies from lo on, below hi -/
def dstsIn (ops : Array Oper) (lo hi : Nat) : Bool := (List.range ops.size).all fun j => match dstOf ops j with
  | none => true
  | some d => decide (lo ≤ d) && decide (d < hi)
theorem dstsIn_spec {ops : Array Oper} {lo hi k : Nat} (h : dstsIn ops lo hi = true) (hk : k < lo ∨ hi ≤ k) : ∀ j, j < ops.size → dstOf ops j ≠ some k := by
  intro j hj e
  have := List.all_eq_true.1 h j (by simpa using hj)
  rw [e] at this
  simp only [Bool.and_eq_true, decide_eq_true_eq] at this
  omega
theorem tmps_of {ops : Array Oper} {t t0 : Array Value} {lo : Nat} {vs : List Value} (hs : t.size = t0.size) (hd : dstsIn ops lo (lo + vs.length) = true) (hlo : lo + vs.length ≤ t0.size)
    (hout : ∀ k, (∀ j, j < ops.size → dstOf ops j ≠ some k) → t.getD k undef = t0.getD k undef) (hin : ∀ i, i < vs.length → t.getD (lo + i) undef = vs.getD i undef) :
    t = (t0.toList.take lo ++ (vs ++ t0.toList.drop (lo + vs.length))).toArray := by
  have hl0 : t0.toList.length = t0.size := Array.length_toList
  refine arr_one (by simp only [List.size_toArray, List.length_append, List.length_take, List.length_drop, hl0]; omega) fun k hk => ?_
  have e : ∀ X : List Value, X.toArray.getD k undef = X[k]?.getD undef := fun X => by rw [Array.getD_eq_getD_getElem?]; simp
  refine Eq.trans ?_ (e _).symm
  rw [Array.getD_eq_getD_getElem?]
  clear e
  by_cases h1 : k < lo
  · have := hout k (dstsIn_spec hd (.inl h1))
    rw [Array.getD_eq_getD_getElem?, Array.getD_eq_getD_getElem?] at this
    rw [this, List.getElem?_append_left (by rw [List.length_take, hl0]; omega), List.getElem?_take_of_lt h1, Array.getElem?_toList]
  · rw [List.getElem?_append_right (by rw [List.length_take, hl0]; omega), List.length_take, hl0, Nat.min_eq_left (by omega)]
    by_cases h2 : k < lo + vs.length
    · have := hin (k - lo) (by omega)
      rw [Array.getD_eq_getD_getElem?, List.getD_eq_getElem?_getD, show lo + (k - lo) = k by omega] at this
      rw [this, List.getElem?_append_left (by omega)]
    · have := hout k (dstsIn_spec hd (.inr (by omega)))
      rw [Array.getD_eq_getD_getElem?, Array.getD_eq_getD_getElem?] at this
      rw [this, List.getElem?_append_right (by omega), List.getElem?_drop, Array.getElem?_toList]
      congr 2
      omega
end Go.Proofs.Ytlddogigbodilaa
