/-
  A frame behind a region whose operations write neighbouring slots, told at once. No condition beyond those that the theorem bears.
  Plainly: what was laid among junk, cut into extents again.
-/
import Derived.Test.YtlddogigbodilaaMbh
import Derived.Test.YtlddogigbodilaaMax
namespace Go.Proofs.Ytlddogigbodilaa
open Go Go.RowKit
/-- all that the region writes lies from lo on, below hi -/
def dstsIn (ops : Array Oper) (lo hi : Nat) : Bool := (List.range ops.size).all fun j => match dstOf ops j with
  | none => true
  | some d => decide (lo ≤ d) && decide (d < hi)
theorem dstsIn_spec {ops : Array Oper} {lo hi k : Nat} (h : dstsIn ops lo hi = true) (hk : k < lo ∨ hi ≤ k) : ∀ j, j < ops.size → dstOf ops j ≠ some k := by
  intro j hj e
  have := List.all_eq_true.1 h j (by simpa using hj)
  rw [e] at this
  simp only [Bool.and_eq_true, decide_eq_true_eq] at this
  omega
theorem tmps_of {ops : Array Oper} {t t0 : Array Value} {lo : Nat} {vs : List Value} (hs : t.size = t0.size) (hd : dstsIn ops lo (lo + vs.length) = true) (hlo : lo + vs.length ≤ t0.size)
    (hout : ∀ k, (∀ j, j < ops.size → dstOf ops j ≠ some k) → t.getD k undef = t0.getD k undef) (hin : ∀ i, i < vs.length → t.getD (lo + i) undef = vs.getD i undef) :
    t = (t0.toList.take lo ++ (vs ++ t0.toList.drop (lo + vs.length))).toArray := by
  have hl0 : t0.toList.length = t0.size := Array.length_toList
  refine arr_one (by simp only [List.size_toArray, List.length_append, List.length_take, List.length_drop, hl0]; omega) fun k hk => ?_
  have e : ∀ X : List Value, X.toArray.getD k undef = X[k]?.getD undef := fun X => by rw [Array.getD_eq_getD_getElem?]; simp
  refine Eq.trans ?_ (e _).symm
  rw [Array.getD_eq_getD_getElem?]
  clear e
  by_cases h1 : k < lo
  · have := hout k (dstsIn_spec hd (.inl h1))
    rw [Array.getD_eq_getD_getElem?, Array.getD_eq_getD_getElem?] at this
    rw [this, List.getElem?_append_left (by rw [List.length_take, hl0]; omega), List.getElem?_take_of_lt h1, Array.getElem?_toList]
  · rw [List.getElem?_append_right (by rw [List.length_take, hl0]; omega), List.length_take, hl0, Nat.min_eq_left (by omega)]
    by_cases h2 : k < lo + vs.length
    · have := hin (k - lo) (by omega)
      rw [Array.getD_eq_getD_getElem?, List.getD_eq_getElem?_getD, show lo + (k - lo) = k by omega] at this
      rw [this, List.getElem?_append_left (by omega)]
    · have := hout k (dstsIn_spec hd (.inr (by omega)))
      rw [Array.getD_eq_getD_getElem?, Array.getD_eq_getD_getElem?] at this
      rw [this, List.getElem?_append_right (by omega), List.getElem?_drop, Array.getElem?_toList]
      congr 2
      omega
end Go.Proofs.Ytlddogigbodilaa
namespace Go.Proofs.Ytlddogigbodilaa
open Go.RowKit Go.Shelf
namespace Vt
/-- how much junk there is among extents -/
def jsum : List Ex → Int
  | [] => 0
  | x :: r => (if x.1 = true then x.2.2 else 0) + jsum r
theorem jsum_app (A B : List Ex) : jsum (A ++ B) = jsum A + jsum B := by
  induction A with
  | nil => rw [List.nil_append]; show jsum B = 0 + jsum B; omega
  | cons x r ih => rw [List.cons_append]; show _ + jsum (r ++ B) = (_ + jsum r) + jsum B; rw [ih]; omega
theorem jsum_jk (a b : Nat) : jsum (jk1 a b) = (b : Int) - a := by
  unfold jk1
  by_cases h : a = b
  · rw [if_pos h]; show (0 : Int) = _; omega
  · rw [if_neg h]; show (if true = true then (b : Int) - a else 0) + 0 = _; rw [if_pos rfl]; omega
theorem jsum_exR (L : List Lc) (N : Nat) : ∀ e, jsum (exR e L N) = (N : Int) - e - sml L := by
  induction L with
  | nil => intro e; show jsum (jk1 e N) = _; rw [jsum_jk, sml_nil]; omega
  | cons x r ih =>
    intro e
    show jsum (jk1 e x.1 ++ (false, (x.1 : Int), (x.2.1 : Int)) :: exR (x.1 + x.2.1) r N) = _
    rw [jsum_app, jsum_jk, sml_cons]
    show _ + ((if false = true then (x.2.1 : Int) else 0) + jsum (exR (x.1 + x.2.1) r N)) = _
    rw [ih, if_neg (by decide)]
    omega
theorem jsum_exts (l : List Nat) : jsum (exts l) = (l.length : Int) - sml (locs 0 l) := by
  rw [exts_eq, jsum_exR]; omega
theorem tiles_jsum {l : List Nat} (E : List Ex) : ∀ {p : Nat} {pj : Bool}, Tiles l p pj E → 0 ≤ jsum E := by
  induction E with
  | nil => intro p pj _; exact Int.le_refl 0
  | cons x r ih =>
    intro p pj h
    obtain ⟨n, _, h2, h3, _, _, _, _, h4⟩ := h
    have := ih h4
    show 0 ≤ (if x.1 = true then x.2.2 else 0) + jsum r
    split <;> omega
theorem tiles_conS {l : List Nat} {at_ : Nat} {pj : Bool} {x : Ex} {r : List Ex} (h : Tiles l at_ pj (x :: r)) : ∃ (j : Bool) (n : Nat), x = (j, (at_ : Int), (n : Int)) ∧ 1 ≤ n ∧ at_ + n ≤ l.length ∧ (j = true → pj = false) ∧ Tiles l (at_ + n) j r := by
  obtain ⟨n, h1, h2, h3, h4, h5, _, _, h6⟩ := h
  exact ⟨x.1, n, Prod.ext rfl (Prod.ext h1 h2), h3, h4, h5, h6⟩
theorem fex_len (fs : List Fr) : ∀ p, (fex p fs).length = fs.length := by
  induction fs with
  | nil => intro p; rfl
  | cons f q ih => intro p; simp only [fex, List.length_cons]; rw [ih]
/-- what was laid among junk is cut just so -/
theorem lay_scan {L : List Rw4} (hl : L.length ≤ 100) {js : List (List Nat)} {bs cs : List Nat} {wn wm : List Lc} {nn mm : Nat} (h : Lay L js (L.length + 1) bs wn nn) (h2 : Lay L [] (L.length + 1) cs wm mm) :
    locs 0 bs = wn ∧ wn.length = L.length ∧ bs.length ≤ 171700 ∧ nn ≤ bs.length ∧ cln bs (locs 0 bs) = cs ∧ jsum (exts bs) = (nn : Int) ∧ (exts cs).length = L.length ∧ cs.length ≤ 171700 ∧ Byt cs ∧ ∀ k x, L[k]? = some x → ∃ lc, wn[k]? = some lc ∧ lc.2.2 = ofR (rcQ x.k x.y x.v (k + 1)) := by
  have hlo := h.mks.locs
  have hfr : wn.map (fun x => x.2.2) = frs L := by
    have := h.fr
    rwa [List.take_of_length_le (by rw [frs_len]; omega)] at this
  have hcs := h2.cl (h2.no rfl)
  rw [List.take_of_length_le (by rw [frs_len]; omega)] at hcs
  have hfit := frs_fit L (by omega)
  have hlen := h.len
  have hlen2 := h2.len
  have hsum := h.sum
  have hwl : wn.length = L.length := by have := congrArg List.length hfr; rwa [List.length_map, frs_len] at this
  refine ⟨hlo, hwl, by omega, by omega, ?_, ?_, ?_, by omega, h2.mks.1, fun k x hx => ?_⟩
  · obtain ⟨fs, e1, _, e3⟩ := cln_all h.mks.1
    rw [e1, e3, hlo, hfr, hcs]
  · rw [jsum_exts, hlo]; omega
  · rw [hcs, exts_ens hfit, fex_len, frs_len]
  · have hk : k < wn.length := by rw [hwl]; exact (List.getElem?_eq_some_iff.1 hx).1
    refine ⟨wn[k], List.getElem?_eq_getElem hk, ?_⟩
    have e1 : (wn.map (fun x => x.2.2))[k]? = some wn[k].2.2 := by rw [List.getElem?_map, List.getElem?_eq_getElem hk]; rfl
    rw [hfr] at e1
    have e2 : (frs L)[k]? = some (ofR (rcQ x.k x.y x.v (k + 1))) := by unfold frs; rw [List.getElem?_mapIdx, hx]; rfl
    rw [e2] at e1
    exact (Option.some.inj e1).symm
theorem one_next : fst [167] 0 = (-1, 0) := by
  apply fst_nil
  have hb : Byt [167] := by intro x hx; simp at hx; omega
  have hf : frm [167].length 0 = 0 := by unfold frm; simp
  rw [hf, List.drop_zero]
  cases h : locs 0 [167] with
  | nil => rfl
  | cons x r =>
    have := locs_len hb _ (Nat.le_refl _) 0
    rw [h] at this
    simp only [List.length_cons, List.length_nil] at this
    omega
end Vt
end Go.Proofs.Ytlddogigbodilaa
