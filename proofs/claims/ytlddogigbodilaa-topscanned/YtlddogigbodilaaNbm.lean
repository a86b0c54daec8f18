/-
  The law ScanMade: what is laid down by turns is found.
  A FRAME, A RECORD AS AN ARGUMENT: what the form of a call says of its cells.
-/
import Derived.Test.YtlddogigbodilaaNbf
import Derived.Test.YtlddogigbodilaaNbl
import Derived.Test.YtlddogigbodilaaNaw
import Derived.Test.YtlddogigbodilaaNbk
namespace Go.Proofs.Ytlddogigbodilaa
open Go.RowKit Go.Shelf
namespace Vt
/-- bytes that were made of junk and frames by turns, and the frames among them -/
def Mk (bs : List Nat) (wn : List Lc) : Prop := Byt bs ∧ (∀ x ∈ wn, isw [1, 2] x = true) ∧ ∀ r, Byt r → locs 0 (bs ++ r) = wn ++ locs bs.length r
theorem Mk.nil : Mk [] [] := ⟨(by intro x hx; cases hx), (by simp), fun r _ => by simp⟩
theorem Mk.junk {bs : List Nat} {wn : List Lc} (h : Mk bs wn) {x : Nat} (hx : x < 256) (h2 : x ≠ 167) : Mk (bs ++ [x]) wn := by
  have hb1 : Byt [x] := by intro y hy; simp at hy; omega
  refine ⟨byt_app h.1 hb1, h.2.1, fun r hr => ?_⟩
  rw [List.append_assoc, h.2.2 ([x] ++ r) (byt_app hb1 hr), locs_junk (j := [x]) (by intro y hy; simp at hy; omega) (byt_app hb1 hr), List.length_append]
theorem Mk.en {bs : List Nat} {wn : List Lc} (h : Mk bs wn) {f : Fr} (hw : f.Wf) (hf : rf f = 0) (hk : f.kind = 1 ∨ f.kind = 2) : Mk (bs ++ en f) (wn ++ [(bs.length, (en f).length, f)]) := by
  have hb1 : Byt (Vt.en f) := en_byt hf
  refine ⟨byt_app h.1 hb1, ?_, fun r hr => ?_⟩
  · intro x hx
    rcases List.mem_append.1 hx with h3 | h3
    · exact h.2.1 x h3
    · simp only [List.mem_singleton] at h3
      subst h3
      unfold isw
      simp only [decide_eq_true_eq]
      rcases hk with e | e <;> simp [e]
  · rw [List.append_assoc, h.2.2 (Vt.en f ++ r) (byt_app hb1 hr), locs_en hw hf (byt_app hb1 hr), List.length_append, List.append_assoc, List.singleton_append]
theorem Mk.locs {bs : List Nat} {wn : List Lc} (h : Mk bs wn) : Vt.locs 0 bs = wn := by
  have := h.2.2 [] (by intro x hx; cases hx)
  rwa [List.append_nil, locs_nil, List.append_nil] at this
theorem Mk.recs {bs : List Nat} {wn : List Lc} (h : Mk bs wn) : Vt.recs [1, 2] bs = wn := by
  unfold Vt.recs
  rw [h.locs]
  exact List.filter_eq_self.2 h.2.1
theorem Mk.len {bs : List Nat} {wn : List Lc} (h : Mk bs wn) : 9 * wn.length ≤ bs.length := by
  have := locs_len h.1 _ (Nat.le_refl _) 0
  rwa [h.locs] at this
theorem ofR_kind {r : Rec} (h : rf (ofR r) = 0) : r.kind = 1 ∨ r.kind = 2 := by
  have hk : (ofR r).kind = r.kind := rfl
  unfold rf at h
  by_cases c : (ofR r).kind = 1 ∨ (ofR r).kind = 2
  · exact c
  · rw [if_neg c] at h
    by_cases c3 : (ofR r).kind = 3
    · rw [if_pos c3] at h
      unfold rfP at h
      rw [if_pos (by show (0 : Int) ≠ 1 ∧ (0 : Int) ≠ 2; decide)] at h
      cases h
    · rw [if_neg c3] at h
      by_cases c4 : (ofR r).kind = 4
      · rw [if_pos c4] at h
        unfold rfE at h
        split at h
        · cases h
        · rw [if_pos (by
            intro e
            have e2 : r = zr := congrArg Fr.r e
            rw [e2] at c4
            have c5 : (0 : Int) = 4 := c4
            omega)] at h
          cases h
      · rw [if_neg c4] at h
        cases h
/-- a slice of records as a parameter -/
def IsRc (w : World) (v : Value) (rs : List Rec) : Prop :=
  (∀ r ∈ rs, r.lsn < 18446744073709551616) ∧ ((rs = [] ∧ ∃ a c, v = .slice a 0 c) ∨ ∃ b off c, v = .slice (some ⟨b, off, none⟩) rs.length c ∧ b < w.heap.size ∧ ∀ i, i < rs.length → ∀ j u, (rv (rs.getD i zr))[j]? = some u → w.cell? ⟨b, off + i * 4 + j, none⟩ = some u)
theorem JK.grownR {k : IntKind} {M : Nat} {E E' : TypeId} {sz' : Nat} {w w' : World} {b1 b2 : Nat} {v u : Value} {l : List Nat} {m : List (List Value)} (h : JK k M E w b1 v l) (hr : JR E' sz' w b2 u m) (hne : E ≠ E') (hg : w.grownBy w' u.ownBlock) : JK k M E w' b1 v l := by
  refine h.grownO hg fun g hgb e => ?_
  obtain ⟨_, _, ⟨rfl, _⟩ | ⟨g1, cap1, cur1, rfl, _, hh1, _⟩⟩ := h
  · cases hgb
  · obtain ⟨_, _, ⟨rfl, _⟩ | ⟨g2, cap2, cur2, rfl, _, hh2, _⟩⟩ := hr
    · cases e
    · cases hgb
      injection e with e
      have e' : g1 = g2 := e
      subst e'
      rw [hh1] at hh2
      injection hh2 with hh2
      injection hh2 with _ hh2
      exact hne hh2
theorem JR.grownK {k : IntKind} {M : Nat} {E E' : TypeId} {sz' : Nat} {w w' : World} {b1 b2 : Nat} {v u : Value} {l : List Nat} {m : List (List Value)} (hr : JR E' sz' w b2 u m) (h : JK k M E w b1 v l) (hne : E ≠ E') (hg : w.grownBy w' v.ownBlock) : JR E' sz' w' b2 u m := by
  refine hr.grownO hg fun g hgb e => ?_
  obtain ⟨_, _, ⟨rfl, _⟩ | ⟨g1, cap1, cur1, rfl, _, hh1, _⟩⟩ := h
  · cases e
  · obtain ⟨_, _, ⟨rfl, _⟩ | ⟨g2, cap2, cur2, rfl, _, hh2, _⟩⟩ := hr
    · cases hgb
    · cases hgb
      injection e with e
      have e' : g2 = g1 := e
      subst e'
      rw [hh1] at hh2
      injection hh2 with hh2
      injection hh2 with _ hh2
      exact hne hh2
theorem eq_lc (x : Lc) (w : World) : (Op.equalIn 10000 53 (.agg (lcv x).toArray) (.agg (lcv x).toArray)).run Try.prog w = .ok true w := by
  unfold lcv
  simp [go_sem, Op.eqFields]
theorem neq_lc (x : Lc) (w : World) : (binOp .neq 53 (.agg (lcv x).toArray) (.agg (lcv x).toArray)).run Try.prog w = .ok (.bool false) w := by
  rw [run_neq_struct, eq_lc]; rfl
end Vt
end Go.Proofs.Ytlddogigbodilaa
namespace Go.Proofs.Ytlddogigbodilaa
open Go.RowKit Go.Shelf
namespace Vt
end Vt
end Go.Proofs.Ytlddogigbodilaa
namespace Go.Proofs.Ytlddogigbodilaa
open Go.ChangeShapes Go.WideShapes Go.ChangeAt Go.RowKit
namespace Vt
theorem cell_int {P : Program} {w : World} {r : Reach} {base : Nat} {t : TypeId} {k : IntKind} {v : Value} (ht : P.underlying t = some (.int k)) (h : Cell.okWide P w r base t v) : ∃ n, v = .int k n ∧ k.has n := by
  simp only [Cell.okWide, ht] at h
  cases v <;> simp_all [Cell.ok]
theorem cell_string {P : Program} {w : World} {r : Reach} {base : Nat} {t : TypeId} {v : Value} (ht : P.underlying t = some .string) (h : Cell.okWide P w r base t v) : ∃ s, v = .string s := by
  simp only [Cell.okWide, ht] at h
  cases v <;> simp_all [Cell.ok]
theorem has_u64 {n : Int} (h : IntKind.u64.has n) : 0 ≤ n ∧ n < 18446744073709551616 := by
  have e1 : IntKind.u64.min = 0 := rfl
  have e2 : IntKind.u64.max = 18446744073709551615 := rfl
  unfold IntKind.has at h
  rw [e1, e2] at h
  omega
theorem has_u32 {n : Int} (h : IntKind.u32.has n) : 0 ≤ n ∧ n < 4294967296 := by
  have e1 : IntKind.u32.min = 0 := rfl
  have e2 : IntKind.u32.max = 4294967295 := rfl
  unfold IntKind.has at h
  rw [e1, e2] at h
  omega
theorem cells_fr : Try.prog.cellTypes Try.prog.depth 41 = some [29, 30, 29, 9, 9, 30, 29, 3, 3, 9, 3, 3, 3, 35] := by kernel_rfl
theorem size_fr : Try.prog.cellsOf 41 = 14 := by kernel_rfl
theorem list14 {α : Type} {l : List α} (h : l.length = 14) : ∃ a b c d e f g i j k m n o p, l = [a, b, c, d, e, f, g, i, j, k, m, n, o, p] := by
  match l, h with
  | [a, b, c, d, e, f, g, i, j, k, m, n, o, p], _ => exact ⟨a, b, c, d, e, f, g, i, j, k, m, n, o, p, rfl⟩
theorem okW_struct {P : Program} {w : World} {r : Reach} {base : Nat} {t : TypeId} {fs : Array Field} {v : Value} (ht : P.underlying t = some (.struct fs)) (h : Value.okWide P w r base t v) : ∃ cs, v = .agg cs ∧ cs.size = P.cellsOf t ∧ Row.okWide P w r base t cs := by
  simp only [Value.okWide, ht] at h
  exact h
set_option maxRecDepth 100000 in
/-- a frame that comes in -/
theorem frame_arg {w : World} {r : Reach} {base : Nat} {v : Value} (h : Value.okWide Try.prog w r base 41 v) : ∃ f : Fr, v = .agg (fv f) ∧ f.Wf := by
  obtain ⟨cs, rfl, hsz, ts, hts, _, hcell⟩ := okW_struct Try.underlying41 h
  rw [size_fr] at hsz
  rw [cells_fr] at hts
  injection hts with hts
  subst hts
  obtain ⟨l⟩ := cs
  obtain ⟨v0, v1, v2, v3, v4, v5, v6, v7, v8, v9, v10, v11, v12, v13, rfl⟩ := list14 (l := l) (by simpa using hsz)
  have key : ∀ i v u, (#[v0, v1, v2, v3, v4, v5, v6, v7, v8, v9, v10, v11, v12, v13] : Array Value)[i]? = some v → [29, 30, 29, 9, 9, 30, 29, 3, 3, 9, 3, 3, 3, 35][i % 14]? = some u → Cell.okWide Try.prog w r base u v := by
    intro i v u hv hu
    obtain ⟨u', hu', hc⟩ := hcell i v hv
    have e : some u' = some u := hu'.symm.trans hu
    injection e with e
    subst e
    exact hc
  obtain ⟨n0, rfl, _⟩ := cell_int Try.underlying29 (key 0 _ _ rfl rfl)
  obtain ⟨n1, rfl, b1⟩ := cell_int Try.underlying30 (key 1 _ _ rfl rfl)
  obtain ⟨n2, rfl, _⟩ := cell_int Try.underlying29 (key 2 _ _ rfl rfl)
  obtain ⟨s3, rfl⟩ := cell_string Try.underlying9 (key 3 _ _ rfl rfl)
  obtain ⟨s4, rfl⟩ := cell_string Try.underlying9 (key 4 _ _ rfl rfl)
  obtain ⟨n5, rfl, b5⟩ := cell_int Try.underlying30 (key 5 _ _ rfl rfl)
  obtain ⟨n6, rfl, _⟩ := cell_int Try.underlying29 (key 6 _ _ rfl rfl)
  obtain ⟨n7, rfl, _⟩ := cell_int Try.underlying3 (key 7 _ _ rfl rfl)
  obtain ⟨n8, rfl, _⟩ := cell_int Try.underlying3 (key 8 _ _ rfl rfl)
  obtain ⟨s9, rfl⟩ := cell_string Try.underlying9 (key 9 _ _ rfl rfl)
  obtain ⟨n10, rfl, _⟩ := cell_int Try.underlying3 (key 10 _ _ rfl rfl)
  obtain ⟨n11, rfl, _⟩ := cell_int Try.underlying3 (key 11 _ _ rfl rfl)
  obtain ⟨n12, rfl, _⟩ := cell_int Try.underlying3 (key 12 _ _ rfl rfl)
  obtain ⟨n13, rfl, b13⟩ := cell_int Try.underlying35 (key 13 _ _ rfl rfl)
  have u1 : 0 ≤ n1 ∧ n1 < 18446744073709551616 := has_u64 b1
  have u5 : 0 ≤ n5 ∧ n5 < 18446744073709551616 := has_u64 b5
  have u13 : 0 ≤ n13 ∧ n13 < 4294967296 := has_u32 b13
  obtain ⟨m1, rfl⟩ : ∃ m : Nat, n1 = (m : Int) := ⟨n1.toNat, by omega⟩
  obtain ⟨m5, rfl⟩ : ∃ m : Nat, n5 = (m : Int) := ⟨n5.toNat, by omega⟩
  obtain ⟨m13, rfl⟩ : ∃ m : Nat, n13 = (m : Int) := ⟨n13.toNat, by omega⟩
  exact ⟨⟨n0, ⟨m1, n2, s3, s4⟩, ⟨m5, n6, n7, n8, s9⟩, ⟨n10, n11, n12, m13⟩⟩, rfl, by show m1 < _; omega, by show m5 < _; omega, by show m13 < _; omega⟩
end Vt
end Go.Proofs.Ytlddogigbodilaa
