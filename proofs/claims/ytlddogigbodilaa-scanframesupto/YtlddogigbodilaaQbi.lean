/-
  A FRAME, A RECORD AS AN ARGUMENT: what the form of a call says of its cells.
  THE WALK OF the law's 'same' (are two lists of bytes the same?).
  A frame that is cut short is none.
-/
import Derived.Test.YtlddogigbodilaaQbc
import Derived.Test.YtlddogigbodilaaQai
import Derived.Test.YtlddogigbodilaaQbh
namespace Go.Proofs.Ytlddogigbodilaa
open Go.ChangeShapes Go.WideShapes Go.ChangeAt Go.RowKit
namespace Vt
theorem cell_int {P : Program} {w : World} {r : Reach} {base : Nat} {t : TypeId} {k : IntKind} {v : Value} (ht : P.underlying t = some (.int k)) (h : Cell.okWide P w r base t v) : ∃ n, v = .int k n ∧ k.has n := by
  simp only [Cell.okWide, ht] at h
  cases v <;> simp_all [Cell.ok]
theorem cell_string {P : Program} {w : World} {r : Reach} {base : Nat} {t : TypeId} {v : Value} (ht : P.underlying t = some .string) (h : Cell.okWide P w r base t v) : ∃ s, v = .string s := by
  simp only [Cell.okWide, ht] at h
  cases v <;> simp_all [Cell.ok]
theorem has_u64 {n : Int} (h : IntKind.u64.has n) : 0 ≤ n ∧ n < 18446744073709551616 := by
  have e1 : IntKind.u64.min = 0 := rfl
  have e2 : IntKind.u64.max = 18446744073709551615 := rfl
  unfold IntKind.has at h
  rw [e1, e2] at h
  omega
theorem has_u32 {n : Int} (h : IntKind.u32.has n) : 0 ≤ n ∧ n < 4294967296 := by
  have e1 : IntKind.u32.min = 0 := rfl
  have e2 : IntKind.u32.max = 4294967295 := rfl
  unfold IntKind.has at h
  rw [e1, e2] at h
  omega
theorem cells_fr : Try.prog.cellTypes Try.prog.depth 41 = some [29, 30, 29, 9, 9, 30, 29, 3, 3, 9, 3, 3, 3, 35] := by kernel_rfl
theorem size_fr : Try.prog.cellsOf 41 = 14 := by kernel_rfl
theorem list14 {α : Type} {l : List α} (h : l.length = 14) : ∃ a b c d e f g i j k m n o p, l = [a, b, c, d, e, f, g, i, j, k, m, n, o, p] := by
  match l, h with
  | [a, b, c, d, e, f, g, i, j, k, m, n, o, p], _ => exact ⟨a, b, c, d, e, f, g, i, j, k, m, n, o, p, rfl⟩
theorem okW_struct {P : Program} {w : World} {r : Reach} {base : Nat} {t : TypeId} {fs : Array Field} {v : Value} (ht : P.underlying t = some (.struct fs)) (h : Value.okWide P w r base t v) : ∃ cs, v = .agg cs ∧ cs.size = P.cellsOf t ∧ Row.okWide P w r base t cs := by
  simp only [Value.okWide, ht] at h
  exact h
set_option maxRecDepth 100000 in
/-- a frame that comes in -/
theorem frame_arg {w : World} {r : Reach} {base : Nat} {v : Value} (h : Value.okWide Try.prog w r base 41 v) : ∃ f : Fr, v = .agg (fv f) ∧ f.Wf := by
  obtain ⟨cs, rfl, hsz, ts, hts, _, hcell⟩ := okW_struct Try.underlying41 h
  rw [size_fr] at hsz
  rw [cells_fr] at hts
  injection hts with hts
  subst hts
  obtain ⟨l⟩ := cs
  obtain ⟨v0, v1, v2, v3, v4, v5, v6, v7, v8, v9, v10, v11, v12, v13, rfl⟩ := list14 (l := l) (by simpa using hsz)
  have key : ∀ i v u, (#[v0, v1, v2, v3, v4, v5, v6, v7, v8, v9, v10, v11, v12, v13] : Array Value)[i]? = some v → [29, 30, 29, 9, 9, 30, 29, 3, 3, 9, 3, 3, 3, 35][i % 14]? = some u → Cell.okWide Try.prog w r base u v := by
    intro i v u hv hu
    obtain ⟨u', hu', hc⟩ := hcell i v hv
    have e : some u' = some u := hu'.symm.trans hu
    injection e with e
    subst e
    exact hc
  obtain ⟨n0, rfl, _⟩ := cell_int Try.underlying29 (key 0 _ _ rfl rfl)
  obtain ⟨n1, rfl, b1⟩ := cell_int Try.underlying30 (key 1 _ _ rfl rfl)
  obtain ⟨n2, rfl, _⟩ := cell_int Try.underlying29 (key 2 _ _ rfl rfl)
  obtain ⟨s3, rfl⟩ := cell_string Try.underlying9 (key 3 _ _ rfl rfl)
  obtain ⟨s4, rfl⟩ := cell_string Try.underlying9 (key 4 _ _ rfl rfl)
  obtain ⟨n5, rfl, b5⟩ := cell_int Try.underlying30 (key 5 _ _ rfl rfl)
  obtain ⟨n6, rfl, _⟩ := cell_int Try.underlying29 (key 6 _ _ rfl rfl)
  obtain ⟨n7, rfl, _⟩ := cell_int Try.underlying3 (key 7 _ _ rfl rfl)
  obtain ⟨n8, rfl, _⟩ := cell_int Try.underlying3 (key 8 _ _ rfl rfl)
  obtain ⟨s9, rfl⟩ := cell_string Try.underlying9 (key 9 _ _ rfl rfl)
  obtain ⟨n10, rfl, _⟩ := cell_int Try.underlying3 (key 10 _ _ rfl rfl)
  obtain ⟨n11, rfl, _⟩ := cell_int Try.underlying3 (key 11 _ _ rfl rfl)
  obtain ⟨n12, rfl, _⟩ := cell_int Try.underlying3 (key 12 _ _ rfl rfl)
  obtain ⟨n13, rfl, b13⟩ := cell_int Try.underlying35 (key 13 _ _ rfl rfl)
  have u1 : 0 ≤ n1 ∧ n1 < 18446744073709551616 := has_u64 b1
  have u5 : 0 ≤ n5 ∧ n5 < 18446744073709551616 := has_u64 b5
  have u13 : 0 ≤ n13 ∧ n13 < 4294967296 := has_u32 b13
  obtain ⟨m1, rfl⟩ : ∃ m : Nat, n1 = (m : Int) := ⟨n1.toNat, by omega⟩
  obtain ⟨m5, rfl⟩ : ∃ m : Nat, n5 = (m : Int) := ⟨n5.toNat, by omega⟩
  obtain ⟨m13, rfl⟩ : ∃ m : Nat, n13 = (m : Int) := ⟨n13.toNat, by omega⟩
  exact ⟨⟨n0, ⟨m1, n2, s3, s4⟩, ⟨m5, n6, n7, n8, s9⟩, ⟨n10, n11, n12, m13⟩⟩, rfl, by show m1 < _; omega, by show m5 < _; omega, by show m13 < _; omega⟩
end Vt
end Go.Proofs.Ytlddogigbodilaa
namespace Go.Proofs.Ytlddogigbodilaa
open Go.RowKit
namespace Vt
end Vt
end Go.Proofs.Ytlddogigbodilaa
namespace Go.Proofs.Ytlddogigbodilaa
open Go.ChangeShapes Go.WideShapes Go.ChangeAt Go.RowKit
namespace Vt
/-- a frame that is cut short -/
theorem dcd_cut {f : Fr} (hw : f.Wf) (h : rf f = 0) {j : Nat} (h1 : 1 ≤ j) (h2 : j < (en f).length) : decF ((en f).take j) 0 = (zf, 0, 43) := by
  have hEL := en_len f
  obtain ⟨hb1, hb2⟩ := bd_len hw h
  have hl := (wr_len (bd f)).2
  have hlen : ((en f).take j).length = j := by rw [List.length_take]; omega
  have hg : ((en f).take j).getD 0 0 = 167 := by
    rw [List.getD_eq_getElem?_getD, List.getElem?_take, if_pos (by omega), ← List.getD_eq_getElem?_getD]
    exact en_head f
  have hde : (en f).drop 1 = dg 3 (wr (bd f)).length ++ (wr (bd f) ++ dg 5 (Crc.go 0 (dg 3 (wr (bd f)).length ++ wr (bd f)))) := by rw [en_eq]; rfl
  have hdig : dig ((en f).take j) = (dg 3 (wr (bd f)).length).take (j - 1) := by
    unfold dig
    rw [List.drop_take, hde]
    have d3 := dg_len 3 (wr (bd f)).length
    rw [List.take_take, Nat.min_comm, ← List.take_take]
    rw [List.take_left' d3]
  have hlt : ∀ x ∈ dig ((en f).take j), x < 128 := by
    rw [hdig]
    intro x hx
    exact dg_lt _ _ x (List.mem_of_mem_take hx)
  unfold decF
  rw [if_neg (by rw [hlen]; omega), show (0 : Int).toNat = 0 from rfl, List.drop_zero]
  have hrl : rl ((en f).take j) = (0, 43) := by
    refine rl_43 hg hlt ?_
    rw [hlen]
    by_cases h4 : j < 4
    · exact .inl h4
    · refine .inr ?_
      rw [hdig, List.take_of_length_le (by rw [dg_len]; omega), nm_dg, p3]
      rw [hEL] at h2
      omega
  unfold dcd
  rw [hrl]
  rfl
end Vt
end Go.Proofs.Ytlddogigbodilaa
