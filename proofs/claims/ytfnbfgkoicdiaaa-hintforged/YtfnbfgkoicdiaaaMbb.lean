/-
  Lists of pointers and of records, a fingerprint, a pointer, as parameters.
  HINT FILES, PLAINLY (4): records as a segment; its frames, and where each stands.
  salvorlaw10.clean: records as a segment.
-/
import Derived.Test.YtfnbfgkoicdiaaaMba
import Derived.Deep.Matrix
import Derived.Test.YtfnbfgkoicdiaaaMay
import Derived.Test.YtfnbfgkoicdiaaaMax
namespace Go.Proofs.Ytfnbfgkoicdiaaa
open Go.ChangeShapes Go.WideShapes Go.ChangeAt Go.RowKit Go.Deep
namespace Vt
theorem cell_ptr : Try.prog.cellsOf 29 = 5 := by kernel_rfl
theorem cell_rec : Try.prog.cellsOf 34 = 4 := by kernel_rfl
theorem cell_u64 : Try.prog.cellsOf 26 = 1 := by kernel_rfl
theorem cell_kind : Try.prog.cellsOf 27 = 1 := by kernel_rfl
theorem cell_int1 : Try.prog.cellsOf 3 = 1 := by kernel_rfl
theorem cell_str : Try.prog.cellsOf 9 = 1 := by kernel_rfl
theorem list_five {α : Type} {l : List α} (h : l.length = 5) : ∃ a b c d e, l = [a, b, c, d, e] := by
  match l, h with
  | [a, b, c, d, e], _ => exact ⟨a, b, c, d, e, rfl⟩
theorem list_four {α : Type} {l : List α} (h : l.length = 4) : ∃ a b c d, l = [a, b, c, d] := by
  match l, h with
  | [a, b, c, d], _ => exact ⟨a, b, c, d, rfl⟩
theorem list_three {α : Type} {l : List α} (h : l.length = 3) : ∃ a b c, l = [a, b, c] := by
  match l, h with
  | [a, b, c], _ => exact ⟨a, b, c, rfl⟩
theorem add_off (b off i : Nat) : Addr.add ⟨b, off, none⟩ i = ⟨b, off + i, none⟩ := by
  unfold Addr.add; split
  · subst_vars; rfl
  · rfl
theorem ptr_open {H : Type} {enc : TypeId × Value → H} {W : World} {base : Nat} {sp : Nat → Bool} {held : Bool} {fuel : Nat} {cs : List Value} {y : DataW H × List MemPlace} (h : DataW.trod enc Try.prog W base sp held fuel 29 cs = some y) (hl : cs.length = 5) :
    ∃ r : Ptr, r.lsn < 18446744073709551616 ∧ cs = (pv r).toList := by
  obtain ⟨xs, k, hk, hxy, _, hxl, hf⟩ := DataW.trod_struct Try.underlying29 h
  obtain ⟨y0, y1, y2, y3, y4, rfl⟩ := list_five (l := xs) hxl
  obtain ⟨v0, v1, v2, v3, v4, rfl⟩ := list_five hl
  have g0 := hf 0 ⟨ "LSN", 26, 0, false, "", "", 0⟩ rfl
  have g1 := hf 1 ⟨ "Kind", 27, 1, false, "", "", 8⟩ rfl
  have g2 := hf 2 ⟨ "At", 3, 2, false, "", "", 16⟩ rfl
  have g3 := hf 3 ⟨ "Len", 3, 3, false, "", "", 24⟩ rfl
  have g4 := hf 4 ⟨ "Key", 9, 4, false, "", "", 32⟩ rfl
  simp only [cell_u64, List.drop_zero, List.take_succ_cons, List.take_zero, List.getElem?_cons_zero] at g0
  simp only [cell_kind, List.drop_succ_cons, List.drop_zero, List.take_succ_cons, List.take_zero, List.getElem?_cons_succ, List.getElem?_cons_zero] at g1
  simp only [cell_int1, List.drop_succ_cons, List.drop_zero, List.take_succ_cons, List.take_zero, List.getElem?_cons_succ, List.getElem?_cons_zero] at g2 g3
  simp only [cell_str, List.drop_succ_cons, List.drop_zero, List.take_succ_cons, List.take_zero, List.getElem?_cons_succ, List.getElem?_cons_zero] at g4
  obtain ⟨n0, e0, _, w0⟩ := DataW.trod_int Try.underlying26 g0
  obtain ⟨n1, e1, _, w1⟩ := DataW.trod_int Try.underlying27 g1
  obtain ⟨n2, e2, _, w2⟩ := DataW.trod_int Try.underlying3 g2
  obtain ⟨n3, e3, _, w3⟩ := DataW.trod_int Try.underlying3 g3
  obtain ⟨s4, e4, _, _⟩ := DataW.trod_string Try.underlying9 g4
  have hb := wf_u64 w0
  refine ⟨⟨n0.toNat, n1, n2, n3, s4⟩, by show n0.toNat < _; omega, ?_⟩
  simp only [List.cons.injEq, and_true] at e0 e1 e2 e3 e4
  subst e0 e1 e2 e3 e4
  show _ = [Value.int .u64 ((n0.toNat : Nat) : Int), _, _, _, _]
  rw [show ((n0.toNat : Nat) : Int) = n0 by omega]
theorem ptrs_open {H : Type} {enc : TypeId × Value → H} {W : World} {fuel : Nat} {y : DataW H × List MemPlace} {a0 : Option Addr} {len0 cap0 : Nat} (h : DataW.trod enc Try.prog W 0 (fun _ => true) true fuel 22 [.slice a0 len0 cap0] = some y) :
    ∃ rs : List Ptr, IsPt W (.slice a0 len0 cap0) rs ∧ rs.length = len0 ∧ len0 ≤ maxLen := by
  rcases open_slice Try.underlying22 h with ⟨hcs, _⟩ | ⟨a, len, cap, m, n, D, Pl, hcs, _, hl, hm, hmm, _, hx⟩
  · simp at hcs
    obtain ⟨rfl, rfl, rfl⟩ := hcs
    exact ⟨[], ⟨by simp, .inl ⟨rfl, _, _, rfl⟩⟩, by simp, by simp⟩
  · simp at hcs
    obtain ⟨rfl, rfl, rfl⟩ := hcs
    simp only [if_true] at hmm
    subst hmm
    by_cases h0 : len0 = 0
    · subst h0
      exact ⟨[], ⟨by simp, .inl ⟨rfl, _, _, rfl⟩⟩, by simp, by simp⟩
    · have hel : ∀ i, i < len0 → ∃ r : Ptr, r.lsn < 18446744073709551616 ∧ ∀ j u, (pv r)[j]? = some u → W.cell? (a.add (i * 5) |>.add j) = some u := by
        intro i hi
        obtain ⟨cs', h1, h2⟩ := hx i (by omega)
        rw [cell_ptr] at h1
        obtain ⟨_, hlen, hcell⟩ := World.cells?_some h1
        obtain ⟨r, hr, rfl⟩ := ptr_open h2 hlen
        refine ⟨r, hr, fun j u hu => ?_⟩
        have hj : j < 5 := by
          have := (Array.getElem?_eq_some_iff.1 hu).1
          simpa [pv] using this
        rw [hcell j hj, Array.getElem?_toList]
        exact hu
      haveI : Inhabited Ptr := ⟨zp⟩
      obtain ⟨F, hF⟩ := choose_lt hel
      obtain ⟨b, off, spot⟩ := a
      have hc := (hF 0 (by omega)).2 0 _ rfl
      have hspot : spot = none := by simpa [Addr.add] using World.cell?_spot hc
      subst hspot
      have hbl : b < W.heap.size := by
        have := lt_of_cell hc
        rw [add_off, add_off] at this
        exact this
      have hg : ∀ i, i < len0 → ((List.range len0).map F).getD i zp = F i := fun i hi => by
        rw [List.getD_eq_getElem?_getD, List.getElem?_map, List.getElem?_range hi]; rfl
      refine ⟨(List.range len0).map F, ⟨?_, .inr ⟨b, off, m, by simp, hbl, ?_⟩⟩, by simp, by omega⟩
      · intro r hr
        obtain ⟨i, hi, rfl⟩ := List.mem_map.1 hr
        exact (hF i (List.mem_range.1 hi)).1
      · intro i hi j u hu
        simp only [List.length_map, List.length_range] at hi
        rw [hg i hi] at hu
        have := (hF i hi).2 j u hu
        rwa [add_off, add_off] at this
/-- a list of records in memory -/
def IsRd (w : World) (v : Value) (rs : List Rec) : Prop :=
  (∀ r ∈ rs, r.lsn < 18446744073709551616) ∧ ((rs = [] ∧ ∃ a c, v = .slice a 0 c) ∨ ∃ b off c, v = .slice (some ⟨b, off, none⟩) rs.length c ∧ b < w.heap.size ∧ ∀ i, i < rs.length → ∀ j u, (rv (rs.getD i zr))[j]? = some u → w.cell? ⟨b, off + i * 4 + j, none⟩ = some u)
theorem IsRd.below {w w' : World} {v : Value} {rs : List Rec} (h : IsRd w v rs) (hb : Below w.heap.size w w') : IsRd w' v rs := by
  obtain ⟨h1, h2 | ⟨b, off, c, rfl, h3, h4⟩⟩ := h
  · exact ⟨h1, .inl h2⟩
  · exact ⟨h1, .inr ⟨b, off, c, rfl, Nat.lt_of_lt_of_le h3 hb.size, fun i hi j u hu => (hb.cell (p := ⟨b, off + i * 4 + j, none⟩) h3).trans (h4 i hi j u hu)⟩⟩
theorem rec_open {H : Type} {enc : TypeId × Value → H} {W : World} {base : Nat} {sp : Nat → Bool} {held : Bool} {fuel : Nat} {cs : List Value} {y : DataW H × List MemPlace} (h : DataW.trod enc Try.prog W base sp held fuel 34 cs = some y) (hl : cs.length = 4) :
    ∃ r : Rec, r.lsn < 18446744073709551616 ∧ cs = (rv r).toList := by
  obtain ⟨xs, k, hk, hxy, _, hxl, hf⟩ := DataW.trod_struct Try.underlying34 h
  obtain ⟨y0, y1, y2, y3, rfl⟩ := list_four (l := xs) hxl
  obtain ⟨v0, v1, v2, v3, rfl⟩ := list_four hl
  have g0 := hf 0 ⟨ "LSN", 26, 0, false, "", "", 0⟩ rfl
  have g1 := hf 1 ⟨ "Kind", 27, 1, false, "", "", 8⟩ rfl
  have g2 := hf 2 ⟨ "Key", 9, 2, false, "", "", 16⟩ rfl
  have g3 := hf 3 ⟨ "Value", 9, 3, false, "", "", 32⟩ rfl
  simp only [cell_u64, List.drop_zero, List.take_succ_cons, List.take_zero, List.getElem?_cons_zero] at g0
  simp only [cell_kind, List.drop_succ_cons, List.drop_zero, List.take_succ_cons, List.take_zero, List.getElem?_cons_succ, List.getElem?_cons_zero] at g1
  simp only [cell_str, List.drop_succ_cons, List.drop_zero, List.take_succ_cons, List.take_zero, List.getElem?_cons_succ, List.getElem?_cons_zero] at g2 g3
  obtain ⟨n0, e0, _, w0⟩ := DataW.trod_int Try.underlying26 g0
  obtain ⟨n1, e1, _, w1⟩ := DataW.trod_int Try.underlying27 g1
  obtain ⟨s2, e2, _, _⟩ := DataW.trod_string Try.underlying9 g2
  obtain ⟨s3, e3, _, _⟩ := DataW.trod_string Try.underlying9 g3
  have hb := wf_u64 w0
  refine ⟨⟨n0.toNat, n1, s2, s3⟩, by show n0.toNat < _; omega, ?_⟩
  simp only [List.cons.injEq, and_true] at e0 e1 e2 e3
  subst e0 e1 e2 e3
  show _ = [Value.int .u64 ((n0.toNat : Nat) : Int), _, _, _]
  rw [show ((n0.toNat : Nat) : Int) = n0 by omega]
theorem recs_open {H : Type} {enc : TypeId × Value → H} {W : World} {fuel : Nat} {y : DataW H × List MemPlace} {a0 : Option Addr} {len0 cap0 : Nat} (h : DataW.trod enc Try.prog W 0 (fun _ => true) true fuel 51 [.slice a0 len0 cap0] = some y) :
    ∃ rs : List Rec, IsRd W (.slice a0 len0 cap0) rs ∧ rs.length = len0 ∧ len0 ≤ maxLen := by
  rcases open_slice Try.underlying51 h with ⟨hcs, _⟩ | ⟨a, len, cap, m, n, D, Pl, hcs, _, hl, hm, hmm, _, hx⟩
  · simp at hcs
    obtain ⟨rfl, rfl, rfl⟩ := hcs
    exact ⟨[], ⟨by simp, .inl ⟨rfl, _, _, rfl⟩⟩, by simp, by simp⟩
  · simp at hcs
    obtain ⟨rfl, rfl, rfl⟩ := hcs
    simp only [if_true] at hmm
    subst hmm
    by_cases h0 : len0 = 0
    · subst h0
      exact ⟨[], ⟨by simp, .inl ⟨rfl, _, _, rfl⟩⟩, by simp, by simp⟩
    · have hel : ∀ i, i < len0 → ∃ r : Rec, r.lsn < 18446744073709551616 ∧ ∀ j u, (rv r)[j]? = some u → W.cell? (a.add (i * 4) |>.add j) = some u := by
        intro i hi
        obtain ⟨cs', h1, h2⟩ := hx i (by omega)
        rw [cell_rec] at h1
        obtain ⟨_, hlen, hcell⟩ := World.cells?_some h1
        obtain ⟨r, hr, rfl⟩ := rec_open h2 hlen
        refine ⟨r, hr, fun j u hu => ?_⟩
        have hj : j < 4 := by
          have := (Array.getElem?_eq_some_iff.1 hu).1
          simpa [rv] using this
        rw [hcell j hj, Array.getElem?_toList]
        exact hu
      haveI : Inhabited Rec := ⟨zr⟩
      obtain ⟨F, hF⟩ := choose_lt hel
      obtain ⟨b, off, spot⟩ := a
      have hc := (hF 0 (by omega)).2 0 _ rfl
      have hspot : spot = none := by simpa [Addr.add] using World.cell?_spot hc
      subst hspot
      have hbl : b < W.heap.size := by
        have := lt_of_cell hc
        rw [add_off, add_off] at this
        exact this
      have hg : ∀ i, i < len0 → ((List.range len0).map F).getD i zr = F i := fun i hi => by
        rw [List.getD_eq_getElem?_getD, List.getElem?_map, List.getElem?_range hi]; rfl
      refine ⟨(List.range len0).map F, ⟨?_, .inr ⟨b, off, m, by simp, hbl, ?_⟩⟩, by simp, by omega⟩
      · intro r hr
        obtain ⟨i, hi, rfl⟩ := List.mem_map.1 hr
        exact (hF i (List.mem_range.1 hi)).1
      · intro i hi j u hu
        simp only [List.length_map, List.length_range] at hi
        rw [hg i hi] at hu
        have := (hF i hi).2 j u hu
        rwa [add_off, add_off] at this
theorem cells_prt : Try.prog.cellTypes Try.prog.depth 36 = some [3, 3, 23] := by kernel_rfl
theorem size_prt : Try.prog.cellsOf 36 = 3 := by kernel_rfl
set_option maxRecDepth 100000 in
/-- a fingerprint that comes in -/
theorem print_arg {w : World} {r : Reach} {base : Nat} {v : Value} (h : Value.okWide Try.prog w r base 36 v) : ∃ (n k : Int) (s : Nat), v = .agg (prl n k s) ∧ s < 4294967296 := by
  obtain ⟨cs, rfl, hsz, ts, hts, _, hcell⟩ := okW_struct Try.underlying36 h
  rw [size_prt] at hsz
  rw [cells_prt] at hts
  injection hts with hts
  subst hts
  obtain ⟨l⟩ := cs
  obtain ⟨v0, v1, v2, rfl⟩ := list_three (l := l) (by simpa using hsz)
  have key : ∀ i v u, (#[v0, v1, v2] : Array Value)[i]? = some v → [3, 3, 23][i % 3]? = some u → Cell.okWide Try.prog w r base u v := by
    intro i v u hv hu
    obtain ⟨u', hu', hc⟩ := hcell i v hv
    have e : some u' = some u := hu'.symm.trans hu
    injection e with e
    subst e
    exact hc
  obtain ⟨n1, rfl, _⟩ := cell_int Try.underlying3 (key 0 _ _ rfl rfl)
  obtain ⟨n2, rfl, _⟩ := cell_int Try.underlying3 (key 1 _ _ rfl rfl)
  obtain ⟨n3, rfl, b3⟩ := cell_int Try.underlying23 (key 2 _ _ rfl rfl)
  have u1 : 0 ≤ n3 ∧ n3 < 4294967296 := has_u32 b3
  obtain ⟨m1, rfl⟩ : ∃ m : Nat, n3 = (m : Int) := ⟨n3.toNat, by omega⟩
  exact ⟨n1, n2, m1, rfl, by omega⟩
end Vt
end Go.Proofs.Ytfnbfgkoicdiaaa
namespace Go.Proofs.Ytfnbfgkoicdiaaa
namespace Vt
theorem ofR_kindH {r : Rec} (h : rf (ofR r) = 0) : r.kind = 1 ∨ r.kind = 2 := by
  have hk : (ofR r).kind = r.kind := rfl
  unfold rf at h
  by_cases c : (ofR r).kind = 1 ∨ (ofR r).kind = 2
  · exact c
  · rw [if_neg c] at h
    by_cases c3 : (ofR r).kind = 3
    · rw [if_pos c3] at h
      have hz : (ofR r).p.kind = 0 := rfl
      unfold rfP at h
      rw [if_pos (by rw [hz]; decide)] at h
      cases h
    · rw [if_neg c3] at h
      by_cases c4 : (ofR r).kind = 4
      · rw [if_pos c4] at h
        unfold rfE at h
        by_cases x : ¬ onD (ofR r).e.count ∨ ¬ onD (ofR r).e.bytes ∨ ¬ onD (ofR r).e.frames
        · rw [if_pos x] at h; cases h
        · rw [if_neg x] at h
          by_cases y : ofR r ≠ ⟨4, zr, zp, (ofR r).e⟩
          · rw [if_pos y] at h; cases h
          · have e : ofR r = ⟨4, zr, zp, (ofR r).e⟩ := Classical.not_not.1 y
            have e2 : (ofR r).r = zr := by rw [e]
            have e3 : r.kind = 0 := by
              have : (ofR r).r = r := rfl
              rw [← this, e2]; rfl
            rw [hk, e3] at c4
            cases c4
      · rw [if_neg c4] at h; cases h
theorem ofR_wf {r : Rec} (h : r.lsn < 18446744073709551616) : (ofR r).Wf := ⟨h, (by decide : (0 : Nat) < 18446744073709551616), (by decide : (0 : Nat) < 4294967296)⟩
/-- the records that may be -/
noncomputable def okr (rs : List Rec) : List Rec := rs.filter fun r => decide (rf (ofR r) = 0)
/-- as a segment -/
noncomputable def sgb (rs : List Rec) : List Nat := (((okr rs).map ofR).map en).flatten
theorem okr_app (a b : List Rec) : okr (a ++ b) = okr a ++ okr b := List.filter_append ..
theorem sgb_app (a b : List Rec) : sgb (a ++ b) = sgb a ++ sgb b := by unfold sgb; rw [okr_app]; simp
theorem take_snocR {rs : List Rec} {k : Nat} {r : Rec} (h : rs[k]? = some r) : rs.take (k + 1) = rs.take k ++ [r] := by
  rw [List.take_add_one, h]; rfl
theorem okr_yes {rs : List Rec} {k : Nat} {r : Rec} (h : rs[k]? = some r) (hr : rf (ofR r) = 0) : okr (rs.take (k + 1)) = okr (rs.take k) ++ [r] := by
  rw [take_snocR h, okr_app]; simp [okr, hr]
theorem okr_no {rs : List Rec} {k : Nat} {r : Rec} (h : rs[k]? = some r) (hr : rf (ofR r) ≠ 0) : okr (rs.take (k + 1)) = okr (rs.take k) := by
  rw [take_snocR h, okr_app]; simp [okr, hr]
theorem sgb_yes {rs : List Rec} {k : Nat} {r : Rec} (h : rs[k]? = some r) (hr : rf (ofR r) = 0) : sgb (rs.take (k + 1)) = sgb (rs.take k) ++ en (ofR r) := by
  unfold sgb; rw [okr_yes h hr]; simp
theorem sgb_no {rs : List Rec} {k : Nat} {r : Rec} (h : rs[k]? = some r) (hr : rf (ofR r) ≠ 0) : sgb (rs.take (k + 1)) = sgb (rs.take k) := by
  unfold sgb; rw [okr_no h hr]
theorem okr_ok {rs : List Rec} (h : ∀ r ∈ rs, r.lsn < 18446744073709551616) : ∀ f ∈ (okr rs).map ofR, f.Wf ∧ rf f = 0 := by
  intro f hf
  obtain ⟨r, hr, rfl⟩ := List.mem_map.1 hf
  obtain ⟨h1, h2⟩ := List.mem_filter.1 hr
  exact ⟨ofR_wf (h r h1), of_decide_eq_true h2⟩
theorem sgb_byt {rs : List Rec} (h : ∀ r ∈ rs, r.lsn < 18446744073709551616) : Byt (sgb rs) := by
  intro x hx
  obtain ⟨q, hq, hxq⟩ := List.mem_flatten.1 hx
  obtain ⟨f, hf, rfl⟩ := List.mem_map.1 hq
  exact en_bytH (okr_ok h f hf).2 x hxq
theorem sgb_locs {rs : List Rec} (h : ∀ r ∈ rs, r.lsn < 18446744073709551616) : locs 0 (sgb rs) = lay 0 ((okr rs).map ofR) := locs_lay (okr_ok h) (sgb_byt h) 0
theorem sgb_may {rs : List Rec} (h : ∀ r ∈ rs, r.lsn < 18446744073709551616) (hl : (sgb rs).length ≤ 4194304) : May (sgb rs) := by
  refine ⟨hl, lay_cl (okr_ok h) (sgb_byt h), ?_⟩
  intro x hx
  rw [sgb_locs h] at hx
  have : x.2.2 ∈ (lay 0 ((okr rs).map ofR)).map fun x => x.2.2 := List.mem_map_of_mem hx
  rw [lay_snd] at this
  obtain ⟨r, hr, e⟩ := List.mem_map.1 this
  rw [← e]
  have hk := ofR_kindH (of_decide_eq_true (List.mem_filter.1 hr).2)
  unfold isRec
  rw [Bool.or_eq_true, decide_eq_true_eq, decide_eq_true_eq]
  exact hk
theorem sgb_count {rs : List Rec} (h : ∀ r ∈ rs, r.lsn < 18446744073709551616) : (locs 0 (sgb rs)).length = (okr rs).length := by
  have := congrArg List.length (lay_snd ((okr rs).map ofR) 0)
  rw [List.length_map, List.length_map] at this
  rw [sgb_locs h, this]
/-- where the record stands that comes next -/
theorem sgb_at {rs : List Rec} (h : ∀ r ∈ rs, r.lsn < 18446744073709551616) {k : Nat} {r : Rec} (hk : rs[k]? = some r) (hr : rf (ofR r) = 0) : (locs 0 (sgb rs))[(okr (rs.take k)).length]? = some ((sgb (rs.take k)).length, (en (ofR r)).length, ofR r) := by
  have hs : rs = rs.take k ++ ([r] ++ rs.drop (k + 1)) := by
    rw [← List.append_assoc, ← take_snocR hk, List.take_append_drop]
  have e : okr rs = okr (rs.take k) ++ ([r] ++ okr (rs.drop (k + 1))) := by
    have := congrArg okr hs
    rw [okr_app, okr_app] at this
    rw [this]; simp [okr, hr]
  have hl : (lay 0 ((okr (rs.take k)).map ofR)).length = (okr (rs.take k)).length := by
    have := congrArg List.length (lay_snd ((okr (rs.take k)).map ofR) 0)
    rwa [List.length_map, List.length_map] at this
  rw [sgb_locs h, e, List.map_append, lay_app, List.getElem?_append_right (by rw [hl]; exact Nat.le_refl _), hl, Nat.sub_self]
  simp [lay, sgb]
open Classical in
theorem chk_pto {l : List Nat} (hb : Byt l) {x : Lc} (hx : x ∈ locs 0 l) (hr : isRec x.2.2 = true) : chk l (pto x) = true := by
  obtain ⟨h1, h2, h3, h4, h5, h6⟩ := locs_mem hb 0 x hx
  have hd : decF l (x.1 : Int) = (x.2.2, x.2.1, 0) := by
    unfold decF
    rw [if_neg (by omega), Int.toNat_natCast]
    exact h3
  unfold chk
  rw [decide_eq_true_eq]
  have : (pto x).at_ = (x.1 : Int) := rfl
  rw [this, hd]
  exact ⟨rfl, hr, rfl⟩
theorem getD_of {α : Type} {l : List α} {k : Nat} {x d : α} (h : l[k]? = some x) : l.getD k d = x := by rw [List.getD_eq_getElem?_getD, h]; rfl
end Vt
end Go.Proofs.Ytfnbfgkoicdiaaa
namespace Go.Proofs.Ytfnbfgkoicdiaaa
open Go.RowKit Go.Shelf
namespace Vt
attribute [local go_sem] Oper.semAt_some
set_option maxRecDepth 100000 in
set_option maxHeartbeats 2000000 in
theorem clean_is10 (va : Option Addr) (vc : Nat) (rs : List Rec) (w : World) (hR : IsRd w (.slice va rs.length vc) rs) (hm : rs.length ≤ maxLen) :
    Calls Try.prog 14 #[.slice va rs.length vc] w fun e w' => ∃ u, e = .returned u ∧ ∃ bs, JB w' w.heap.size u bs ∧ bs.length ≤ 4199304 ∧ (bs = sgb rs ∨ 4194304 < bs.length) ∧ Below w.heap.size w w' := by
  have HR := hd hR
  clear hR
  unfold maxLen at hm
  go_enter Try.func14, Try.ntmps14
  go_wp2_with fail
  go_loopw [3, 4] (fun d i wr => ∃ k : Nat, k ≤ rs.length ∧ i = .int .i64 (k : Int) ∧ (sgb (rs.take k)).length ≤ 4199304 ∧ JB wr w.heap.size d (sgb (rs.take k)) ∧ Below w.heap.size w wr) (fun _ i _ => rs.length - (intOf i).toNat)
  case atStart => exact ⟨0, by omega, rfl, by simp [sgb, okr], jb_nil _ _, Below.refl _ _⟩
  case round =>
    obtain ⟨k, hk, rfl, hl, hjd, hbw⟩ := hrel
    have HJD := hd hjd
    have HBW := hd hbw
    have hsz := hbw.size
    clear hjd hbw
    obtain ⟨bs, hbs⟩ : ∃ bs, bs = sgb (rs.take k) := ⟨_, rfl⟩
    rw [← hbs] at hl HJD
    have HBS := hd hbs
    clear hbs
    obtain ⟨ad, cd, hsd, _⟩ := HJD.out.shape
    subst hsd
    by_cases hlt : k < rs.length
    · by_cases hbig : bs.length ≤ 4194304
      · obtain ⟨hlsn, ⟨he, _⟩ | ⟨b, off, c, he, hbl, hcell⟩⟩ := HR.out
        · subst he; simp at hlt
        · injection he with e1 e2 e3
          subst e1 e3
          obtain ⟨r, hr⟩ : ∃ r, rs[k]? = some r := ⟨_, List.getElem?_eq_getElem hlt⟩
          have hrl : r.lsn < 18446744073709551616 := hlsn r (List.mem_of_getElem? hr)
          have hc := hcell k hlt
          rw [getD_of hr] at hc
          have HBC := HBW.out
          have r0 : wr.cell? ⟨b, off + k * 4, none⟩ = some (.int .u64 (r.lsn : Int)) := (HBC.cell (p := ⟨b, off + k * 4, none⟩) hbl).trans (hc 0 _ rfl)
          have r1 : wr.cell? ⟨b, off + k * 4 + 1, none⟩ = some (.int .i64 r.kind) := (HBC.cell (p := ⟨b, off + k * 4 + 1, none⟩) hbl).trans (hc 1 _ rfl)
          have r2 : wr.cell? ⟨b, off + k * 4 + 2, none⟩ = some (.string r.key) := (HBC.cell (p := ⟨b, off + k * 4 + 2, none⟩) hbl).trans (hc 2 _ rfl)
          have r3 : wr.cell? ⟨b, off + k * 4 + 3, none⟩ = some (.string r.val) := (HBC.cell (p := ⟨b, off + k * 4 + 3, none⟩) hbl).trans (hc 3 _ rfl)
          clear hcell hc hlsn e2 HBC
          have HOF := hd (of_is r)
          have hbig2 : (bs.length : Int) ≤ 4194304 := by omega
          by_cases hrf : rf (ofR r) = 0
          · have HE := hd (encF_all (ofR_wf hrl) hrf)
            have hes := en_small (ofR_wf hrl) hrf
            have HN := hd (sgb_yes hr hrf)
            rw [← HBS.out] at HN
            obtain ⟨el, hel⟩ : ∃ el, el = en (ofR r) := ⟨_, rfl⟩
            rw [← hel] at HE hes HN
            obtain ⟨rl, rk, rkey, rval⟩ := r
            simp only [rv, fv, ofR, zp, ze] at HOF HE r0 r1 r2 r3
            clear hrf hel hr
            go_wp2_with fail
            refine Calls.mono (HOF.out _) ?_
            rintro e w2 ⟨rfl, hw2⟩
            have hb2 : Below wr.heap.size wr w2 := hw2 ▸ (((Below.refl _ wr).alloc (Nat.le_refl _) _).alloc (by simp) _)
            have HJ2 := hd (HJD.out.keepAll hb2)
            have HB2 := hd (HBW.out.trans (hb2.mono hsz))
            have hs2 := hb2.size
            clear hb2 hw2 HOF
            go_wp2_with fail
            refine Calls.mono (HE.out _) ?_
            rintro e w3 ⟨u, rfl, hj3, hb3⟩
            have HJ3 := hd (HJ2.out.keepAll hb3)
            have HB3 := hd (HB2.out.trans (hb3.mono (by omega)))
            have HU := hd hj3.isB
            have hs3 := hb3.size
            obtain ⟨au, cu, hue⟩ := HU.out.shape
            subst hue
            clear hb3 hj3 HE
            go_wp2_with (at_builtin; refine wpList_append_jb _ rfl _ _ rfl w.heap.size (.slice ad bs.length cd) (.slice au el.length cu) bs el rfl rfl HJ3.out HU.out (bs.length + el.length) rfl (bs ++ el) rfl (by omega) (by omega) ?_; intro a4 c4 w4 hj4 hg4 hc4; have HJ4 := hd hj4; have HB4 := hd (JB.grown HJ3.out HB3.out (Nat.le_refl _) (by omega) hg4); clear hj4 hg4 hc4)
            go_roundw
            case rel => exact ⟨k + 1, by omega, by go_num, by rw [HN.out, List.length_append]; omega, by rw [HN.out]; exact HJ4.out, HB4.out⟩
            case measure => simp [intOf]; omega
          · have HE := hd (fun w => encF_no (ofR r) w hrf)
            have hne : ((rf (ofR r) : Int) == 0) = false := by simp; omega
            have HN := hd (sgb_no hr hrf)
            rw [← HBS.out] at HN
            generalize rf (ofR r) = er at *
            obtain ⟨rl, rk, rkey, rval⟩ := r
            simp only [rv, fv, ofR, zp, ze] at HOF HE r0 r1 r2 r3
            clear hrf hr
            go_wp2_with fail
            refine Calls.mono (HOF.out _) ?_
            rintro e w2 ⟨rfl, hw2⟩
            have hb2 : Below wr.heap.size wr w2 := hw2 ▸ (((Below.refl _ wr).alloc (Nat.le_refl _) _).alloc (by simp) _)
            have HJ2 := hd (HJD.out.keepAll hb2)
            have HB2 := hd (HBW.out.trans (hb2.mono hsz))
            have hs2 := hb2.size
            clear hb2 hw2 HOF
            go_wp2_with fail
            refine Calls.mono (HE.out _) ?_
            rintro e w3 ⟨rfl, hb3⟩
            have HJ3 := hd (HJ2.out.keepAll hb3)
            have HB3 := hd (HB2.out.trans (hb3.mono (by omega)))
            clear hb3 HE
            go_wp2_with fail
            go_roundw
            case rel => exact ⟨k + 1, by omega, by go_num, by rw [HN.out]; omega, by rw [HN.out]; exact HJ3.out, HB3.out⟩
            case measure => simp [intOf]; omega
      · have hbig2 : ¬ (bs.length : Int) ≤ 4194304 := by omega
        go_wp2_with fail
        go_ret
        exact ⟨_, rfl, bs, HJD.out, hl, .inr (by omega), HBW.out⟩
    · have hkk : k = rs.length := by omega
      have HT := hd (show bs = sgb rs by rw [HBS.out, hkk, List.take_length])
      clear hkk
      go_wp2_with fail
      go_ret
      exact ⟨_, rfl, bs, HJD.out, hl, .inl HT.out, HBW.out⟩
end Vt
end Go.Proofs.Ytfnbfgkoicdiaaa
