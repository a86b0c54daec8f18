/-
  'append(own, x...)' AS A LAW FOR THE WALK: own: a list of bytes of the call's own (nil too); x: any slice of bytes (nil, empty too).
  THE WALKS OF slices.Grow (of nil) and slices.Concat of lists of bytes: one row of the call's own, all lists one behind the other.
-/
import Derived.Test.YtcldcompflgbpaaMac
import Derived.Lib.AppendZeros
namespace Go.Proofs.Ytcldcompflgbpaa
open Go.RowKit
namespace Vt
theorem JB.shape {w : World} {base : Nat} {v : Value} {l : List Nat} (h : JB w base v l) : ∃ a c, v = .slice a l.length c ∧ l.length ≤ c := by
  rcases h.2.2 with ⟨rfl, e⟩ | ⟨g, cap, cur, rfl, _, _, hl, _⟩
  · exact ⟨none, 0, by rw [e], by omega⟩
  · exact ⟨_, cap, rfl, hl⟩
theorem JB.lt {w : World} {base g n cap : Nat} {l : List Nat} (h : JB w base (.slice (some ⟨g, 0, none⟩) n cap) l) : g < w.heap.size ∧ base ≤ g := by
  rcases h.2.2 with ⟨h, _⟩ | ⟨g', cap', cur, h, hb, hh, _⟩
  · cases h
  · injection h with h1 h2 h3
    injection h1 with h1
    injection h1 with h1
    subst h1
    exact ⟨(Array.getElem?_eq_some_iff.1 hh).1, hb⟩
/-- what is below stays -/
theorem JB.keep {w w' : World} {base k : Nat} {v : Value} {l : List Nat} (h : JB w base v l) (hk : ∀ g, v.ownBlock = some g → g < k) (hb : Below k w w') : JB w' base v l := by
  obtain ⟨h1, h0, ⟨rfl, e⟩ | ⟨g', cap', cur, rfl, hbs, hh, hr⟩⟩ := h
  · exact ⟨h1, h0, .inl ⟨rfl, e⟩⟩
  · refine ⟨h1, h0, .inr ⟨g', cap', cur, rfl, hbs, ?_, hr⟩⟩
    rw [hb.block g' (hk g' rfl)]; exact hh
theorem JB.keepAll {w w' : World} {base : Nat} {v : Value} {l : List Nat} (h : JB w base v l) (hb : Below w.heap.size w w') : JB w' base v l := by
  refine h.keep (fun g hg => ?_) hb
  obtain ⟨_, _, ⟨rfl, e⟩ | ⟨g', cap', cur, rfl, hbs, hh, hr⟩⟩ := h
  · cases hg
  · cases hg
    exact (Array.getElem?_eq_some_iff.1 hh).1
theorem run_append_jb (ty : TypeId) (w : World) (base : Nat) (v u : Value) (l r : List Nat) (hJ : JB w base v l) (hI : IsB w u r) (hb : l.length + r.length ≤ 140737488355328) (hbase : base ≤ w.heap.size) :
    ∃ a' cap w', (Builtin.append_ #[22, 22] ty #[v, u]).run Try.prog w = .ok (.slice a' (l.length + r.length) cap) w' ∧ JB w' base (.slice a' (l.length + r.length) cap) (l ++ r) ∧ w.grownBy w' v.ownBlock := by
  obtain ⟨i0, hi, hz0, hz1, hz2⟩ := info_parts info_u8
  by_cases h0 : r.length = 0
  · obtain rfl : r = [] := List.length_eq_zero_iff.1 h0
    obtain ⟨a, c, rfl⟩ := hI.shape
    obtain ⟨a', c', rfl, hlc⟩ := hJ.shape
    refine ⟨a', c', w, ?_, ?_, World.grownBy.refl _ _⟩
    · cases a <;> cases a' <;> simp [Builtin.append_, run_underlying Try.underlying22, sizeOf, typeInfo, hi, hlc, Builtin.lenOf, Builtin.firstCells, storeCells, loadCells, loadCellsFrom]
    · simpa using hJ
  · obtain ⟨hbl, hml, ⟨rfl, _⟩ | ⟨bb, oo, cc, rfl, hlc, hcm, hbb, hrow⟩⟩ := hI
    · simp at h0
    · have hlen : (bs r).length = r.length * 1 := by simp [bs]
      obtain ⟨g, cap, w', hr, h2, h3, _, _⟩ := run_append_lies (P := Try.prog) w 22 ty base 5 i0 (.int .u8 0) 1 1 Try.underlying22 hi hz0 hz1 hz2 rfl (by decide) v l.length (bs l) hJ.2 ⟨bb, oo, none⟩ r.length cc (bs r) hlen (news_of_row hrow) (bs_one r) (by omega) (by unfold maxLen; omega) (by omega) hbase w.heap.size rfl
      refine ⟨_, cap, w', hr, ⟨byt_app hJ.1 hbl, ?_⟩, h3⟩
      rw [bs_app] at h2
      rw [List.length_append]; exact h2
/-- .. for the walk: k: the new length, R: the new list -/
theorem wpList_append_jb (w : World) {ops : Array Oper} {rest : List Oper} {o : Oper} {a : Act} {Q : Exit → Act → World → Prop} (hgd : o.guard = none) (s x : Operand)
    (ho : o.op = .call { callee := .builtin .append, args := #[s, x], argTypes := #[22, 22] })
    (base : Nat) (v u : Value) (l r : List Nat) (hs : a.eval s = v) (hx : a.eval x = u) (hJ : JB w base v l) (hI : IsB w u r) (k : Nat) (hk : l.length + r.length = k) (R : List Nat) (hR : l ++ r = R) (hb : k ≤ 140737488355328) (hbase : base ≤ w.heap.size)
    (h : ∀ a' cap w', JB w' base (.slice a' k cap) R → w.grownBy w' v.ownBlock → k ≤ cap → wpList Try.prog ops Q rest (a.put o.dst (.slice a' k cap)) w') : wpList Try.prog ops Q (o :: rest) a w := by
  subst hk hR
  refine wpList_plain hgd fun K hK => ?_
  obtain ⟨a', cap, w', hr, h2, h3⟩ := run_append_jb o.type w base v u l r hJ hI hb hbase
  unfold Oper.wp execOp
  simp only [ho, resolve, invoke, builtin, Sem.run_bind, Sem.run_pure, Result.andThen_ok, List.map_toArray, List.map_cons, List.map_nil, hs, hx, hr]
  refine hK _ _ (h a' cap w' h2 h3 ?_)
  obtain ⟨a2, c2, e, hle⟩ := h2.shape
  injection e with e1 e2 e3
  rw [List.length_append] at hle
  omega
/-- .. guarded, where the guard holds: k: the new length, R: the new list -/
theorem wpList_append_jbG (w : World) {ops : Array Oper} {rest : List Oper} {o : Oper} {a : Act} {Q : Exit → Act → World → Prop} (hgd : Region.wanted o (yielded ops a.tmps) = true) (s x : Operand)
    (ho : o.op = .call { callee := .builtin .append, args := #[s, x], argTypes := #[22, 22] })
    (base : Nat) (v u : Value) (l r : List Nat) (hs : a.eval s = v) (hx : a.eval x = u) (hJ : JB w base v l) (hI : IsB w u r) (k : Nat) (hk : l.length + r.length = k) (R : List Nat) (hR : l ++ r = R) (hb : k ≤ 140737488355328) (hbase : base ≤ w.heap.size)
    (h : ∀ a' cap w', JB w' base (.slice a' k cap) R → w.grownBy w' v.ownBlock → k ≤ cap → wpList Try.prog ops Q rest (a.put o.dst (.slice a' k cap)) w') : wpList Try.prog ops Q (o :: rest) a w := by
  subst hk hR
  refine wpList_step fun K hK => ?_
  rw [if_pos hgd]
  obtain ⟨a', cap, w', hr, h2, h3⟩ := run_append_jb o.type w base v u l r hJ hI hb hbase
  unfold Oper.wp execOp
  simp only [ho, resolve, invoke, builtin, Sem.run_bind, Sem.run_pure, Result.andThen_ok, List.map_toArray, List.map_cons, List.map_nil, hs, hx, hr]
  refine hK _ _ (h a' cap w' h2 h3 ?_)
  obtain ⟨a2, c2, e, hle⟩ := h2.shape
  injection e with e1 e2 e3
  rw [List.length_append] at hle
  omega
/-- what grew leaves all below as it was, where the row is the call's own -/
theorem JB.grown {w w' : World} {base : Nat} {v : Value} {l : List Nat} {n : Nat} {w0 : World} (hJ : JB w base v l) (hb : Below n w0 w) (hn : n ≤ base) (hn2 : n ≤ w.heap.size) (hg : w.grownBy w' v.ownBlock) : Below n w0 w' := by
  refine hb.grown hg hn2 fun k hk => ?_
  obtain ⟨_, _, ⟨rfl, e⟩ | ⟨g', cap', cur, rfl, hbs, hh, hr⟩⟩ := hJ
  · cases hk
  · cases hk
    exact Nat.le_trans hn hbs
/-- a slice elsewhere reads as it did, where a row of the call's own has grown -/
theorem IsK.grown {k : IntKind} {M : Nat} {w w' : World} {row : Option Nat} {v : Value} {l : List Nat} (h : IsK k M w v l) (hg : w.grownBy w' row) (hne : ∀ b off n c, v = .slice (some ⟨b, off, none⟩) n c → some b ≠ row) : IsK k M w' v l := by
  obtain ⟨h1, h2, ⟨rfl, a, c, rfl⟩ | ⟨b, off, c, rfl, h3, h4, h5, h6⟩⟩ := h
  · exact ⟨h1, h2, .inl ⟨rfl, a, c, rfl⟩⟩
  · refine ⟨h1, h2, .inr ⟨b, off, c, rfl, h3, h4, Nat.lt_of_lt_of_le h5 hg.size, fun j hj => ?_⟩⟩
    rw [World.cell?_of_block (a := ⟨b, off + j, none⟩) (hg.block b h5 (hne _ _ _ _ rfl))]; exact h6 j hj
theorem JB.blk_lt {w : World} {base : Nat} {v : Value} {l : List Nat} (h : JB w base v l) : ∀ g, v.ownBlock = some g → g < w.heap.size := by
  intro g hg
  obtain ⟨_, _, ⟨rfl, e⟩ | ⟨g', cap', cur, rfl, hbs, hh, hr⟩⟩ := h
  · cases hg
  · cases hg
    exact (Array.getElem?_eq_some_iff.1 hh).1
theorem JB.blk_ge {w : World} {base : Nat} {v : Value} {l : List Nat} (h : JB w base v l) : ∀ b off n c, v = .slice (some ⟨b, off, none⟩) n c → base ≤ b := by
  intro b off n c hv
  obtain ⟨_, _, ⟨rfl, e⟩ | ⟨g', cap', cur, rfl, hbs, hh, hr⟩⟩ := h
  · cases hv
  · injection hv with e1
    injection e1 with e1
    injection e1 with e1
    omega
theorem jb_nil (w : World) (base : Nat) : JB w base (.slice none 0 0) [] := ⟨byt_nil, own_nil _ _⟩
end Vt
end Go.Proofs.Ytcldcompflgbpaa
namespace Go.Proofs.Ytcldcompflgbpaa
open Go.RowKit
namespace Vt
theorem zeros_jb (w : World) (n cap : Nat) (hn : n ≤ cap) (hm : cap ≤ maxLen) : JB (w.drew.alloc (.cells (Builtin.zeroCells (Value.int .u8 0).cells n ++ Builtin.zeroCells (Value.int .u8 0).cells (cap - n)) 5)) w.heap.size (.slice (some ⟨w.heap.size, 0, none⟩) 0 cap) [] := by
  refine ⟨byt_nil, by simp [bs], .inr ⟨w.heap.size, cap, Builtin.zeroCells (Value.int .u8 0).cells n ++ Builtin.zeroCells (Value.int .u8 0).cells (cap - n), rfl, Nat.le_refl _, ?_, Nat.zero_le _, hm, ?_, by simp [bs]⟩⟩
  · show (w.drew.heap.push _)[w.heap.size]? = _
    rw [show w.heap.size = w.drew.heap.size from rfl, Array.getElem?_push_size]
  · simp [Builtin.zeroCells, Value.cells]; omega
set_option maxRecDepth 100000 in
set_option maxHeartbeats 400000 in
theorem grow_nil (n : Nat) (w : World) (h0 : 0 < n) (hm : n ≤ 140737488355328) :
    Calls Try.prog 99 #[.slice none 0 0, .int .i64 (n : Int)] w fun e w' => ∃ cap, e = .returned (.slice (some ⟨w.heap.size, 0, none⟩) 0 cap) ∧ JB w' w.heap.size (.slice (some ⟨w.heap.size, 0, none⟩) 0 cap) [] ∧ Below w.heap.size w w' := by
  obtain ⟨i0, hi, hz0, hz1, hz2⟩ := info_parts info_u8
  have hrun := fun (ty : TypeId) => Lib.run_append_nil_zeros (P := Try.prog) w 22 3 ty 5 i0 (.int .u8 0) .i64 .i64 Try.underlying22 Try.underlying3 hi hz0 n h0 (by omega) (by omega) (by rw [hz2]; omega)
  have hge := grownCap_ge w n 0 5
  have hle := grownCap_le_maxLen w n 0 5 (by unfold maxLen; omega)
  have HJ := hd (zeros_jb w n _ hge hle)
  have hle2 := hle
  unfold maxLen at hle2
  generalize grownCap w n 0 5 = cap at *
  have HB : Hid (Below w.heap.size w (w.drew.alloc (.cells (Builtin.zeroCells (Value.int .u8 0).cells n ++ Builtin.zeroCells (Value.int .u8 0).cells (cap - n)) 5))) := (below_drewN (Below.refl _ _) 1).alloc (Nat.le_refl _) _
  generalize (w.drew.alloc (.cells (Builtin.zeroCells (Value.int .u8 0).cells n ++ Builtin.zeroCells (Value.int .u8 0).cells (cap - n)) 5)) = w1 at *
  go_enter Try.func99, Try.ntmps99
  go_wp2_with (at_builtin; refine Lib.wpList_append_run _ rfl _ _ _ _ rfl _ _ rfl rfl _ _ (hrun _) ?_)
  go_ret
  exact ⟨cap, rfl, HJ.out, HB.out⟩
/-- a slice of slices of bytes -/
def Ps (w : World) (b off : Nat) (ls : List (List Nat)) : Prop := ∀ i, i < ls.length → ∃ v, w.cell? ⟨b, off + i, none⟩ = some v ∧ IsB w v (ls.getD i [])
theorem ps_succ {ls : List (List Nat)} {k : Nat} (h : k < ls.length) : (ls.take (k + 1)).flatten = (ls.take k).flatten ++ ls.getD k [] := by
  rw [List.take_succ_eq_append_getElem h, List.getD_eq_getElem?_getD, List.getElem?_eq_getElem h, List.flatten_append]; simp
theorem ps_le (ls : List (List Nat)) (k : Nat) : (ls.take k).flatten.length ≤ ls.flatten.length := by
  have : ls.flatten = (ls.take k).flatten ++ (ls.drop k).flatten := by rw [← List.flatten_append, List.take_append_drop]
  rw [this, List.length_append]; omega
set_option maxRecDepth 100000 in
set_option maxHeartbeats 400000 in
theorem concat_row (b off c : Nat) (ls : List (List Nat)) (w : World) (hb : b < w.heap.size) (hn : ls.length ≤ 1000) (hP : Ps w b off ls) (h0 : 0 < ls.flatten.length) (hm : ls.flatten.length ≤ 140737488355328) :
    Calls Try.prog 80 #[.slice (some ⟨b, off, none⟩) ls.length c] w fun e w' => ∃ u, e = .returned u ∧ JB w' w.heap.size u ls.flatten ∧ Below w.heap.size w w' := by
  have HP := hd hP
  clear hP
  have HG := hd (grow_nil ls.flatten.length w h0 hm)
  have HPS := hd (ps_le ls)
  generalize hT : ls.flatten.length = T at *
  have HT := hd hT
  clear hT
  go_enter Try.func80, Try.ntmps80
  go_wp2_with fail
  go_loop [3, 11] (fun s i => ∃ k : Nat, k ≤ ls.length ∧ i = .int .i64 (k : Int) ∧ s = .int .i64 (((ls.take k).flatten.length : Nat) : Int)) (fun _ i => ls.length - (intOf i).toNat)
  case atStart => exact ⟨0, by omega, rfl, rfl⟩
  case round =>
    obtain ⟨k, hk, rfl, rfl⟩ := hrel
    by_cases hlt : k < ls.length
    · obtain ⟨v, hv, hB⟩ := HP.out k hlt
      have he := congrArg List.length (ps_succ hlt)
      have hle := HPS.out (k + 1)
      rw [List.length_append] at he
      rw [he] at hle
      have HE := hd he
      clear he
      obtain ⟨a, c', e⟩ := hB.shape
      subst e
      clear hB
      generalize (ls.take k).flatten.length = s at *
      generalize (ls.getD k []).length = d at *
      go_wp2_with fail
      go_round
      case rel => exact ⟨k + 1, hlt, by go_num, by rw [HE.out]; rfl⟩
      case measure => simp [intOf]; omega
    · obtain rfl : k = ls.length := by omega
      rw [List.take_length, HT.out]
      go_wp2_with fail
      refine Calls.mono HG.out ?_
      rintro e w1 ⟨cap, rfl, hJ1, hB1⟩
      have HJ1 := hd hJ1
      have HB1 := hd hB1
      clear hJ1 hB1 HG
      go_wp2_with fail
      go_loopw [6, 27] (fun v i wr => ∃ k : Nat, k ≤ ls.length ∧ i = .int .i64 (k : Int) ∧ JB wr w.heap.size v (ls.take k).flatten ∧ Below w.heap.size w wr) (fun _ i _ => ls.length - (intOf i).toNat)
      case atStart => exact ⟨0, by omega, rfl, HJ1.out, HB1.out⟩
      case round =>
        obtain ⟨k, hk, rfl, hJ, hBB⟩ := hrel
        have HJ := hd hJ
        have HBB := hd hBB
        clear hJ hBB HJ1 HB1
        by_cases hlt : k < ls.length
        · obtain ⟨u, hv, hB⟩ := HP.out k hlt
          have HI := hd (hB.below HBB.out)
          have hc : wr.cell? ⟨b, off + k, none⟩ = some u := by rw [HBB.out.cell hb]; exact hv
          have HE := hd (ps_succ hlt)
          have hle := HPS.out (k + 1)
          have hl2 := congrArg List.length HE.out
          rw [List.length_append] at hl2
          have hsz := HBB.out.size
          clear hv hB
          obtain ⟨R, hR⟩ : ∃ R, R = (ls.take (k + 1)).flatten := ⟨_, rfl⟩
          obtain ⟨A, hA⟩ : ∃ A, A = (ls.take k).flatten := ⟨_, rfl⟩
          obtain ⟨D, hD⟩ : ∃ D, D = ls.getD k [] := ⟨_, rfl⟩
          rw [← hR, ← hA, ← hD] at HE
          rw [← hR] at hle hl2
          rw [← hA, ← hD] at hl2
          rw [← hA] at HJ
          rw [← hD] at HI
          have HR := hd hR
          clear hR hA hD
          go_wp2_with (at_builtin; refine wpList_append_jb _ rfl _ _ rfl w.heap.size _ _ _ _ rfl rfl HJ.out HI.out _ hl2.symm _ HE.out.symm (by omega) hsz ?_; intro a2 cap2 w2 hJ2 hg2 hc2)
          have HJ2 := hd hJ2
          have HB2 := hd (HJ.out.grown HBB.out (Nat.le_refl _) hsz hg2)
          clear hJ2 hg2
          go_roundw
          case rel => exact ⟨k + 1, hlt, by go_num, by rw [← HR.out]; have := HJ2.out; rw [hl2] at this; exact this, HB2.out⟩
          case measure => simp [intOf]; omega
        · obtain rfl : k = ls.length := by omega
          rw [List.take_length] at HJ
          go_wp2_with fail
          go_ret
          exact ⟨_, rfl, HJ.out, HBB.out⟩
end Vt
end Go.Proofs.Ytcldcompflgbpaa
