/-
  THE WALK OF escape.Next: bytes.IndexByte by the library's contract, laid at this program's numbers.
  'append(own, x...)' AS A LAW FOR THE WALK: own: a list of bytes of the call's own (nil too); x: any slice of bytes (nil, empty too).
  ROWS OF INTEGERS OF THE CALL'S OWN, of any kind ('JK'): 'append' as a law for the walk; whole blocks of cells ('Blk').
-/
import Derived.Test.YtlddogigbodilaaMac
import Derived.Shelf.Bytes.IndexByte
import Derived.Test.YtlddogigbodilaaMaa
namespace Go.Proofs.Ytlddogigbodilaa
open Go.RowKit
namespace Vt
def ixRen : Go.Shelf.Ren := ⟨fun | 187 => 96 | 255 => 111 | n => n, fun | 3 => 3 | 5 => 5 | 37 => 22 | n => n, fun | n => n⟩
theorem ixLays : Go.Proofs.Lays.n187 Try.prog ixRen := {
  mixed := by kernel_rfl
  f187 := Try.func96.trans (congrArg some (by kernel_rfl))
  f255 := Try.func111.trans (congrArg some (by kernel_rfl))
  t3 := Try.underlying3
  a3 := Try.isAgg3
  z3 := Try.sizeOf3
  v3 := Try.zeroValue3
  t5 := Try.underlying5
  a5 := Try.isAgg5
  z5 := Try.sizeOf5
  v5 := Try.zeroValue5
  t37 := Try.underlying22
  a37 := Try.isAgg22
  z37 := Try.sizeOf22
  v37 := Try.zeroValue22 }
/-- the place of the first lead byte; how many bytes there are, if there is none -/
def nx (l : List Nat) : Nat := l.findIdx (· == 167)
theorem nx_le (l : List Nat) : nx l ≤ l.length := List.findIdx_le_length
def ixv (l : List Nat) : Int := if nx l < l.length then ((nx l : Nat) : Int) else -1
theorem ix_is {l : List Nat} (hb : Byt l) : Lib.indexByte (Lib.bytesOf (l.map fun x => ((x : Nat) : Int))) (167 : Int).toNat.toUInt8 = ixv l := by
  induction l with
  | nil => rfl
  | cons x r ih =>
    have ih2 := ih fun y hy => hb y (List.mem_cons_of_mem _ hy)
    have hx := hb x List.mem_cons_self
    have hrl := nx_le r
    rw [show Lib.bytesOf ((x :: r).map fun x => ((x : Nat) : Int)) = x.toUInt8 :: Lib.bytesOf (r.map fun x => ((x : Nat) : Int)) by simp [Lib.bytesOf], Lib.indexByte, ih2]
    unfold ixv at *
    have hc : nx (x :: r) = if x = 167 then 0 else nx r + 1 := by
      unfold nx
      rw [List.findIdx_cons]
      by_cases h : x = 167
      · subst h; rfl
      · have : (x == 167) = false := by rw [beq_eq_false_iff_ne]; exact h
        rw [this, if_neg h]; rfl
    rw [hc]
    by_cases h : x = 167
    · subst h; simp
    · have hne : (x.toUInt8 == (167 : Int).toNat.toUInt8) = false := by
        rw [beq_eq_false_iff_ne]
        intro e
        have := congrArg UInt8.toNat e
        simp at this
        omega
      rw [hne, if_neg h]
      simp only [List.length_cons]
      generalize nx r = m at *
      by_cases h2 : m < r.length
      · have : (((m : Nat) : Int) == -1) = false := by rw [beq_eq_false_iff_ne]; omega
        have h3 : m + 1 < r.length + 1 := by omega
        simp [h2, this]
      · have h3 : ¬ m + 1 < r.length + 1 := by omega
        simp [h2]
theorem index_is (b off n c : Nat) (l : List Nat) (w : World) (hn : n = l.length) (hb : Byt l) (hr : Row w b off l) :
    Calls Try.prog 96 #[.slice (some ⟨b, off, none⟩) n c, .int .u8 167] w fun e w' => e = .returned (.int .i64 (ixv l)) ∧ w' = w := by
  subst hn
  have := Any.bytes_IndexByte ixLays b off l.length c (l.map fun x => ((x : Nat) : Int)) 167 w (by simp) (fun i hi => by
    rw [hr i hi, List.getD_eq_getElem?_getD, List.getD_eq_getElem?_getD, List.getElem?_map, List.getElem?_eq_getElem hi]; rfl)
  rw [ix_is hb] at this
  exact this
/-- the place from which one looks -/
def frm (n : Nat) (z : Int) : Nat := min z.toNat n
def nxt (l : List Nat) (z : Int) : Nat := frm l.length z + nx (l.drop (frm l.length z))
set_option maxRecDepth 100000 in
set_option maxHeartbeats 400000 in
theorem next_row (b off c : Nat) (l : List Nat) (z : Int) (w : World) (hb : Byt l) (hr : Row w b off l) (hlc : l.length ≤ c) (hcm : c ≤ maxLen) :
    Calls Try.prog 77 #[.slice (some ⟨b, off, none⟩) l.length c, .int .i64 z] w fun e w' => e = .returned (.int .i64 ((nxt l z : Nat) : Int)) ∧ w' = w := by
  unfold maxLen at hcm
  obtain ⟨f, hf⟩ : ∃ f, f = frm l.length z := ⟨_, rfl⟩
  have hfl : f ≤ l.length := by rw [hf]; unfold frm; omega
  have e1 : min (max z 0) ((l.length : Nat) : Int) = (f : Int) := by rw [hf]; unfold frm; omega
  have hdl : (l.drop f).length = l.length - f := List.length_drop
  have HC : Hid (∀ o' : Nat, (f < l.length → o' = off + f) → Calls Try.prog 96 #[.slice (some ⟨b, o', none⟩) (l.length - f) (c - f), .int .u8 167] w fun e w' => e = .returned (.int .i64 (ixv (l.drop f))) ∧ w' = w) := by
    intro o' ho
    refine index_is b o' _ _ (l.drop f) w hdl.symm (byt_drop hb f) fun k hk => ?_
    rw [hdl] at hk
    rw [ho (by omega), Nat.add_assoc, hr (f + k) (by omega), List.getD_eq_getElem?_getD, List.getD_eq_getElem?_getD, List.getElem?_drop]
  have HN : Hid (nxt l z = f + nx (l.drop f)) := by
    show nxt l z = _
    unfold nxt; rw [hf]
  have hnx := nx_le (l.drop f)
  rw [hdl] at hnx
  have HX : Hid (ixv (l.drop f) = if nx (l.drop f) < l.length - f then ((nx (l.drop f) : Nat) : Int) else -1) := by
    show ixv (l.drop f) = _
    unfold ixv; rw [hdl]
  rw [HN.out]
  generalize nx (l.drop f) = q at *
  clear hf hr hb hdl
  by_cases hcf : c = f
  · have hlf : l.length = f := by omega
    have hq0 : q = 0 := by omega
    have HV : Hid (ixv (l.drop f) = -1) := by
      show ixv (l.drop f) = -1
      rw [HX.out, if_neg (by omega)]
    have HC2 := hd (HC.out off (by omega))
    rw [HV.out, hlf, hcf, Nat.sub_self] at HC2
    rw [hlf] at e1
    rw [hlf, hq0]
    subst hcf
    clear HX HV HN HC hlf hlc hnx hq0 hfl
    go_enter Try.func77, Try.ntmps77
    go_wp2_with fail
    refine Calls.mono HC2.out ?_
    rintro e w' ⟨rfl, rfl⟩
    clear HC2
    go_wp2_with fail
    go_ret
    exact ⟨rfl, rfl⟩
  · have HC2 := hd (HC.out (off + f) (fun _ => rfl))
    by_cases hq : q < l.length - f
    · have HV : Hid (ixv (l.drop f) = (q : Int)) := by
        show ixv (l.drop f) = (q : Int)
        rw [HX.out, if_pos hq]
      rw [HV.out] at HC2
      clear HX HV HN HC
      go_enter Try.func77, Try.ntmps77
      go_wp2_with fail
      refine Calls.mono HC2.out ?_
      rintro e w' ⟨rfl, rfl⟩
      clear HC2
      go_wp2_with fail
      go_ret
      exact ⟨rfl, rfl⟩
    · have HV : Hid (ixv (l.drop f) = -1) := by
        show ixv (l.drop f) = -1
        rw [HX.out, if_neg hq]
      rw [HV.out] at HC2
      have hfq : f + q = l.length := by omega
      rw [hfq]
      clear HX HV HN HC
      go_enter Try.func77, Try.ntmps77
      go_wp2_with fail
      refine Calls.mono HC2.out ?_
      rintro e w' ⟨rfl, rfl⟩
      clear HC2
      go_wp2_with fail
      go_ret
      exact ⟨rfl, rfl⟩
end Vt
end Go.Proofs.Ytlddogigbodilaa
namespace Go.Proofs.Ytlddogigbodilaa
open Go.RowKit
namespace Vt
theorem JB.shape {w : World} {base : Nat} {v : Value} {l : List Nat} (h : JB w base v l) : ∃ a c, v = .slice a l.length c ∧ l.length ≤ c := by
  rcases h.2.2 with ⟨rfl, e⟩ | ⟨g, cap, cur, rfl, _, _, hl, _⟩
  · exact ⟨none, 0, by rw [e], by omega⟩
  · exact ⟨_, cap, rfl, hl⟩
theorem JB.lt {w : World} {base g n cap : Nat} {l : List Nat} (h : JB w base (.slice (some ⟨g, 0, none⟩) n cap) l) : g < w.heap.size ∧ base ≤ g := by
  rcases h.2.2 with ⟨h, _⟩ | ⟨g', cap', cur, h, hb, hh, _⟩
  · cases h
  · injection h with h1 h2 h3
    injection h1 with h1
    injection h1 with h1
    subst h1
    exact ⟨(Array.getElem?_eq_some_iff.1 hh).1, hb⟩
/-- what is below stays -/
theorem JB.keep {w w' : World} {base k : Nat} {v : Value} {l : List Nat} (h : JB w base v l) (hk : ∀ g, v.ownBlock = some g → g < k) (hb : Below k w w') : JB w' base v l := by
  obtain ⟨h1, h0, ⟨rfl, e⟩ | ⟨g', cap', cur, rfl, hbs, hh, hr⟩⟩ := h
  · exact ⟨h1, h0, .inl ⟨rfl, e⟩⟩
  · refine ⟨h1, h0, .inr ⟨g', cap', cur, rfl, hbs, ?_, hr⟩⟩
    rw [hb.block g' (hk g' rfl)]; exact hh
theorem JB.keepAll {w w' : World} {base : Nat} {v : Value} {l : List Nat} (h : JB w base v l) (hb : Below w.heap.size w w') : JB w' base v l := by
  refine h.keep (fun g hg => ?_) hb
  obtain ⟨_, _, ⟨rfl, e⟩ | ⟨g', cap', cur, rfl, hbs, hh, hr⟩⟩ := h
  · cases hg
  · cases hg
    exact (Array.getElem?_eq_some_iff.1 hh).1
theorem run_append_jb (ty : TypeId) (w : World) (base : Nat) (v u : Value) (l r : List Nat) (hJ : JB w base v l) (hI : IsB w u r) (hb : l.length + r.length ≤ 140737488355328) (hbase : base ≤ w.heap.size) :
    ∃ a' cap w', (Builtin.append_ #[22, 22] ty #[v, u]).run Try.prog w = .ok (.slice a' (l.length + r.length) cap) w' ∧ JB w' base (.slice a' (l.length + r.length) cap) (l ++ r) ∧ w.grownBy w' v.ownBlock := by
  obtain ⟨i0, hi, hz0, hz1, hz2⟩ := info_parts info_u8
  by_cases h0 : r.length = 0
  · obtain rfl : r = [] := List.length_eq_zero_iff.1 h0
    obtain ⟨a, c, rfl⟩ := hI.shape
    obtain ⟨a', c', rfl, hlc⟩ := hJ.shape
    refine ⟨a', c', w, ?_, ?_, World.grownBy.refl _ _⟩
    · cases a <;> cases a' <;> simp [Builtin.append_, run_underlying Try.underlying22, sizeOf, typeInfo, hi, hlc, Builtin.lenOf, Builtin.firstCells, storeCells, loadCells, loadCellsFrom]
    · simpa using hJ
  · obtain ⟨hbl, hml, ⟨rfl, _⟩ | ⟨bb, oo, cc, rfl, hlc, hcm, hbb, hrow⟩⟩ := hI
    · simp at h0
    · have hlen : (bs r).length = r.length * 1 := by simp [bs]
      obtain ⟨g, cap, w', hr, h2, h3, _, _⟩ := run_append_lies (P := Try.prog) w 22 ty base 5 i0 (.int .u8 0) 1 1 Try.underlying22 hi hz0 hz1 hz2 rfl (by decide) v l.length (bs l) hJ.2 ⟨bb, oo, none⟩ r.length cc (bs r) hlen (news_of_row hrow) (bs_one r) (by omega) (by unfold maxLen; omega) (by omega) hbase w.heap.size rfl
      refine ⟨_, cap, w', hr, ⟨byt_app hJ.1 hbl, ?_⟩, h3⟩
      rw [bs_app] at h2
      rw [List.length_append]; exact h2
/-- .. for the walk: k: the new length, R: the new list -/
theorem wpList_append_jb (w : World) {ops : Array Oper} {rest : List Oper} {o : Oper} {a : Act} {Q : Exit → Act → World → Prop} (hgd : o.guard = none) (s x : Operand)
    (ho : o.op = .call { callee := .builtin .append, args := #[s, x], argTypes := #[22, 22] })
    (base : Nat) (v u : Value) (l r : List Nat) (hs : a.eval s = v) (hx : a.eval x = u) (hJ : JB w base v l) (hI : IsB w u r) (k : Nat) (hk : l.length + r.length = k) (R : List Nat) (hR : l ++ r = R) (hb : k ≤ 140737488355328) (hbase : base ≤ w.heap.size)
    (h : ∀ a' cap w', JB w' base (.slice a' k cap) R → w.grownBy w' v.ownBlock → k ≤ cap → wpList Try.prog ops Q rest (a.put o.dst (.slice a' k cap)) w') : wpList Try.prog ops Q (o :: rest) a w := by
  subst hk hR
  refine wpList_plain hgd fun K hK => ?_
  obtain ⟨a', cap, w', hr, h2, h3⟩ := run_append_jb o.type w base v u l r hJ hI hb hbase
  unfold Oper.wp execOp
  simp only [ho, resolve, invoke, builtin, Sem.run_bind, Sem.run_pure, Result.andThen_ok, List.map_toArray, List.map_cons, List.map_nil, hs, hx, hr]
  refine hK _ _ (h a' cap w' h2 h3 ?_)
  obtain ⟨a2, c2, e, hle⟩ := h2.shape
  injection e with e1 e2 e3
  rw [List.length_append] at hle
  omega
/-- .. guarded, where the guard holds: k: the new length, R: the new list -/
theorem wpList_append_jbG (w : World) {ops : Array Oper} {rest : List Oper} {o : Oper} {a : Act} {Q : Exit → Act → World → Prop} (hgd : Region.wanted o (yielded ops a.tmps) = true) (s x : Operand)
    (ho : o.op = .call { callee := .builtin .append, args := #[s, x], argTypes := #[22, 22] })
    (base : Nat) (v u : Value) (l r : List Nat) (hs : a.eval s = v) (hx : a.eval x = u) (hJ : JB w base v l) (hI : IsB w u r) (k : Nat) (hk : l.length + r.length = k) (R : List Nat) (hR : l ++ r = R) (hb : k ≤ 140737488355328) (hbase : base ≤ w.heap.size)
    (h : ∀ a' cap w', JB w' base (.slice a' k cap) R → w.grownBy w' v.ownBlock → k ≤ cap → wpList Try.prog ops Q rest (a.put o.dst (.slice a' k cap)) w') : wpList Try.prog ops Q (o :: rest) a w := by
  subst hk hR
  refine wpList_step fun K hK => ?_
  rw [if_pos hgd]
  obtain ⟨a', cap, w', hr, h2, h3⟩ := run_append_jb o.type w base v u l r hJ hI hb hbase
  unfold Oper.wp execOp
  simp only [ho, resolve, invoke, builtin, Sem.run_bind, Sem.run_pure, Result.andThen_ok, List.map_toArray, List.map_cons, List.map_nil, hs, hx, hr]
  refine hK _ _ (h a' cap w' h2 h3 ?_)
  obtain ⟨a2, c2, e, hle⟩ := h2.shape
  injection e with e1 e2 e3
  rw [List.length_append] at hle
  omega
/-- what grew leaves all below as it was, where the row is the call's own -/
theorem JB.grown {w w' : World} {base : Nat} {v : Value} {l : List Nat} {n : Nat} {w0 : World} (hJ : JB w base v l) (hb : Below n w0 w) (hn : n ≤ base) (hn2 : n ≤ w.heap.size) (hg : w.grownBy w' v.ownBlock) : Below n w0 w' := by
  refine hb.grown hg hn2 fun k hk => ?_
  obtain ⟨_, _, ⟨rfl, e⟩ | ⟨g', cap', cur, rfl, hbs, hh, hr⟩⟩ := hJ
  · cases hk
  · cases hk
    exact Nat.le_trans hn hbs
/-- a slice elsewhere reads as it did, where a row of the call's own has grown -/
theorem IsK.grown {k : IntKind} {M : Nat} {w w' : World} {row : Option Nat} {v : Value} {l : List Nat} (h : IsK k M w v l) (hg : w.grownBy w' row) (hne : ∀ b off n c, v = .slice (some ⟨b, off, none⟩) n c → some b ≠ row) : IsK k M w' v l := by
  obtain ⟨h1, h2, ⟨rfl, a, c, rfl⟩ | ⟨b, off, c, rfl, h3, h4, h5, h6⟩⟩ := h
  · exact ⟨h1, h2, .inl ⟨rfl, a, c, rfl⟩⟩
  · refine ⟨h1, h2, .inr ⟨b, off, c, rfl, h3, h4, Nat.lt_of_lt_of_le h5 hg.size, fun j hj => ?_⟩⟩
    rw [World.cell?_of_block (a := ⟨b, off + j, none⟩) (hg.block b h5 (hne _ _ _ _ rfl))]; exact h6 j hj
theorem JB.blk_lt {w : World} {base : Nat} {v : Value} {l : List Nat} (h : JB w base v l) : ∀ g, v.ownBlock = some g → g < w.heap.size := by
  intro g hg
  obtain ⟨_, _, ⟨rfl, e⟩ | ⟨g', cap', cur, rfl, hbs, hh, hr⟩⟩ := h
  · cases hg
  · cases hg
    exact (Array.getElem?_eq_some_iff.1 hh).1
theorem JB.blk_ge {w : World} {base : Nat} {v : Value} {l : List Nat} (h : JB w base v l) : ∀ b off n c, v = .slice (some ⟨b, off, none⟩) n c → base ≤ b := by
  intro b off n c hv
  obtain ⟨_, _, ⟨rfl, e⟩ | ⟨g', cap', cur, rfl, hbs, hh, hr⟩⟩ := h
  · cases hv
  · injection hv with e1
    injection e1 with e1
    injection e1 with e1
    omega
theorem jb_nil (w : World) (base : Nat) : JB w base (.slice none 0 0) [] := ⟨byt_nil, own_nil _ _⟩
end Vt
end Go.Proofs.Ytlddogigbodilaa
namespace Go.Proofs.Ytlddogigbodilaa
open Go.RowKit
namespace Vt
def ks (k : IntKind) (l : List Nat) : List Value := l.map fun x => Value.int k ((x : Nat) : Int)
theorem ks_app (k : IntKind) (a b : List Nat) : ks k a ++ ks k b = ks k (a ++ b) := by unfold ks; rw [List.map_append]
theorem ks_len (k : IntKind) (l : List Nat) : (ks k l).length = l.length := by simp [ks]
theorem ks_at (k : IntKind) (l : List Nat) (j : Nat) (hj : j < l.length) : (ks k l)[j]? = some (.int k ((l.getD j 0 : Nat) : Int)) := by
  unfold ks
  rw [List.getElem?_map, List.getElem?_eq_getElem hj, List.getD_eq_getElem?_getD, List.getElem?_eq_getElem hj]; rfl
theorem ks_one (k : IntKind) (l : List Nat) : ∀ u ∈ ks k l, u.oneCell' = true := by
  intro u hu
  obtain ⟨x, _, rfl⟩ := List.mem_map.1 hu
  rfl
theorem news_of_rowK {k : IntKind} {w : World} {b off : Nat} {l : List Nat} (h : RowK k w b off l) : ∀ j u, (ks k l)[j]? = some u → w.cell? (Addr.add ⟨b, off, none⟩ j) = some u := by
  intro j u hu
  have hj : j < l.length := by
    have := (List.getElem?_eq_some_iff.1 hu).1
    simpa [ks] using this
  rw [add_at, h j hj]
  rw [ks_at k l j hj] at hu
  exact hu
/-- a list of numbers of the call's own: nil where there is none -/
def JK (k : IntKind) (M : Nat) (E : TypeId) (w : World) (base : Nat) (v : Value) (l : List Nat) : Prop := (∀ x ∈ l, x < M) ∧ w.ownsRow base E 1 v l.length (ks k l)
theorem jk_jb {w : World} {base : Nat} {v : Value} {l : List Nat} : JK .u8 256 5 w base v l ↔ JB w base v l := Iff.rfl
section
variable {k : IntKind} {M : Nat} {E : TypeId}
theorem JK.shape {w : World} {base : Nat} {v : Value} {l : List Nat} (h : JK k M E w base v l) : ∃ a c, v = .slice a l.length c ∧ l.length ≤ c := by
  rcases h.2.2 with ⟨rfl, e⟩ | ⟨g, cap, cur, rfl, _, _, hl, _⟩
  · exact ⟨none, 0, by rw [e], by omega⟩
  · exact ⟨_, cap, rfl, hl⟩
theorem JK.isK {w : World} {base : Nat} {v : Value} {l : List Nat} (h : JK k M E w base v l) : IsK k M w v l := by
  obtain ⟨hb, h0, ⟨rfl, e⟩ | ⟨g, cap, cur, rfl, hbs, hh, hl, hm, hc, ht⟩⟩ := h
  · obtain rfl : l = [] := List.length_eq_zero_iff.1 e
    exact isK_nil _ _ _ _ _
  · have hlt := (Array.getElem?_eq_some_iff.1 hh).1
    refine ⟨hb, by omega, .inr ⟨g, 0, cap, rfl, hl, hm, hlt, fun j hj => ?_⟩⟩
    have hat : cur[j]? = some (.int k ((l.getD j 0 : Nat) : Int)) := by
      have := ks_at k l j hj
      rw [← ht, List.getElem?_take_of_lt (by omega)] at this
      simpa using this
    rw [Nat.zero_add]
    simp only [World.cell?, hh]
    simpa using hat
theorem JK.keep {w w' : World} {base n : Nat} {v : Value} {l : List Nat} (h : JK k M E w base v l) (hk : ∀ g, v.ownBlock = some g → g < n) (hb : Below n w w') : JK k M E w' base v l := by
  obtain ⟨h1, h0, ⟨rfl, e⟩ | ⟨g', cap', cur, rfl, hbs, hh, hr⟩⟩ := h
  · exact ⟨h1, h0, .inl ⟨rfl, e⟩⟩
  · refine ⟨h1, h0, .inr ⟨g', cap', cur, rfl, hbs, ?_, hr⟩⟩
    rw [hb.block g' (hk g' rfl)]; exact hh
theorem JK.blk_lt {w : World} {base : Nat} {v : Value} {l : List Nat} (h : JK k M E w base v l) : ∀ g, v.ownBlock = some g → g < w.heap.size := by
  intro g hg
  obtain ⟨_, _, ⟨rfl, e⟩ | ⟨g', cap', cur, rfl, hbs, hh, hr⟩⟩ := h
  · cases hg
  · cases hg
    exact (Array.getElem?_eq_some_iff.1 hh).1
theorem JK.blk_ge {w : World} {base : Nat} {v : Value} {l : List Nat} (h : JK k M E w base v l) : ∀ g, v.ownBlock = some g → base ≤ g := by
  intro g hg
  obtain ⟨_, _, ⟨rfl, e⟩ | ⟨g', cap', cur, rfl, hbs, hh, hr⟩⟩ := h
  · cases hg
  · cases hg
    exact hbs
theorem JK.keepAll {w w' : World} {base : Nat} {v : Value} {l : List Nat} (h : JK k M E w base v l) (hb : Below w.heap.size w w') : JK k M E w' base v l := h.keep h.blk_lt hb
theorem JK.grownO {w w' : World} {base : Nat} {row : Option Nat} {v : Value} {l : List Nat} (h : JK k M E w base v l) (hg : w.grownBy w' row) (hne : ∀ g, v.ownBlock = some g → some g ≠ row) : JK k M E w' base v l := by
  obtain ⟨h1, h0, ⟨rfl, e⟩ | ⟨g', cap', cur, rfl, hbs, hh, hr⟩⟩ := h
  · exact ⟨h1, h0, .inl ⟨rfl, e⟩⟩
  · refine ⟨h1, h0, .inr ⟨g', cap', cur, rfl, hbs, ?_, hr⟩⟩
    rw [hg.block g' (Array.getElem?_eq_some_iff.1 hh).1 (hne g' rfl)]; exact hh
theorem JK.setO {w : World} {base : Nat} {v : Value} {l : List Nat} (h : JK k M E w base v l) {p : Addr} (hne : ∀ g, v.ownBlock = some g → g ≠ p.block) (u : Value) : JK k M E (w.setCell p u) base v l := by
  obtain ⟨h1, h0, ⟨rfl, e⟩ | ⟨g', cap', cur, rfl, hbs, hh, hr⟩⟩ := h
  · exact ⟨h1, h0, .inl ⟨rfl, e⟩⟩
  · refine ⟨h1, h0, .inr ⟨g', cap', cur, rfl, hbs, ?_, hr⟩⟩
    have := hne g' rfl
    rw [← hh]
    show (w.heap.modify p.block _)[g']? = _
    rw [Array.getElem?_modify, if_neg (fun e => this e.symm)]
theorem jk_nil (w : World) (base : Nat) : JK k M E w base (.slice none 0 0) [] := ⟨by simp, rfl, .inl ⟨rfl, rfl⟩⟩
theorem JK.grown {w w' : World} {base : Nat} {v : Value} {l : List Nat} {n : Nat} {w0 : World} (hJ : JK k M E w base v l) (hb : Below n w0 w) (hn : n ≤ base) (hn2 : n ≤ w.heap.size) (hg : w.grownBy w' v.ownBlock) : Below n w0 w' :=
  hb.grown hg hn2 fun q hq => Nat.le_trans hn (hJ.blk_ge q hq)
variable {S : TypeId} {by_ : Nat}
theorem run_append_jk (hS : Try.prog.underlying S = some (.slice E)) (hE : (Try.prog.info? E).map (fun i => (i.zero, i.size, i.bytes)) = some (some (.int k 0), 1, by_)) (ty : TypeId) (w : World) (base : Nat) (v u : Value) (l r : List Nat) (hJ : JK k M E w base v l) (hI : IsK k M w u r) (hb : (l.length + r.length) * by_ ≤ 140737488355328) (hb2 : l.length + r.length ≤ 140737488355328) (hbase : base ≤ w.heap.size) :
    ∃ a' cap w', (Builtin.append_ #[S, S] ty #[v, u]).run Try.prog w = .ok (.slice a' (l.length + r.length) cap) w' ∧ JK k M E w' base (.slice a' (l.length + r.length) cap) (l ++ r) ∧ w.grownBy w' v.ownBlock ∧ (∀ g, (Value.slice a' (l.length + r.length) cap).ownBlock = some g → v.ownBlock = some g ∨ g = w.heap.size) := by
  obtain ⟨i0, hi, hz0, hz1, hz2⟩ := info_parts hE
  by_cases h0 : r.length = 0
  · obtain rfl : r = [] := List.length_eq_zero_iff.1 h0
    obtain ⟨a, c, rfl⟩ := hI.shape
    obtain ⟨a', c', rfl, hlc⟩ := hJ.shape
    refine ⟨a', c', w, ?_, ?_, World.grownBy.refl _ _, fun g hg => .inl hg⟩
    · cases a <;> cases a' <;> simp [Builtin.append_, run_underlying hS, sizeOf, typeInfo, hi, hlc, Builtin.lenOf, Builtin.firstCells, storeCells, loadCells, loadCellsFrom]
    · simpa using hJ
  · obtain ⟨hbl, hml, ⟨rfl, _⟩ | ⟨bb, oo, cc, rfl, hlc, hcm, hbb, hrow⟩⟩ := hI
    · simp at h0
    · have hlen : (ks k r).length = r.length * 1 := by simp [ks]
      obtain ⟨g, cap, w', hr, h2, h3, h4, _⟩ := run_append_lies (P := Try.prog) w S ty base E i0 (.int k 0) 1 by_ hS hi hz0 hz1 hz2 rfl (by decide) v l.length (ks k l) hJ.2 ⟨bb, oo, none⟩ r.length cc (ks k r) hlen (news_of_rowK hrow) (ks_one k r) (by omega) (by unfold maxLen; omega) hb hbase w.heap.size rfl
      refine ⟨_, cap, w', hr, ⟨?_, ?_⟩, h3, fun g' hg' => by cases hg'; exact h4⟩
      · intro x hx
        rcases List.mem_append.1 hx with hx | hx
        · exact hJ.1 x hx
        · exact hbl x hx
      · rw [ks_app] at h2
        rw [List.length_append]; exact h2
/-- .. for the walk: n: the new length, R: the new list -/
theorem wpList_append_jk (hS : Try.prog.underlying S = some (.slice E)) (hE : (Try.prog.info? E).map (fun i => (i.zero, i.size, i.bytes)) = some (some (.int k 0), 1, by_)) (w : World) {ops : Array Oper} {rest : List Oper} {o : Oper} {a : Act} {Q : Exit → Act → World → Prop} (hgd : o.guard = none) (s x : Operand)
    (ho : o.op = .call { callee := .builtin .append, args := #[s, x], argTypes := #[S, S] })
    (base : Nat) (v u : Value) (l r : List Nat) (hs : a.eval s = v) (hx : a.eval x = u) (hJ : JK k M E w base v l) (hI : IsK k M w u r) (n : Nat) (hn : l.length + r.length = n) (R : List Nat) (hR : l ++ r = R) (hb : n * by_ ≤ 140737488355328) (hb2 : n ≤ 140737488355328) (hbase : base ≤ w.heap.size)
    (h : ∀ a' cap w', JK k M E w' base (.slice a' n cap) R → w.grownBy w' v.ownBlock → (∀ g, (Value.slice a' n cap).ownBlock = some g → v.ownBlock = some g ∨ g = w.heap.size) → n ≤ cap → wpList Try.prog ops Q rest (a.put o.dst (.slice a' n cap)) w') : wpList Try.prog ops Q (o :: rest) a w := by
  subst hn hR
  refine wpList_plain hgd fun K hK => ?_
  obtain ⟨a', cap, w', hr, h2, h3, h4⟩ := run_append_jk hS hE o.type w base v u l r hJ hI hb hb2 hbase
  unfold Oper.wp execOp
  simp only [ho, resolve, invoke, builtin, Sem.run_bind, Sem.run_pure, Result.andThen_ok, List.map_toArray, List.map_cons, List.map_nil, hs, hx, hr]
  refine hK _ _ (h a' cap w' h2 h3 h4 ?_)
  obtain ⟨a2, c2, e, hle⟩ := h2.shape
  injection e with e1 e2 e3
  rw [List.length_append] at hle
  omega
end
theorem info_int : (Try.prog.info? 3).map (fun i => (i.zero, i.size, i.bytes)) = some (some (.int .i64 0), 1, 8) := by kernel_rfl
/-- a block of cells, known whole -/
def Blk (W : World) (O : Nat) (T : TypeId) (cs : List Value) : Prop := W.heap[O]? = some (.cells cs.toArray T (0, 0))
theorem Blk.lt {W : World} {O : Nat} {T : TypeId} {cs : List Value} (h : Blk W O T cs) : O < W.heap.size := (Array.getElem?_eq_some_iff.1 h).1
theorem Blk.cell {W : World} {O : Nat} {T : TypeId} {cs : List Value} (h : Blk W O T cs) (j : Nat) (v : Value) (hv : cs[j]? = some v) : W.cell? ⟨O, j, none⟩ = some v := by
  have h' : W.heap[O]? = some (.cells cs.toArray T (0, 0)) := h
  simp only [World.cell?, h']
  simpa using hv
theorem Blk.frozen {W : World} {O : Nat} {T : TypeId} {cs : List Value} (h : Blk W O T cs) (j : Nat) : W.frozen? ⟨O, j, none⟩ = false := by
  have h' : W.heap[O]? = some (.cells cs.toArray T (0, 0)) := h
  simp [World.frozen?, h']
theorem Blk.below {W W' : World} {O n : Nat} {T : TypeId} {cs : List Value} (h : Blk W O T cs) (hO : O < n) (hb : Below n W W') : Blk W' O T cs := (hb.block O hO).trans h
theorem Blk.keep {W W' : World} {O : Nat} {T : TypeId} {cs : List Value} (h : Blk W O T cs) (hb : Below W.heap.size W W') : Blk W' O T cs := h.below h.lt hb
theorem Blk.grown {W W' : World} {O : Nat} {row : Option Nat} {T : TypeId} {cs : List Value} (h : Blk W O T cs) (hg : W.grownBy W' row) (hne : some O ≠ row) : Blk W' O T cs := (hg.block O h.lt hne).trans h
theorem Blk.alloc {W : World} {O : Nat} {T : TypeId} {cs : List Value} (h : Blk W O T cs) (o : Obj) : Blk (W.alloc o) O T cs := h.keep ((Below.refl _ _).alloc (Nat.le_refl _) _)
theorem Blk.new (W : World) (T : TypeId) (cs : List Value) : Blk (W.alloc (.cells cs.toArray T)) W.heap.size T cs := by
  unfold Blk World.alloc
  simp
theorem Blk.set {W : World} {O j : Nat} {T : TypeId} {cs : List Value} (h : Blk W O T cs) (v : Value) : Blk (W.setCell ⟨O, j, none⟩ v) O T (cs.set j v) := by
  have h' : W.heap[O]? = some (.cells cs.toArray T (0, 0)) := h
  have hlt := h.lt
  have h2 : W.heap[O] = .cells cs.toArray T (0, 0) := by simpa [Array.getElem?_eq_getElem hlt] using h'
  show (W.heap.modify O _)[O]? = _
  rw [Array.getElem?_eq_getElem (by simpa using hlt), Array.getElem_modify_self, h2]
  simp
theorem Blk.other {W : World} {O : Nat} {T : TypeId} {cs : List Value} (h : Blk W O T cs) {p : Addr} (hp : p.block ≠ O) (v : Value) : Blk (W.setCell p v) O T cs := by
  have h' : W.heap[O]? = some (.cells cs.toArray T (0, 0)) := h
  show (W.heap.modify p.block _)[O]? = _
  rw [Array.getElem?_modify, if_neg hp]; exact h'
theorem IsK.setO {k : IntKind} {M : Nat} {w : World} {v : Value} {l : List Nat} (h : IsK k M w v l) {p : Addr} (hne : ∀ b off n c, v = .slice (some ⟨b, off, none⟩) n c → b ≠ p.block) (u : Value) : IsK k M (w.setCell p u) v l := by
  obtain ⟨h1, h2, ⟨rfl, a, c, rfl⟩ | ⟨b, off, c, rfl, h3, h4, h5, h6⟩⟩ := h
  · exact ⟨h1, h2, .inl ⟨rfl, a, c, rfl⟩⟩
  · have hs : (w.setCell p u).heap.size = w.heap.size := by simp [World.setCell]
    refine ⟨h1, h2, .inr ⟨b, off, c, rfl, h3, h4, by omega, fun j hj => ?_⟩⟩
    have := hne _ _ _ _ rfl
    rw [World.cell?_setCell_other _ _ _ _ (by intro e; exact this (by rw [e]))]; exact h6 j hj
end Vt
end Go.Proofs.Ytlddogigbodilaa
