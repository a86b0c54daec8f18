/-
  scan.Records without kinds: the frames of Put and Delete.
-/
import Derived.Test.YtifjjoobbegpoaaMkau
namespace Go.Proofs.Ytifjjoobbegpoaa
open Go.RowKit Go.Shelf
namespace Vt
abbrev JL := JR 43 16
theorem info_lc : (Try.prog.info? 43).map (fun i => (i.zero, i.size, i.bytes)) = some (some (.agg #[.int .i64 0, .int .u64 0, .int .i64 0, .string ⟨#[]⟩, .string ⟨#[]⟩, .int .u64 0, .int .i64 0, .int .i64 0, .int .i64 0, .string ⟨#[]⟩, .int .i64 0, .int .i64 0, .int .i64 0, .int .u32 0, .int .i64 0, .int .i64 0]), 16, 152) := by kernel_rfl
theorem lcv_one (x : Lc) : ∀ u ∈ lcv x, u.oneCell' = true := by
  intro u hu
  simp only [lcv, List.mem_cons, List.mem_nil_iff, or_false] at hu
  rcases hu with rfl | rfl | rfl | rfl | rfl | rfl | rfl | rfl | rfl | rfl | rfl | rfl | rfl | rfl | rfl | rfl <;> rfl
/-- a frame of a wanted kind -/
def isw (zs : List Int) (x : Lc) : Bool := decide (x.2.2.kind ∈ zs)
noncomputable def recs (zs : List Int) (l : List Nat) : List Lc := (locs 0 l).filter (isw zs)
theorem rf_kind {f : Fr} (h : rf f = 0) : 1 ≤ f.kind ∧ f.kind ≤ 4 := by
  unfold rf at h
  split at h
  · omega
  · split at h
    · omega
    · split at h
      · omega
      · omega
theorem mks_at (zs : List Int) (j : Nat) (h1 : 1 ≤ j) (h4 : j ≤ 4) : (mks zs)[j]? = some (.bool (decide ((j : Int) ∈ zs))) := by
  obtain rfl | rfl | rfl | rfl : j = 1 ∨ j = 2 ∨ j = 3 ∨ j = 4 := by omega
  all_goals rfl
/-- between two rounds -/
def RcInv (N : Nat) (zs : List Int) (w4 : World) (pre : List Lc) (W : World) : Prop :=
  (∃ ve, Boxed W (N + 1) 26 ve ∧ Blk W N 67 (mks zs) ∧ JL W (N + 4) ve ((pre.filter (isw zs)).map lcv)) ∧ KeepS (SE N) w4 W
theorem blk_keptO {W W' : World} {row : Option Nat} {O : Nat} {t : TypeId} {cs : List Value} (h : Blk W O t cs) (hg : W.grownBy W' row) (hr : ∀ r, row = some r → ∃ o : Obj, W.heap[r]? = some o ∧ o.isCells = false) : Blk W' O t cs := by
  refine h.grown hg (fun e => ?_)
  obtain ⟨o, ho, hc⟩ := hr O e.symm
  have h2 : W.heap[O]? = _ := h
  rw [h2] at ho
  injection ho with ho
  rw [← ho] at hc
  cases hc
theorem rcInv_own {β : Type} {N : Nat} {zs : List Int} {w4 : World} (f : β → List Lc) (hs : N + 4 = w4.heap.size) : OwnFrom w4.heap.size (fun s W => RcInv N zs w4 (f s) W) := by
  intro s W W' row hs' hg hr
  obtain ⟨⟨ve, be, bn, j⟩, hS⟩ := hs'
  have hr' : ∀ r, row = some r → ∃ o : Obj, W.heap[r]? = some o ∧ o.isCells = false := fun r e => (hr r e).2
  exact ⟨⟨ve, Boxed.keptO be hg hr', blk_keptO bn hg hr', j.kept hg hr'⟩, hS.grown hg (se_lt (by have := hS.size; omega)) (fun g e h => by have := (hr g e).1; unfold SE at h; omega)⟩
theorem RcInv.alloc {N : Nat} {zs : List Int} {w4 W : World} {pre : List Lc} (h : RcInv N zs w4 pre W) (hs : N + 4 = w4.heap.size) (o : Obj) : RcInv N zs w4 pre (W.alloc o) := by
  obtain ⟨⟨ve, be, bn, j⟩, hS⟩ := h
  exact ⟨⟨ve, be.alloc o, bn.alloc o, j.alloc o⟩, hS.alloc (se_lt (by have := hS.size; omega)) o⟩
/-- the world behind a round that lays a frame down -/
theorem rc_step {N : Nat} {zs : List Int} {w4 W w3 : World} {pre : List Lc} {ve v3 : Value} {o : Obj} {x : Lc} (hs : N + 4 = w4.heap.size)
    (be : Boxed W (N + 1) 26 ve) (bm : Blk W N 67 (mks zs)) {L : List (List Value)} (j : JL W (N + 4) ve L) (hS : KeepS (SE N) w4 W)
    (g3 : (W.alloc o).grownBy w3 ve.ownBlock) (j3 : JL w3 (N + 4) v3 (((pre ++ [x]).filter (isw zs)).map lcv)) :
    KeepsOthers W (w3.setCell ⟨N + 1, 0, none⟩ v3) ∧ KeepS (SE N) W (w3.setCell ⟨N + 1, 0, none⟩ v3) ∧ RcInv N zs w4 (pre ++ [x]) (w3.setCell ⟨N + 1, 0, none⟩ v3) := by
  have hsW := hS.size
  have hs3 := g3.size
  rw [World.size_alloc] at hs3
  have nE : ∀ g, ve.ownBlock = some g → N + 4 ≤ g := j.blk_ge
  have n3 : ∀ g, v3.ownBlock = some g → N + 4 ≤ g := j3.blk_ge
  have be3 := Boxed.grownJ (be.alloc o) (j.alloc o) (by decide) g3
  have bm3 := Blk.grownJ (bm.alloc o) (j.alloc o) (by decide) g3
  have k3 : KeepS (SE N) W w3 := ((KeepS.refl W).alloc (se_lt (by omega)) o).grown g3 (se_lt (by rw [World.size_alloc]; omega)) (fun g e h => by have := nE g e; unfold SE at h; omega)
  have k4 : KeepS (SE N) W (w3.setCell ⟨N + 1, 0, none⟩ v3) := k3.setCell (p := ⟨N + 1, 0, none⟩) (fun h => by have h' : N + 1 < N ∨ N + 1 = N + 2 := h; omega) _
  refine ⟨?_, k4, ⟨v3, ?_, ?_, ?_⟩, hS.trans k4⟩
  · exact (KeepsOthers.alloc _ o).trans (((j.alloc o).others g3).trans (KeepsOthers.setCell _ _ _))
  · exact be3.set v3
  · exact bm3.other (p := ⟨N + 1, 0, none⟩) (by show N + 1 ≠ N; omega) _
  · exact j3.setO (p := ⟨N + 1, 0, none⟩) (fun g hg => by have := n3 g hg; show g ≠ N + 1; omega) _
attribute [local go_sem] Oper.semAt_some
set_option maxRecDepth 100000 in
set_option maxHeartbeats 2000000 in
theorem records_nil (v : Value) (l : List Nat) (w : World) (hI : IsB w v l) (hl : l.length ≤ 16777216) :
    Calls Try.prog 7 #[v, .slice none 0 0] w fun e w' => ∃ v', e = .returned v' ∧ JL w' w.heap.size v' ((recs [1, 2] l).map lcv) ∧ Below w.heap.size w w' := by
  obtain ⟨a, c, rfl⟩ := hI.shape
  have HI := hd hI
  clear hI
  refine (callsIn_wide (n := 8)).1 ?_
  refine callsIn_of_wp_marks Try.func7 rfl trivial (Code.wpIn_mono bodyPostF_M ?_) rfl
  simp only [Try.ntmps7, List.size_toArray, List.length_cons, List.length_nil, Nat.reduceAdd, Nat.reduceSub, Array.replicate_succ, Array.replicate_zero, List.push_toArray, List.append_toArray, List.nil_append, List.cons_append]
  gi_wp2
  refine ⟨trivial, CallsIn.mono (callsIn_wide.2 (marks_is w.heap.size 0 2 [1, 2] (w.alloc (.cells #[.int .i64 1, .int .i64 2] 25)) (by simp) (by
    intro i hi
    obtain rfl | rfl : i = 0 ∨ i = 1 := by simp at hi; omega
    · exact cell_lit w _ [.int .i64 1, .int .i64 2] 0 _ _ rfl rfl
    · exact cell_lit w _ [.int .i64 1, .int .i64 2] 1 _ _ rfl rfl) (by decide))) ?_⟩
  rintro e w1 ⟨rfl, hb1⟩
  have HB1 : Hid (Below w.heap.size w w1) := ((Below.refl _ w).alloc (Nat.le_refl _) _).trans (hb1.mono (by simp))
  clear hb1
  have hmk : mks [1, 2] = [.bool false, .bool true, .bool true, .bool false, .bool false] := by simp [mks]
  rw [hmk]
  have HMK := hd hmk
  clear hmk
  gi_wp2
  refine ⟨trivial, CallsIn.mono (callsIn_wide.2 (located_is _ _ _ _ _)) ?_⟩
  rintro e w4 ⟨rfl, hw4⟩
  obtain ⟨N, hN⟩ : ∃ N, N = w1.heap.size := ⟨_, rfl⟩
  have hn1 : w.heap.size ≤ N := by rw [hN]; exact HB1.out.size
  have hs4 : w4.heap.size = N + 4 := by rw [hw4, hN]; simp
  have hB4 : Hid (Below w.heap.size w w4) := by
    rw [hw4]; exact (((HB1.out.alloc (by omega) _).alloc (by simp; omega) _).alloc (by simp; omega) _).alloc (by simp; omega) _
  have BM4 : Hid (Blk w4 N 67 (mks [1, 2])) := by rw [hw4, hN, HMK.out]; exact (((Blk.new w1 67 _).alloc _).alloc _).alloc _
  have BE4 : Hid (Boxed w4 (N + 1) 26 (.slice none 0 0)) := by
    have := Boxed.new (w1.alloc (.cells #[.bool false, .bool true, .bool true, .bool false, .bool false] 67)) 26 (.slice none 0 0)
    rw [World.size_alloc, ← hN] at this
    rw [hw4]; exact (this.alloc _).alloc _
  have BB4 : Hid (Boxed w4 (N + 2) 22 (.slice a l.length c)) := by
    have := Boxed.new ((w1.alloc (.cells #[.bool false, .bool true, .bool true, .bool false, .bool false] 67)).alloc (.cells #[.slice none 0 0] 26)) 22 (.slice a l.length c)
    rw [World.size_alloc, World.size_alloc, ← hN] at this
    rw [hw4]; exact this.alloc _
  have BF4 : Hid (Boxed w4 (N + 3) 3 (.int .i64 0)) := by
    have := Boxed.new (((w1.alloc (.cells #[.bool false, .bool true, .bool true, .bool false, .bool false] 67)).alloc (.cells #[.slice none 0 0] 26)).alloc (.cells #[.slice a l.length c] 22)) 3 (.int .i64 0)
    rw [World.size_alloc, World.size_alloc, World.size_alloc, ← hN] at this
    rw [hw4]; exact this
  simp only [World.size_alloc]
  rw [← hN]
  have HN := hd hN
  have HN1 := hd hn1
  clear hw4 hN
  have hseq := located_stops 7 (by omega) l.length (SE N) (N + 1 + 1) (N + 1 + 1 + 1) (.slice a l.length c) 0 l w4 (Nat.le_refl _) (Or.inr rfl) (by omega) (by omega) (se_lt (by omega)) BB4.out.cell BF4.out.cell (HI.out.below hB4.out) (fun b off c' hne e => by
    obtain ⟨_, _, ⟨rfl, _⟩ | ⟨nb, no, nc, e1, _, _, hnb, hnr⟩⟩ := HI.out
    · exact absurd rfl hne
    · rw [e] at e1; injection e1 with e1 e2 e3; injection e1 with e1; injection e1 with e1 e4; left; omega)
  have hfrm : frm l.length 0 = 0 := by unfold frm; simp
  rw [hfrm, List.drop_zero] at hseq
  have HSQ := hd hseq
  clear hseq hfrm hn1
  gi_wp2
  rename_i K hK
  have HK := hd hK
  clear hK
  refine wpIn_rangeFunc_ownH rfl (by omega) (gf := 43) (lb := #[.pointer (some ⟨N + 1 + 1, 0, none⟩), .pointer (some ⟨N + 1 + 1 + 1, 0, none⟩)]) rfl trivial (enters_of Try.func43 (by kernel_rfl) rfl) HSQ.out keepS_t (keepS_b (se_lt (by omega))) (Below.refl _ _) (fun _ => rfl)
    (fun (pre : List (PL l.length)) (W : World) => RcInv N [1, 2] w4 (pre.map Subtype.val) W)
    (fun _ _ _ => False)
    (rcInv_own _ hs4.symm)
    (fun _ _ _ _ _ hs _ _ => hs)
    ⟨⟨_, BE4.out, BM4.out, jr_nil _ _⟩, KeepS.refl _⟩
    (fun (x : PL l.length) a' W => ∃ Bx, N + 4 ≤ Bx ∧ Blk W Bx 43 (lcv x.1) ∧ a' = { tmps := #[Value.slice a l.length c, Value.slice (some { block := w.heap.size, off := 0 }) 2 2, undef, undef, Value.slice none 0 0, Value.pointer (some { block := N, off := 0 }), Value.pointer (some { block := N + 1, off := 0 }), Value.pointer (some { block := Bx, off := 0 }), Value.slice none 0 0, Value.int IntKind.i64 0, Value.bool true, Value.slice (some { block := w.heap.size, off := 0 }) 2 2, Value.slice (some { block := w.heap.size, off := 0 }) 2 2, Value.agg #[Value.bool false, Value.bool true, Value.bool true, Value.bool false, Value.bool false], Value.slice a l.length c, Value.func (Fn.func 43) #[] #[Value.pointer (some { block := N + 1 + 1, off := 0 }), Value.pointer (some { block := N + 1 + 1 + 1, off := 0 })], .agg (lcv x.1).toArray, undef, undef, undef, undef, undef, undef, undef, undef, undef, undef], defers := [] })
    (fun x a' _ W W' row hs hg hr => by
      obtain ⟨Bx, h1, h2, h3⟩ := hs
      exact ⟨Bx, h1, blk_keptO h2 hg (fun r e => (hr r e).2), h3⟩)
    ?assign ?body ?done ?stop
  case assign =>
    rintro lk pre ⟨⟨x1, x2, k, ⟨rl, rk, rkey, rval⟩, ⟨pl, pk, pa, pn, pkey⟩, ⟨ec, eb, ef, es⟩⟩, hx⟩ W K hi hK
    simp only [encl, lcv]
    gi_wp2
    have hsW := hi.2.size
    exact hK _ _ ((KeepsOthers.alloc _ _).from _) ((KeepS.refl _).alloc (se_lt (by omega)) _) (hi.alloc hs4.symm _) ⟨W.heap.size, by omega, Blk.new W 43 (lcv (x1, x2, ⟨k, ⟨rl, rk, rkey, rval⟩, ⟨pl, pk, pa, pn, pkey⟩, ⟨ec, eb, ef, es⟩⟩)), rfl⟩
  case body =>
    rintro lk pre ⟨⟨x1, x2, f⟩, hx⟩ a' W hlk _ ⟨⟨ve, be, bm, j⟩, hS⟩ ⟨Bx, hBx, hblk, rfl⟩ hlen
    have hxl : x1 + x2 ≤ l.length := hx.1
    have hk := rf_kind hx.2.2.1
    obtain ⟨q, hq⟩ : ∃ q : Nat, f.kind = (q : Int) := ⟨f.kind.toNat, by simp only at hk; omega⟩
    have hq1 : 1 ≤ q ∧ q ≤ 4 := by simp only at hk; omega
    have HMP : Hid ((pre ++ [(⟨(x1, x2, f), hx⟩ : PL l.length)]).map Subtype.val = pre.map Subtype.val ++ [(x1, x2, f)]) := by
      show _ = _
      rw [List.map_append, List.map_singleton]
    have hpl : ((pre.map Subtype.val).filter (isw [1, 2])).length ≤ pre.length := by
      have := List.length_filter_le (isw [1, 2]) (pre.map Subtype.val)
      rw [List.length_map] at this; exact this
    obtain ⟨P, hP⟩ : ∃ P, P = pre.map Subtype.val := ⟨_, rfl⟩
    rw [← hP] at j hpl HMP
    have HSN : Hid ((P ++ [(x1, x2, f)]).filter (isw [1, 2]) = P.filter (isw [1, 2]) ++ (if (q : Int) ∈ [1, 2] then [(x1, x2, f)] else [])) := by
      show _ = _
      rw [List.filter_append, List.filter_cons, List.filter_nil]
      unfold isw
      rw [hq]
      simp only [decide_eq_true_eq]
    have HLQ : Hid (Blk W Bx 43 [.int .i64 (q : Int), .int .u64 (f.r.lsn : Int), .int .i64 f.r.kind, .string f.r.key, .string f.r.val, .int .u64 (f.p.lsn : Int), .int .i64 f.p.kind, .int .i64 f.p.at_, .int .i64 f.p.len, .string f.p.key, .int .i64 f.e.count, .int .i64 f.e.bytes, .int .i64 f.e.frames, .int .u32 (f.e.sum : Int), .int .i64 (x1 : Int), .int .i64 (x2 : Int)]) := by
      have h := hblk
      unfold lcv at h
      simp only [hq] at h
      exact h
    have HLE : Hid ([.int .i64 (q : Int), .int .u64 (f.r.lsn : Int), .int .i64 f.r.kind, .string f.r.key, .string f.r.val, .int .u64 (f.p.lsn : Int), .int .i64 f.p.kind, .int .i64 f.p.at_, .int .i64 f.p.len, .string f.p.key, .int .i64 f.e.count, .int .i64 f.e.bytes, .int .i64 f.e.frames, .int .u32 (f.e.sum : Int), .int .i64 (x1 : Int), .int .i64 (x2 : Int)] = lcv (x1, x2, f)) := by
      show _ = _
      unfold lcv
      rw [hq]
    have cM : W.cell? ⟨N, q, none⟩ = some (.bool (decide ((q : Int) ∈ [1, 2]))) := bm.cell q _ (mks_at _ q hq1.1 hq1.2)
    have BE := hd be
    have BM := hd bm
    have HS := hd hS
    have HJ := hd j
    have HP := hd hP
    have HQ := hd hq
    have cE := be.cell
    have c0 : W.cell? ⟨Bx, 0, none⟩ = some (.int .i64 (q : Int)) := HLQ.out.cell 0 _ rfl
    have c1 : W.cell? ⟨Bx, 1, none⟩ = some (.int .u64 (f.r.lsn : Int)) := HLQ.out.cell 1 _ rfl
    have c2 : W.cell? ⟨Bx, 2, none⟩ = some (.int .i64 f.r.kind) := HLQ.out.cell 2 _ rfl
    have c3 : W.cell? ⟨Bx, 3, none⟩ = some (.string f.r.key) := HLQ.out.cell 3 _ rfl
    have c4 : W.cell? ⟨Bx, 4, none⟩ = some (.string f.r.val) := HLQ.out.cell 4 _ rfl
    have c5 : W.cell? ⟨Bx, 5, none⟩ = some (.int .u64 (f.p.lsn : Int)) := HLQ.out.cell 5 _ rfl
    have c6 : W.cell? ⟨Bx, 6, none⟩ = some (.int .i64 f.p.kind) := HLQ.out.cell 6 _ rfl
    have c7 : W.cell? ⟨Bx, 7, none⟩ = some (.int .i64 f.p.at_) := HLQ.out.cell 7 _ rfl
    have c8 : W.cell? ⟨Bx, 8, none⟩ = some (.int .i64 f.p.len) := HLQ.out.cell 8 _ rfl
    have c9 : W.cell? ⟨Bx, 9, none⟩ = some (.string f.p.key) := HLQ.out.cell 9 _ rfl
    have c10 : W.cell? ⟨Bx, 10, none⟩ = some (.int .i64 f.e.count) := HLQ.out.cell 10 _ rfl
    have c11 : W.cell? ⟨Bx, 11, none⟩ = some (.int .i64 f.e.bytes) := HLQ.out.cell 11 _ rfl
    have c12 : W.cell? ⟨Bx, 12, none⟩ = some (.int .i64 f.e.frames) := HLQ.out.cell 12 _ rfl
    have c13 : W.cell? ⟨Bx, 13, none⟩ = some (.int .u32 (f.e.sum : Int)) := HLQ.out.cell 13 _ rfl
    have c14 : W.cell? ⟨Bx, 14, none⟩ = some (.int .i64 (x1 : Int)) := HLQ.out.cell 14 _ rfl
    have c15 : W.cell? ⟨Bx, 15, none⟩ = some (.int .i64 (x2 : Int)) := HLQ.out.cell 15 _ rfl
    clear be bm hS hblk hP hq hk
    obtain ⟨LP, hLP⟩ : ∃ LP, LP = P.filter (isw [1, 2]) := ⟨_, rfl⟩
    rw [← hLP] at HJ HSN j hpl
    clear hLP
    obtain ⟨av, cv, hve, hcv⟩ := j.shape
    rw [List.length_map] at hve hcv
    subst hve
    clear j
    have hsW := HS.out.size
    by_cases hw : (q : Int) ∈ ([1, 2] : List Int)
    · rw [decide_eq_true hw] at cM
      rw [if_pos hw] at HSN
      clear hw
      have hone : ∀ u ∈ ([.int .i64 (q : Int), .int .u64 (f.r.lsn : Int), .int .i64 f.r.kind, .string f.r.key, .string f.r.val, .int .u64 (f.p.lsn : Int), .int .i64 f.p.kind, .int .i64 f.p.at_, .int .i64 f.p.len, .string f.p.key, .int .i64 f.e.count, .int .i64 f.e.bytes, .int .i64 f.e.frames, .int .u32 (f.e.sum : Int), .int .i64 (x1 : Int), .int .i64 (x2 : Int)] : List Value), u.oneCell' = true := by rw [HLE.out]; exact lcv_one _
      have HONE := hd hone
      clear hone
      have fE := BE.out.frozen
      gi_wp2_with (gi_at_builtin; refine wpListIn_append_jr Try.underlying26 info_lc rfl (by decide) _ rfl _ _ rfl (N + 4) (.slice av LP.length cv) (LP.map lcv) W.heap.size 1 [.int .i64 (q : Int), .int .u64 (f.r.lsn : Int), .int .i64 f.r.kind, .string f.r.key, .string f.r.val, .int .u64 (f.p.lsn : Int), .int .i64 f.p.kind, .int .i64 f.p.at_, .int .i64 f.p.len, .string f.p.key, .int .i64 f.e.count, .int .i64 f.e.bytes, .int .i64 f.e.frames, .int .u32 (f.e.sum : Int), .int .i64 (x1 : Int), .int .i64 (x2 : Int)] rfl rfl (HJ.out.alloc _) rfl HONE.out (fun j u hu => cell_lit W _ _ j u _ rfl hu) (LP.length + 1) (by rw [List.length_map]) (by omega) (by unfold maxLen; omega) (by rw [World.size_alloc]; omega) ?_; intro g3 c3 w3 hj3 hg3 hw3; have be3 := Boxed.grownJ (BE.out.alloc _) (HJ.out.alloc _) (by decide) hg3; have p1 := be3.cell; have p2 := be3.frozen; have HJ3 := hd hj3; have HG3 := hd hg3; clear hj3 hg3 be3 hw3)
      have hfin := rc_step (x := (x1, x2, f)) (pre := P) (zs := [1, 2]) hs4.symm BE.out BM.out HJ.out HS.out HG3.out (by
        rw [HSN.out, List.map_append, List.map_singleton, ← HLE.out]
        exact HJ3.out)
      rw [← HMP.out] at hfin
      exact ⟨hfin.1.from _, hfin.2.1, hfin.2.2⟩
    · rw [decide_eq_false hw] at cM
      rw [if_neg hw, List.append_nil] at HSN
      clear hw
      gi_wp2
      refine ⟨(KeepsOthers.refl _).from _, KeepS.refl _, ?_⟩
      show RcInv N [1, 2] w4 ((pre ++ [(⟨(x1, x2, f), hx⟩ : PL l.length)]).map Subtype.val) W
      rw [HMP.out]
      refine ⟨⟨_, BE.out, BM.out, ?_⟩, HS.out⟩
      rw [HSN.out]
      exact HJ.out
  case done =>
    rintro D ys V hD hys ⟨⟨ve, be, bm, j⟩, hS⟩ hKD
    gi_wp2
    refine HK.out _ _ ?_
    clear HK
    have hex : (ys.map Subtype.val).filter (isw [1, 2]) = recs [1, 2] l := by rw [hys]; rfl
    rw [hex] at j
    have cE := be.cell
    have HJ := hd j
    have HS := hd hS
    have HKD := hd hKD
    clear be bm j hS hex hys hKD
    gi_wp2
    have hKD2 := HKD.out
    refine ⟨by simp, .inl ⟨_, _, rfl, run_takeDeferred hKD2, ?_⟩⟩
    have hN1 := HN1.out
    refine ⟨_, results_tmp rfl _ _ _, ve, rfl, ?_, ?_⟩
    · exact (HJ.out.kept (grownBy_putObj' V D _) (fun r e => by cases e; exact ⟨_, hKD2, rfl⟩)).lower (by omega)
    · have b1 : Below w.heap.size w V := hB4.out.trans (HS.out.below (fun g hg => Or.inl (by omega)))
      exact b1.trans (belowK_b (w := w) (by omega) V D _ _ (by have := hB4.out.size; omega) hKD2 rfl rfl)
  case stop =>
    rintro D c2 pre W hD hp h hK
    exact h.elim
end Vt
end Go.Proofs.Ytifjjoobbegpoaa
