/-
  scan.Records without kinds: the frames of Put and Delete.
  SEGMENTS, PLAINLY: what Files and Lasting tell of a writer's disk; of the segment at hand all lasts but the last records, fewer than the writer's number.
  EXTENTS COVER EVERY BYTE ONCE, plainly: they lie end to end; at a frame's first byte a frame is read, at no other place.
  CLEAN BYTES, plainly: frames one behind the other; what is laid behind them is cut as by itself.
  PARTS AND DAMAGE, plainly: a part has just the frames that lie in it whole; where a byte is changed all frames that do not hold it stay.
  A REGION THAT DRAWS ITS ORDER, WITHIN A FENCE, AS Rd HAS IT; what is not yet listed has not yet written; the world of a region with two operations that turn it.
  THE WALK OF the law's own lent (layer 5): bytes that are lent, with marked places behind them.
  THE LAW'S spots AND has: the places of the frames, as Extents tells them.
-/
import Derived.Test.YtolddolfpnkndaaGreatXubt
import Derived.Test.YtolddolfpnkndaaGreatXubg
import Derived.Test.YtolddolfpnkndaaGreatXubm
import Derived.Test.YtolddolfpnkndaaGreatXubr
import Derived.Test.YtolddolfpnkndaaGreatXubo
import Derived.Test.YtolddolfpnkndaaGreatXuaa
namespace Go.Proofs.YtolddolfpnkndaaGreat
open Go.RowKit Go.Shelf
namespace Vt
abbrev JL := JR 61 16
theorem info_lc : (Tryz.prog.info? 61).map (fun i => (i.zero, i.size, i.bytes)) = some (some (.agg #[.int .i64 0, .int .u64 0, .int .i64 0, .string ⟨#[]⟩, .string ⟨#[]⟩, .int .u64 0, .int .i64 0, .int .i64 0, .int .i64 0, .string ⟨#[]⟩, .int .i64 0, .int .i64 0, .int .i64 0, .int .u32 0, .int .i64 0, .int .i64 0]), 16, 152) := by kernel_rfl
theorem lcv_one (x : Lc) : ∀ u ∈ lcv x, u.oneCell' = true := by
  intro u hu
  simp only [lcv, List.mem_cons, List.mem_nil_iff, or_false] at hu
  rcases hu with rfl | rfl | rfl | rfl | rfl | rfl | rfl | rfl | rfl | rfl | rfl | rfl | rfl | rfl | rfl | rfl <;> rfl
/-- a frame of a wanted kind -/
def isw (zs : List Int) (x : Lc) : Bool := decide (x.2.2.kind ∈ zs)
noncomputable def recs (zs : List Int) (l : List Nat) : List Lc := (locs 0 l).filter (isw zs)
theorem rf_kind {f : Fr} (h : rf f = 0) : 1 ≤ f.kind ∧ f.kind ≤ 4 := by
  unfold rf at h
  split at h
  · omega
  · split at h
    · omega
    · split at h
      · omega
      · omega
theorem mks_at (zs : List Int) (j : Nat) (h1 : 1 ≤ j) (h4 : j ≤ 4) : (mks zs)[j]? = some (.bool (decide ((j : Int) ∈ zs))) := by
  obtain rfl | rfl | rfl | rfl : j = 1 ∨ j = 2 ∨ j = 3 ∨ j = 4 := by omega
  all_goals rfl
/-- between two rounds -/
def RcInv (N : Nat) (zs : List Int) (w4 : World) (pre : List Lc) (W : World) : Prop :=
  (∃ ve, Boxed W (N + 1) 47 ve ∧ Blk W N 101 (mks zs) ∧ JL W (N + 4) ve ((pre.filter (isw zs)).map lcv)) ∧ KeepS (SE N) w4 W
theorem blk_keptO {W W' : World} {row : Option Nat} {O : Nat} {t : TypeId} {cs : List Value} (h : Blk W O t cs) (hg : W.grownBy W' row) (hr : ∀ r, row = some r → ∃ o : Obj, W.heap[r]? = some o ∧ o.isCells = false) : Blk W' O t cs := by
  refine h.grown hg (fun e => ?_)
  obtain ⟨o, ho, hc⟩ := hr O e.symm
  have h2 : W.heap[O]? = _ := h
  rw [h2] at ho
  injection ho with ho
  rw [← ho] at hc
  cases hc
theorem rcInv_own {β : Type} {N : Nat} {zs : List Int} {w4 : World} (f : β → List Lc) (hs : N + 4 = w4.heap.size) : OwnFrom w4.heap.size (fun s W => RcInv N zs w4 (f s) W) := by
  intro s W W' row hs' hg hr
  obtain ⟨⟨ve, be, bn, j⟩, hS⟩ := hs'
  have hr' : ∀ r, row = some r → ∃ o : Obj, W.heap[r]? = some o ∧ o.isCells = false := fun r e => (hr r e).2
  exact ⟨⟨ve, Boxed.keptO be hg hr', blk_keptO bn hg hr', j.kept hg hr'⟩, hS.grown hg (se_lt (by have := hS.size; omega)) (fun g e h => by have := (hr g e).1; unfold SE at h; omega)⟩
theorem RcInv.alloc {N : Nat} {zs : List Int} {w4 W : World} {pre : List Lc} (h : RcInv N zs w4 pre W) (hs : N + 4 = w4.heap.size) (o : Obj) : RcInv N zs w4 pre (W.alloc o) := by
  obtain ⟨⟨ve, be, bn, j⟩, hS⟩ := h
  exact ⟨⟨ve, be.alloc o, bn.alloc o, j.alloc o⟩, hS.alloc (se_lt (by have := hS.size; omega)) o⟩
/-- the world behind a round that lays a frame down -/
theorem rc_step {N : Nat} {zs : List Int} {w4 W w3 : World} {pre : List Lc} {ve v3 : Value} {o : Obj} {x : Lc} (hs : N + 4 = w4.heap.size)
    (be : Boxed W (N + 1) 47 ve) (bm : Blk W N 101 (mks zs)) {L : List (List Value)} (j : JL W (N + 4) ve L) (hS : KeepS (SE N) w4 W)
    (g3 : (W.alloc o).grownBy w3 ve.ownBlock) (j3 : JL w3 (N + 4) v3 (((pre ++ [x]).filter (isw zs)).map lcv)) :
    KeepsOthers W (w3.setCell ⟨N + 1, 0, none⟩ v3) ∧ KeepS (SE N) W (w3.setCell ⟨N + 1, 0, none⟩ v3) ∧ RcInv N zs w4 (pre ++ [x]) (w3.setCell ⟨N + 1, 0, none⟩ v3) := by
  have hsW := hS.size
  have hs3 := g3.size
  rw [World.size_alloc] at hs3
  have nE : ∀ g, ve.ownBlock = some g → N + 4 ≤ g := j.blk_ge
  have n3 : ∀ g, v3.ownBlock = some g → N + 4 ≤ g := j3.blk_ge
  have be3 := Boxed.grownJ (be.alloc o) (j.alloc o) (by decide) g3
  have bm3 := Blk.grownJ (bm.alloc o) (j.alloc o) (by decide) g3
  have k3 : KeepS (SE N) W w3 := ((KeepS.refl W).alloc (se_lt (by omega)) o).grown g3 (se_lt (by rw [World.size_alloc]; omega)) (fun g e h => by have := nE g e; unfold SE at h; omega)
  have k4 : KeepS (SE N) W (w3.setCell ⟨N + 1, 0, none⟩ v3) := k3.setCell (p := ⟨N + 1, 0, none⟩) (fun h => by have h' : N + 1 < N ∨ N + 1 = N + 2 := h; omega) _
  refine ⟨?_, k4, ⟨v3, ?_, ?_, ?_⟩, hS.trans k4⟩
  · exact (KeepsOthers.alloc _ o).trans (((j.alloc o).others g3).trans (KeepsOthers.setCell _ _ _))
  · exact be3.set v3
  · exact bm3.other (p := ⟨N + 1, 0, none⟩) (by show N + 1 ≠ N; omega) _
  · exact j3.setO (p := ⟨N + 1, 0, none⟩) (fun g hg => by have := n3 g hg; show g ≠ N + 1; omega) _
attribute [local go_sem] Oper.semAt_some
set_option maxRecDepth 100000 in
set_option maxHeartbeats 2000000 in
theorem records_nil (v : Value) (l : List Nat) (w : World) (hI : IsB w v l) (hl : l.length ≤ 16777216) :
    Calls Tryz.prog 15 #[v, .slice none 0 0] w fun e w' => ∃ v', e = .returned v' ∧ JL w' w.heap.size v' ((recs [1, 2] l).map lcv) ∧ Below w.heap.size w w' := by
  obtain ⟨a, c, rfl⟩ := hI.shape
  have HI := hd hI
  clear hI
  refine (callsIn_wide (n := 8)).1 ?_
  refine callsIn_of_wp_marks Tryz.func15 rfl trivial (Code.wpIn_mono bodyPostF_M ?_) rfl
  simp only [Tryz.ntmps15, List.size_toArray, List.length_cons, List.length_nil, Nat.reduceAdd, Nat.reduceSub, Array.replicate_succ, Array.replicate_zero, List.push_toArray, List.append_toArray, List.nil_append, List.cons_append]
  gi_wp2
  refine ⟨trivial, CallsIn.mono (callsIn_wide.2 (marks_is w.heap.size 0 2 [1, 2] (w.alloc (.cells #[.int .i64 1, .int .i64 2] 36)) (by simp) (by
    intro i hi
    obtain rfl | rfl : i = 0 ∨ i = 1 := by simp at hi; omega
    · exact cell_lit w _ [.int .i64 1, .int .i64 2] 0 _ _ rfl rfl
    · exact cell_lit w _ [.int .i64 1, .int .i64 2] 1 _ _ rfl rfl) (by decide))) ?_⟩
  rintro e w1 ⟨rfl, hb1⟩
  have HB1 : Hid (Below w.heap.size w w1) := ((Below.refl _ w).alloc (Nat.le_refl _) _).trans (hb1.mono (by simp))
  clear hb1
  have hmk : mks [1, 2] = [.bool false, .bool true, .bool true, .bool false, .bool false] := by simp [mks]
  rw [hmk]
  have HMK := hd hmk
  clear hmk
  gi_wp2
  refine ⟨trivial, CallsIn.mono (callsIn_wide.2 (located_is _ _ _ _ _)) ?_⟩
  rintro e w4 ⟨rfl, hw4⟩
  obtain ⟨N, hN⟩ : ∃ N, N = w1.heap.size := ⟨_, rfl⟩
  have hn1 : w.heap.size ≤ N := by rw [hN]; exact HB1.out.size
  have hs4 : w4.heap.size = N + 4 := by rw [hw4, hN]; simp
  have hB4 : Hid (Below w.heap.size w w4) := by
    rw [hw4]; exact (((HB1.out.alloc (by omega) _).alloc (by simp; omega) _).alloc (by simp; omega) _).alloc (by simp; omega) _
  have BM4 : Hid (Blk w4 N 101 (mks [1, 2])) := by rw [hw4, hN, HMK.out]; exact (((Blk.new w1 101 _).alloc _).alloc _).alloc _
  have BE4 : Hid (Boxed w4 (N + 1) 47 (.slice none 0 0)) := by
    have := Boxed.new (w1.alloc (.cells #[.bool false, .bool true, .bool true, .bool false, .bool false] 101)) 47 (.slice none 0 0)
    rw [World.size_alloc, ← hN] at this
    rw [hw4]; exact (this.alloc _).alloc _
  have BB4 : Hid (Boxed w4 (N + 2) 49 (.slice a l.length c)) := by
    have := Boxed.new ((w1.alloc (.cells #[.bool false, .bool true, .bool true, .bool false, .bool false] 101)).alloc (.cells #[.slice none 0 0] 47)) 49 (.slice a l.length c)
    rw [World.size_alloc, World.size_alloc, ← hN] at this
    rw [hw4]; exact this.alloc _
  have BF4 : Hid (Boxed w4 (N + 3) 3 (.int .i64 0)) := by
    have := Boxed.new (((w1.alloc (.cells #[.bool false, .bool true, .bool true, .bool false, .bool false] 101)).alloc (.cells #[.slice none 0 0] 47)).alloc (.cells #[.slice a l.length c] 49)) 3 (.int .i64 0)
    rw [World.size_alloc, World.size_alloc, World.size_alloc, ← hN] at this
    rw [hw4]; exact this
  simp only [World.size_alloc]
  rw [← hN]
  have HN := hd hN
  have HN1 := hd hn1
  clear hw4 hN
  have hseq := located_stops 7 (by omega) l.length (SE N) (N + 1 + 1) (N + 1 + 1 + 1) (.slice a l.length c) 0 l w4 (Nat.le_refl _) (Or.inr rfl) (by omega) (by omega) (se_lt (by omega)) BB4.out.cell BF4.out.cell (HI.out.below hB4.out) (fun b off c' hne e => by
    obtain ⟨_, _, ⟨rfl, _⟩ | ⟨nb, no, nc, e1, _, _, hnb, hnr⟩⟩ := HI.out
    · exact absurd rfl hne
    · rw [e] at e1; injection e1 with e1 e2 e3; injection e1 with e1; injection e1 with e1 e4; left; omega)
  have hfrm : frm l.length 0 = 0 := by unfold frm; simp
  rw [hfrm, List.drop_zero] at hseq
  have HSQ := hd hseq
  clear hseq hfrm hn1
  gi_wp2
  rename_i K hK
  have HK := hd hK
  clear hK
  refine wpIn_rangeFunc_ownH rfl (by omega) (gf := 59) (lb := #[.pointer (some ⟨N + 1 + 1, 0, none⟩), .pointer (some ⟨N + 1 + 1 + 1, 0, none⟩)]) rfl trivial (enters_of Tryz.func59 (by kernel_rfl) rfl) HSQ.out keepS_t (keepS_b (se_lt (by omega))) (Below.refl _ _) (fun _ => rfl)
    (fun (pre : List (PL l.length)) (W : World) => RcInv N [1, 2] w4 (pre.map Subtype.val) W)
    (fun _ _ _ => False)
    (rcInv_own _ hs4.symm)
    (fun _ _ _ _ _ hs _ _ => hs)
    ⟨⟨_, BE4.out, BM4.out, jr_nil _ _⟩, KeepS.refl _⟩
    (fun (x : PL l.length) a' W => ∃ Bx, N + 4 ≤ Bx ∧ Blk W Bx 61 (lcv x.1) ∧ a' = { tmps := #[Value.slice a l.length c, Value.slice (some { block := w.heap.size, off := 0 }) 2 2, undef, undef, Value.slice none 0 0, Value.pointer (some { block := N, off := 0 }), Value.pointer (some { block := N + 1, off := 0 }), Value.pointer (some { block := Bx, off := 0 }), Value.slice none 0 0, Value.int IntKind.i64 0, Value.bool true, Value.slice (some { block := w.heap.size, off := 0 }) 2 2, Value.slice (some { block := w.heap.size, off := 0 }) 2 2, Value.agg #[Value.bool false, Value.bool true, Value.bool true, Value.bool false, Value.bool false], Value.slice a l.length c, Value.func (Fn.func 59) #[] #[Value.pointer (some { block := N + 1 + 1, off := 0 }), Value.pointer (some { block := N + 1 + 1 + 1, off := 0 })], .agg (lcv x.1).toArray, undef, undef, undef, undef, undef, undef, undef, undef, undef, undef], defers := [] })
    (fun x a' _ W W' row hs hg hr => by
      obtain ⟨Bx, h1, h2, h3⟩ := hs
      exact ⟨Bx, h1, blk_keptO h2 hg (fun r e => (hr r e).2), h3⟩)
    ?assign ?body ?done ?stop
  case assign =>
    rintro lk pre ⟨⟨x1, x2, k, ⟨rl, rk, rkey, rval⟩, ⟨pl, pk, pa, pn, pkey⟩, ⟨ec, eb, ef, es⟩⟩, hx⟩ W K hi hK
    simp only [encl, lcv]
    gi_wp2
    have hsW := hi.2.size
    exact hK _ _ ((KeepsOthers.alloc _ _).from _) ((KeepS.refl _).alloc (se_lt (by omega)) _) (hi.alloc hs4.symm _) ⟨W.heap.size, by omega, Blk.new W 61 (lcv (x1, x2, ⟨k, ⟨rl, rk, rkey, rval⟩, ⟨pl, pk, pa, pn, pkey⟩, ⟨ec, eb, ef, es⟩⟩)), rfl⟩
  case body =>
    rintro lk pre ⟨⟨x1, x2, f⟩, hx⟩ a' W hlk _ ⟨⟨ve, be, bm, j⟩, hS⟩ ⟨Bx, hBx, hblk, rfl⟩ hlen
    have hxl : x1 + x2 ≤ l.length := hx.1
    have hk := rf_kind hx.2.2.1
    obtain ⟨q, hq⟩ : ∃ q : Nat, f.kind = (q : Int) := ⟨f.kind.toNat, by simp only at hk; omega⟩
    have hq1 : 1 ≤ q ∧ q ≤ 4 := by simp only at hk; omega
    have HMP : Hid ((pre ++ [(⟨(x1, x2, f), hx⟩ : PL l.length)]).map Subtype.val = pre.map Subtype.val ++ [(x1, x2, f)]) := by
      show _ = _
      rw [List.map_append, List.map_singleton]
    have hpl : ((pre.map Subtype.val).filter (isw [1, 2])).length ≤ pre.length := by
      have := List.length_filter_le (isw [1, 2]) (pre.map Subtype.val)
      rw [List.length_map] at this; exact this
    obtain ⟨P, hP⟩ : ∃ P, P = pre.map Subtype.val := ⟨_, rfl⟩
    rw [← hP] at j hpl HMP
    have HSN : Hid ((P ++ [(x1, x2, f)]).filter (isw [1, 2]) = P.filter (isw [1, 2]) ++ (if (q : Int) ∈ [1, 2] then [(x1, x2, f)] else [])) := by
      show _ = _
      rw [List.filter_append, List.filter_cons, List.filter_nil]
      unfold isw
      rw [hq]
      simp only [decide_eq_true_eq]
    have HLQ : Hid (Blk W Bx 61 [.int .i64 (q : Int), .int .u64 (f.r.lsn : Int), .int .i64 f.r.kind, .string f.r.key, .string f.r.val, .int .u64 (f.p.lsn : Int), .int .i64 f.p.kind, .int .i64 f.p.at_, .int .i64 f.p.len, .string f.p.key, .int .i64 f.e.count, .int .i64 f.e.bytes, .int .i64 f.e.frames, .int .u32 (f.e.sum : Int), .int .i64 (x1 : Int), .int .i64 (x2 : Int)]) := by
      have h := hblk
      unfold lcv at h
      simp only [hq] at h
      exact h
    have HLE : Hid ([.int .i64 (q : Int), .int .u64 (f.r.lsn : Int), .int .i64 f.r.kind, .string f.r.key, .string f.r.val, .int .u64 (f.p.lsn : Int), .int .i64 f.p.kind, .int .i64 f.p.at_, .int .i64 f.p.len, .string f.p.key, .int .i64 f.e.count, .int .i64 f.e.bytes, .int .i64 f.e.frames, .int .u32 (f.e.sum : Int), .int .i64 (x1 : Int), .int .i64 (x2 : Int)] = lcv (x1, x2, f)) := by
      show _ = _
      unfold lcv
      rw [hq]
    have cM : W.cell? ⟨N, q, none⟩ = some (.bool (decide ((q : Int) ∈ [1, 2]))) := bm.cell q _ (mks_at _ q hq1.1 hq1.2)
    have BE := hd be
    have BM := hd bm
    have HS := hd hS
    have HJ := hd j
    have HP := hd hP
    have HQ := hd hq
    have cE := be.cell
    have c0 : W.cell? ⟨Bx, 0, none⟩ = some (.int .i64 (q : Int)) := HLQ.out.cell 0 _ rfl
    have c1 : W.cell? ⟨Bx, 1, none⟩ = some (.int .u64 (f.r.lsn : Int)) := HLQ.out.cell 1 _ rfl
    have c2 : W.cell? ⟨Bx, 2, none⟩ = some (.int .i64 f.r.kind) := HLQ.out.cell 2 _ rfl
    have c3 : W.cell? ⟨Bx, 3, none⟩ = some (.string f.r.key) := HLQ.out.cell 3 _ rfl
    have c4 : W.cell? ⟨Bx, 4, none⟩ = some (.string f.r.val) := HLQ.out.cell 4 _ rfl
    have c5 : W.cell? ⟨Bx, 5, none⟩ = some (.int .u64 (f.p.lsn : Int)) := HLQ.out.cell 5 _ rfl
    have c6 : W.cell? ⟨Bx, 6, none⟩ = some (.int .i64 f.p.kind) := HLQ.out.cell 6 _ rfl
    have c7 : W.cell? ⟨Bx, 7, none⟩ = some (.int .i64 f.p.at_) := HLQ.out.cell 7 _ rfl
    have c8 : W.cell? ⟨Bx, 8, none⟩ = some (.int .i64 f.p.len) := HLQ.out.cell 8 _ rfl
    have c9 : W.cell? ⟨Bx, 9, none⟩ = some (.string f.p.key) := HLQ.out.cell 9 _ rfl
    have c10 : W.cell? ⟨Bx, 10, none⟩ = some (.int .i64 f.e.count) := HLQ.out.cell 10 _ rfl
    have c11 : W.cell? ⟨Bx, 11, none⟩ = some (.int .i64 f.e.bytes) := HLQ.out.cell 11 _ rfl
    have c12 : W.cell? ⟨Bx, 12, none⟩ = some (.int .i64 f.e.frames) := HLQ.out.cell 12 _ rfl
    have c13 : W.cell? ⟨Bx, 13, none⟩ = some (.int .u32 (f.e.sum : Int)) := HLQ.out.cell 13 _ rfl
    have c14 : W.cell? ⟨Bx, 14, none⟩ = some (.int .i64 (x1 : Int)) := HLQ.out.cell 14 _ rfl
    have c15 : W.cell? ⟨Bx, 15, none⟩ = some (.int .i64 (x2 : Int)) := HLQ.out.cell 15 _ rfl
    clear be bm hS hblk hP hq hk
    obtain ⟨LP, hLP⟩ : ∃ LP, LP = P.filter (isw [1, 2]) := ⟨_, rfl⟩
    rw [← hLP] at HJ HSN j hpl
    clear hLP
    obtain ⟨av, cv, hve, hcv⟩ := j.shape
    rw [List.length_map] at hve hcv
    subst hve
    clear j
    have hsW := HS.out.size
    by_cases hw : (q : Int) ∈ ([1, 2] : List Int)
    · rw [decide_eq_true hw] at cM
      rw [if_pos hw] at HSN
      clear hw
      have hone : ∀ u ∈ ([.int .i64 (q : Int), .int .u64 (f.r.lsn : Int), .int .i64 f.r.kind, .string f.r.key, .string f.r.val, .int .u64 (f.p.lsn : Int), .int .i64 f.p.kind, .int .i64 f.p.at_, .int .i64 f.p.len, .string f.p.key, .int .i64 f.e.count, .int .i64 f.e.bytes, .int .i64 f.e.frames, .int .u32 (f.e.sum : Int), .int .i64 (x1 : Int), .int .i64 (x2 : Int)] : List Value), u.oneCell' = true := by rw [HLE.out]; exact lcv_one _
      have HONE := hd hone
      clear hone
      have fE := BE.out.frozen
      gi_wp2_with (gi_at_builtin; refine wpListIn_append_jr Tryz.underlying47 info_lc rfl (by decide) _ rfl _ _ rfl (N + 4) (.slice av LP.length cv) (LP.map lcv) W.heap.size 1 [.int .i64 (q : Int), .int .u64 (f.r.lsn : Int), .int .i64 f.r.kind, .string f.r.key, .string f.r.val, .int .u64 (f.p.lsn : Int), .int .i64 f.p.kind, .int .i64 f.p.at_, .int .i64 f.p.len, .string f.p.key, .int .i64 f.e.count, .int .i64 f.e.bytes, .int .i64 f.e.frames, .int .u32 (f.e.sum : Int), .int .i64 (x1 : Int), .int .i64 (x2 : Int)] rfl rfl (HJ.out.alloc _) rfl HONE.out (fun j u hu => cell_lit W _ _ j u _ rfl hu) (LP.length + 1) (by rw [List.length_map]) (by omega) (by unfold maxLen; omega) (by rw [World.size_alloc]; omega) ?_; intro g3 c3 w3 hj3 hg3 hw3; have be3 := Boxed.grownJ (BE.out.alloc _) (HJ.out.alloc _) (by decide) hg3; have p1 := be3.cell; have p2 := be3.frozen; have HJ3 := hd hj3; have HG3 := hd hg3; clear hj3 hg3 be3 hw3)
      have hfin := rc_step (x := (x1, x2, f)) (pre := P) (zs := [1, 2]) hs4.symm BE.out BM.out HJ.out HS.out HG3.out (by
        rw [HSN.out, List.map_append, List.map_singleton, ← HLE.out]
        exact HJ3.out)
      rw [← HMP.out] at hfin
      exact ⟨hfin.1.from _, hfin.2.1, hfin.2.2⟩
    · rw [decide_eq_false hw] at cM
      rw [if_neg hw, List.append_nil] at HSN
      clear hw
      gi_wp2
      refine ⟨(KeepsOthers.refl _).from _, KeepS.refl _, ?_⟩
      show RcInv N [1, 2] w4 ((pre ++ [(⟨(x1, x2, f), hx⟩ : PL l.length)]).map Subtype.val) W
      rw [HMP.out]
      refine ⟨⟨_, BE.out, BM.out, ?_⟩, HS.out⟩
      rw [HSN.out]
      exact HJ.out
  case done =>
    rintro D ys V hD hys ⟨⟨ve, be, bm, j⟩, hS⟩ hKD
    gi_wp2
    refine HK.out _ _ ?_
    clear HK
    have hex : (ys.map Subtype.val).filter (isw [1, 2]) = recs [1, 2] l := by rw [hys]; rfl
    rw [hex] at j
    have cE := be.cell
    have HJ := hd j
    have HS := hd hS
    have HKD := hd hKD
    clear be bm j hS hex hys hKD
    gi_wp2
    have hKD2 := HKD.out
    refine ⟨by simp, .inl ⟨_, _, rfl, run_takeDeferred hKD2, ?_⟩⟩
    have hN1 := HN1.out
    refine ⟨_, results_tmp rfl _ _ _, ve, rfl, ?_, ?_⟩
    · exact (HJ.out.kept (grownBy_putObj' V D _) (fun r e => by cases e; exact ⟨_, hKD2, rfl⟩)).lower (by omega)
    · have b1 : Below w.heap.size w V := hB4.out.trans (HS.out.below (fun g hg => Or.inl (by omega)))
      exact b1.trans (belowK_b (w := w) (by omega) V D _ _ (by have := hB4.out.size; omega) hKD2 rfl rfl)
  case stop =>
    rintro D c2 pre W hD hp h hK
    exact h.elim
end Vt
end Go.Proofs.YtolddolfpnkndaaGreat
namespace Go.Proofs.YtolddolfpnkndaaGreat
open Go.RowKit Go.Maps Go.Sort
namespace Sg
open Vt Dk
def u8 (l : List Nat) : List UInt8 := l.map UInt8.ofNat
theorem u8_app (a b : List Nat) : u8 (a ++ b) = u8 a ++ u8 b := by unfold u8; rw [List.map_append]
theorem pre_lt (p : List UInt8) {x y : List UInt8} (h : x < y) : p ++ x < p ++ y := by
  induction p with
  | nil => exact h
  | cons a r ih => rw [List.cons_append, List.cons_append, List.cons_lt_cons_iff]; exact .inr ⟨rfl, ih⟩
theorem hx_mono {d e : Nat} (h : d < e) (he : e < 16) : UInt8.ofNat (Nam.hx d) < UInt8.ofNat (Nam.hx e) := by
  have : ∀ d e : Fin 16, d < e → UInt8.ofNat (Nam.hx d.val) < UInt8.ofNat (Nam.hx e.val) := by decide
  exact this ⟨d, by omega⟩ ⟨e, he⟩ h
theorem hex_lex (t : List UInt8) : ∀ (j n m : Nat), n % 16 ^ j < m % 16 ^ j → u8 (Nam.hex j n) ++ t < u8 (Nam.hex j m) ++ t
  | 0, n, m, h => by simp [Nat.mod_one] at h
  | j + 1, n, m, h => by
    have e1 : n % 16 ^ (j + 1) = n / 16 ^ j % 16 * 16 ^ j + n % 16 ^ j := by rw [Nat.pow_succ, Nat.mod_mul, Nat.mul_comm, Nat.add_comm]
    have e2 : m % 16 ^ (j + 1) = m / 16 ^ j % 16 * 16 ^ j + m % 16 ^ j := by rw [Nat.pow_succ, Nat.mod_mul, Nat.mul_comm, Nat.add_comm]
    have hpp : 0 < 16 ^ j := Nat.pow_pos (by omega)
    rw [e1, e2] at h
    show UInt8.ofNat (Nam.hx (n / 16 ^ j % 16)) :: (u8 (Nam.hex j n) ++ t) < UInt8.ofNat (Nam.hx (m / 16 ^ j % 16)) :: (u8 (Nam.hex j m) ++ t)
    rw [List.cons_lt_cons_iff]
    have hn := Nat.mod_lt n hpp
    rcases Nat.lt_trichotomy (n / 16 ^ j % 16) (m / 16 ^ j % 16) with q | q | q
    · exact .inl (hx_mono q (by omega))
    · refine .inr ⟨by rw [q], hex_lex t j n m ?_⟩
      rw [q] at h; omega
    · have h3 : (m / 16 ^ j % 16 + 1) * 16 ^ j ≤ n / 16 ^ j % 16 * 16 ^ j := Nat.mul_le_mul_right _ q
      rw [Nat.add_mul] at h3
      have := Nat.mod_lt m hpp
      omega
theorem nmS_lt {n m : Nat} (hm : m < 4294967296) (h : n < m) : (nmS n).data.toList < (nmS m).data.toList := by
  unfold nmS
  rw [str_data, str_data]
  show u8 (Nam.mk 1 n) < u8 (Nam.mk 1 m)
  unfold Nam.mk
  rw [u8_app, u8_app, u8_app, u8_app]
  refine pre_lt _ (hex_lex _ 8 n m ?_)
  rw [Nat.mod_eq_of_lt (by omega), Nat.mod_eq_of_lt (by omega)]
  exact h
theorem files_sorted (a : List (List Nat)) : ∀ k, k + a.length < 4294967296 → ((files k a).map fun f => f.nm.data.toList).Pairwise fun x y => leB x y = true := by
  induction a with
  | nil => intro k _; exact List.Pairwise.nil
  | cons y r ih =>
    intro k hk
    rw [List.length_cons] at hk
    show ((nmS k).data.toList :: (files (k + 1) r).map fun f => f.nm.data.toList).Pairwise _
    refine List.Pairwise.cons (fun x hx => ?_) (ih (k + 1) (by omega))
    obtain ⟨f, hf, rfl⟩ := List.mem_map.1 hx
    obtain ⟨j, h1, h2, h3⟩ := files_nm hf
    rw [h3]
    simp only [leB, decide_eq_true_eq]
    exact List.le_of_lt (nmS_lt (by omega) (by omega))
/-- what a disk tells whose names are in order -/
theorem told_sorted {S : Ds} (hn : S.fs.Pairwise fun a b => a.nm ≠ b.nm) (hs : (S.fs.map fun f => f.nm.data.toList).Pairwise fun x y => leB x y = true) (all : Bool) :
    Dk.told S all = S.fs.map fun f => (f.nm, if all then f.dat else f.dat.take f.las) := by
  unfold Dk.told
  rw [List.mergeSort_of_pairwise hs, List.map_map]
  refine List.map_congr_left fun f hf => ?_
  have hnm : (⟨f.nm.data.toList.toArray⟩ : ByteArray) = f.nm := by rcases f with ⟨⟨⟨x⟩⟩, _⟩; rfl
  simp only [Function.comp_apply, hnm, get_of_mem hn hf, Option.map_some, Option.getD_some]
theorem files_told (k : Nat) (a : List (List Nat)) (all : Bool) : ((files k a).map fun f => (f.nm, if all then f.dat else f.dat.take f.las)) = (files k a).map fun f => (f.nm, f.dat) := by
  induction a generalizing k with
  | nil => rfl
  | cons y r ih =>
    show _ :: _ = _ :: _
    rw [ih]
    cases all <;> simp
theorem told_iv {W : Ws} {S : Ds} {old : List (List Nat)} {cur : List Nat} {las : Nat} (h : Iv W S old cur las) (hl : old.length < 1000000) (all : Bool) :
    Dk.told S all = ((files 1 old).map fun f => (f.nm, f.dat)) ++ [(nmS (old.length + 1), if all then cur else cur.take las)] := by
  rw [told_sorted h.good.names ?_ all, h.fs, List.map_append, files_told]
  · rfl
  · have := files_sorted (old ++ [cur]) 1 (by rw [List.length_append]; simp; omega)
    rw [files_snoc, List.map_append] at this
    rw [h.fs, List.map_append, Nat.add_comm old.length 1]
    exact this
/-- of the segment at hand all lasts but the last records -/
def Tail (W : Ws) (cur : List Nat) (las : Nat) : Prop :=
  las ≤ cur.length ∧ (W.evy = 0 ∨ W.uns < W.evy) ∧ ∃ gs : List Fr, (∀ f ∈ gs, f.Wf ∧ rf f = 0 ∧ (f.kind = 1 ∨ f.kind = 2)) ∧ cur.drop las = (gs.map en).flatten ∧ gs.length = W.uns
theorem tail_nil {W : Ws} (h : W.uns = 0) (he : W.evy = 0 ∨ 0 < W.evy) (cur : List Nat) : Tail W cur cur.length := ⟨Nat.le_refl _, by rw [h]; exact he, [], by simp, by rw [List.drop_length]; rfl, h.symm⟩
theorem kindR (l : Ln) (k : Nat) : (ofR (lnR l k)).kind = 1 ∨ (ofR (lnR l k)).kind = 2 := by
  show (if l.gone then (2 : Int) else 1) = 1 ∨ (if l.gone then (2 : Int) else 1) = 2
  cases l.gone <;> simp
theorem Pu.tail {W W' : Ws} {S S' : Ds} {old' : List (List Nat)} {cur0 : List Nat} {l : Ln} {k las0 uns0 las' : Nat} (h : Pu W W' S S' old' cur0 (fB l k) las0 uns0 las') (hk : k < 1000000) (ht : las0 ≤ cur0.length ∧ ∃ gs : List Fr, (∀ f ∈ gs, f.Wf ∧ rf f = 0 ∧ (f.kind = 1 ∨ f.kind = 2)) ∧ cur0.drop las0 = (gs.map en).flatten ∧ gs.length = uns0) : Tail W' (cur0 ++ fB l k) las' := by
  obtain ⟨h0, gs, h1, h2, h3⟩ := ht
  rcases h.las with ⟨e1, e2, e3⟩ | ⟨e1, e2⟩
  · refine ⟨by rw [e1, List.length_append]; omega, by rw [h.evy, e2]; exact e3, gs ++ [ofR (lnR l k)], ?_, ?_, by rw [List.length_append, e2, h3]; rfl⟩
    · intro f hf
      rcases List.mem_append.1 hf with hf | hf
      · exact h1 f hf
      · rw [List.mem_singleton] at hf; subst hf; exact ⟨lnR_wf l k hk, lnR_rf l k, kindR l k⟩
    · rw [e1, List.drop_append_of_le_length h0, h2]
      simp [fB]
  · rw [e1]
    exact tail_nil e2 (by omega) _
theorem locs_count (gs : List Fr) (h : ∀ f ∈ gs, f.Wf ∧ rf f = 0 ∧ (f.kind = 1 ∨ f.kind = 2)) : Byt (gs.map en).flatten → ∀ at_, ((locs at_ (gs.map en).flatten).filter (isw [1, 2])).length = gs.length := by
  induction gs with
  | nil => intro _ at_; rfl
  | cons f r ih =>
    intro hb at_
    obtain ⟨h1, h2, h3⟩ := h f List.mem_cons_self
    rw [List.map_cons, List.flatten_cons] at hb ⊢
    rw [locs_en h1 h2 hb, List.filter_cons_of_pos (by unfold isw; simp; exact h3), List.length_cons, List.length_cons, ih (fun g hg => h g (List.mem_cons_of_mem _ hg)) (fun y hy => hb y (List.mem_append_right _ hy))]
theorem Tail.count {W : Ws} {cur : List Nat} {las : Nat} (h : Tail W cur las) (hb : Byt cur) : (recs [1, 2] (cur.drop las)).length = W.uns := by
  obtain ⟨_, _, gs, h1, h2, h3⟩ := h
  unfold recs
  rw [h2, locs_count gs h1 (h2 ▸ byt_drop hb las), h3]
/-- behind k lines -/
def La (X : Ws × Ds) : Prop := Iv0 X.1 X.2 ∨ ∃ old cur las, Iv X.1 X.2 old cur las ∧ old.length ≤ 60 ∧ Tail X.1 cur las
/-- behind one line more -/
theorem La.step {lim evy k : Nat} {X : Ws × Ds} (h : Ok lim evy k X) (hl : La X) (hk : k < 60) (l : Ln) :
    La (stp l k X) ∧ ∃ old cur0 las, Iv (stp l k X).1 (stp l k X).2 old (cur0 ++ fB l k) las ∧ old.length ≤ 60 ∧ Tail (stp l k X).1 (cur0 ++ fB l k) las ∧ plc l k X = (old.length + 1, cur0.length, (fB l k).length) ∧ (l.syn = true → las = (cur0 ++ fB l k).length) := by
  have hfl : (fB l k).length ≤ 1000 := lnR_len l k (by omega)
  have hroom : X.2.used + (fB l k).length ≤ X.2.cap := by rw [h.cap]; have := h.used; omega
  have main : ∀ {old cur0 : List _} {las0 uns0 las' : Nat}, Pu X.1 (pt X.1 X.2 (fB l k)).2.1 X.2 (pt X.1 X.2 (fB l k)).2.2 old cur0 (fB l k) las0 uns0 las' → old.length ≤ 60 → plc l k X = (old.length + 1, cur0.length, (fB l k).length) → (las0 ≤ cur0.length ∧ ∃ gs : List Fr, (∀ f ∈ gs, f.Wf ∧ rf f = 0 ∧ (f.kind = 1 ∨ f.kind = 2)) ∧ cur0.drop las0 = (gs.map en).flatten ∧ gs.length = uns0) →
      ∃ old cur0 las, Iv (stp l k X).1 (stp l k X).2 old (cur0 ++ fB l k) las ∧ old.length ≤ 60 ∧ Tail (stp l k X).1 (cur0 ++ fB l k) las ∧ plc l k X = (old.length + 1, cur0.length, (fB l k).length) ∧ (l.syn = true → las = (cur0 ++ fB l k).length) := by
    intro old cur0 las0 uns0 las' hp ho hpl ht
    have hT := hp.tail (by omega) ht
    obtain ⟨s1, s2, s3, s4⟩ := sy_iv hp.iv
    unfold stp
    by_cases hs : l.syn = true
    · rw [if_pos hs, s2]
      exact ⟨old, cur0, _, s3, ho, tail_nil rfl (by show (pt X.1 X.2 (fB l k)).2.1.evy = 0 ∨ 0 < (pt X.1 X.2 (fB l k)).2.1.evy; omega) _, hpl, fun _ => rfl⟩
    · rw [if_neg hs]
      exact ⟨old, cur0, _, hp.iv, ho, hT, hpl, fun q => absurd q hs⟩
  have fin : (∃ old cur0 las, Iv (stp l k X).1 (stp l k X).2 old (cur0 ++ fB l k) las ∧ old.length ≤ 60 ∧ Tail (stp l k X).1 (cur0 ++ fB l k) las ∧ plc l k X = (old.length + 1, cur0.length, (fB l k).length) ∧ (l.syn = true → las = (cur0 ++ fB l k).length)) := by
    rcases h.at_ with ⟨rfl, hi⟩ | ⟨hk0, o, c, s, hi, ho, hc, _⟩
    · obtain ⟨p1, p2, p3, las', p4⟩ := pt_iv0 hi (fB l 0) hroom
      exact main p4 (by simp) (by unfold plc; rw [p2, p3]; rfl) ⟨Nat.le_refl _, [], by simp, rfl, rfl⟩
    · rcases hl with hi0 | ⟨old, cur, las, hi', ho', h1, _, gs, h3, h4, h5⟩
      · exact absurd (hi.fs.symm.trans hi0.fs) (by simp)
      · have hol : old.length ≤ k := by
          have e := congrArg List.length (hi.fs.symm.trans hi'.fs)
          rw [List.length_append, List.length_append, files_len, files_len] at e
          simp only [List.length_cons, List.length_nil] at e
          omega
        obtain ⟨p1, las', ⟨f1, p2, p3, p4⟩ | ⟨f1, p2, p3, p4⟩⟩ := pt_iv hi' (fB l k) hroom (by omega)
        · exact main p4 ho' (by unfold plc; rw [p2, p3]) ⟨h1, gs, h3, h4, h5⟩
        · exact main p4 (by rw [List.length_append]; simp; omega) (by unfold plc; rw [p2, p3]; simp) ⟨Nat.le_refl _, [], by simp, rfl, rfl⟩
  refine ⟨?_, fin⟩
  obtain ⟨old, cur0, las, f1, f2, f3, _⟩ := fin
  exact .inr ⟨old, _, las, f1, f2, f3⟩
end Sg
end Go.Proofs.YtolddolfpnkndaaGreat
namespace Go.Proofs.YtolddolfpnkndaaGreat
namespace Vt
/-- extents that lie end to end from at_ on to the end; pj: is the one ahead junk? -/
def Tiles (l : List Nat) : Nat → Bool → List Ex → Prop
  | at_, _, [] => at_ = l.length
  | at_, pj, x :: r => ∃ n : Nat, x.2.1 = (at_ : Int) ∧ x.2.2 = (n : Int) ∧ 1 ≤ n ∧ at_ + n ≤ l.length ∧ (x.1 = true → pj = false) ∧
      (∀ k, at_ ≤ k → k < at_ + n → ((dcd (l.drop k)).2.2 = 0 ↔ (x.1 = false ∧ k = at_))) ∧ (x.1 = false → (dcd (l.drop at_)).2.1 = n) ∧ Tiles l (at_ + n) x.1 r
end Vt
end Go.Proofs.YtolddolfpnkndaaGreat
namespace Go.Proofs.YtolddolfpnkndaaGreat
namespace Vt
/-- frames one behind the other -/
def ens (fs : List Fr) : List Nat := (fs.map en).flatten
def Fit (fs : List Fr) : Prop := ∀ f ∈ fs, f.Wf ∧ rf f = 0
theorem fit_cons {f : Fr} {q : List Fr} (h : Fit (f :: q)) : f.Wf ∧ rf f = 0 ∧ Fit q := ⟨(h f List.mem_cons_self).1, (h f List.mem_cons_self).2, fun x hx => h x (List.mem_cons_of_mem _ hx)⟩
theorem ens_cons (f : Fr) (q : List Fr) : ens (f :: q) = en f ++ ens q := rfl
theorem ens_byt {fs : List Fr} (h : Fit fs) : Byt (ens fs) := by
  induction fs with
  | nil => exact byt_nil
  | cons f q ih =>
    obtain ⟨_, h2, h3⟩ := fit_cons h
    rw [ens_cons]; exact byt_app (en_byt h2) (ih h3)
/-- where they stand -/
def plf : Nat → List Fr → List Lc
  | _, [] => []
  | p, f :: q => (p, (en f).length, f) :: plf (p + (en f).length) q
theorem locs_ens {fs : List Fr} (h : Fit fs) {r : List Nat} (hr : Byt r) : ∀ p, locs p (ens fs ++ r) = plf p fs ++ locs (p + (ens fs).length) r := by
  induction fs with
  | nil => intro p; rfl
  | cons f q ih =>
    intro p
    obtain ⟨h1, h2, h3⟩ := fit_cons h
    rw [ens_cons, List.append_assoc, locs_en h1 h2 (byt_app (en_byt h2) (byt_app (ens_byt h3) hr)), ih h3, plf, List.length_append, Nat.add_assoc]; rfl
/-- the extents of frames alone -/
def fex : Nat → List Fr → List Ex
  | _, [] => []
  | p, f :: q => (false, (p : Int), ((en f).length : Int)) :: fex (p + (en f).length) q
def exsh (q : Nat) (x : Ex) : Ex := (x.1, (q : Int) + x.2.1, x.2.2)
end Vt
end Go.Proofs.YtolddolfpnkndaaGreat
namespace Go.Proofs.YtolddolfpnkndaaGreat
namespace Vt
theorem dcd_split {m : List Nat} {f : Fr} {n : Nat} (hb : Byt m) (h : dcd m = (f, n, 0)) : f.Wf ∧ rf f = 0 ∧ n = (en f).length ∧ n ≤ m.length ∧ m = en f ++ m.drop n := by
  obtain ⟨e1, e2, e3, e4, e5⟩ := en_dcd hb (by rw [h])
  rw [h] at e1 e2 e3 e4 e5
  refine ⟨e2, e1, e3, e4, ?_⟩
  rw [← e5, List.take_append_drop]
/-- what reads alike as far as a frame goes has that frame -/
theorem dcd_alike {m m' : List Nat} {f : Fr} {n : Nat} (hb : Byt m) (h : dcd m = (f, n, 0)) (he : m'.take n = m.take n) : dcd m' = (f, n, 0) := by
  obtain ⟨e1, e2, e3, e4, e5⟩ := dcd_split hb h
  have e6 : m.take n = en f := by rw [e5, e3, List.take_left' rfl]
  have e7 : m' = en f ++ m'.drop n := by rw [← e6, ← he, List.take_append_drop]
  rw [e7, dcd_en e1 e2, e3]
theorem locs_upto {l : List Nat} (hb : Byt l) : ∀ (at_ t : Nat), (locs at_ l).filter (fun x => decide (x.1 + x.2.1 ≤ at_ + t)) = locs at_ (l.take t) := by
  induction l with
  | nil => intro at_ t; simp [locs]
  | cons y r ih =>
    intro at_ t
    have hbr : Byt r := fun z hz => hb z (List.mem_cons_of_mem _ hz)
    cases t with
    | zero =>
      rw [List.take_zero, locs_nil, List.filter_eq_nil_iff]
      intro x hx
      have h1 := locs_mem hb at_ x hx
      simp; omega
    | succ t =>
      have h := ih hbr (at_ + 1) t
      rw [List.take_succ_cons, locs, locs]
      have hbt : Byt (y :: r.take t) := fun z hz => by
        rcases List.mem_cons.1 hz with rfl | hz
        · exact hb _ List.mem_cons_self
        · exact hbr z (List.mem_of_mem_take hz)
      have htk : (y :: r.take t) = (y :: r).take (t + 1) := by rw [List.take_succ_cons]
      by_cases hd : (dcd (y :: r)).2.2 = 0
      · obtain ⟨f, n, e, hdd⟩ : ∃ f n e, dcd (y :: r) = (f, n, e) := ⟨_, _, _, rfl⟩
        rw [hdd] at hd
        simp only at hd
        subst hd
        obtain ⟨_, _, k3, k4, _⟩ := dcd_split hb hdd
        rw [hdd, if_pos rfl]
        by_cases hn : n ≤ t + 1
        · have h2 : dcd (y :: r.take t) = (f, n, 0) := dcd_alike hb hdd (by rw [htk, List.take_take, Nat.min_eq_left hn])
          rw [h2, if_pos rfl, List.filter_cons_of_pos (by simp; omega), show at_ + (t + 1) = at_ + 1 + t by omega, h]
        · have h2 : (dcd (y :: r.take t)).2.2 ≠ 0 := fun h2 => by
            obtain ⟨f', n', e', hdd'⟩ : ∃ f' n' e', dcd (y :: r.take t) = (f', n', e') := ⟨_, _, _, rfl⟩
            rw [hdd'] at h2
            simp only at h2
            subst h2
            obtain ⟨_, _, _, q4, _⟩ := dcd_split hbt hdd'
            have h3 := dcd_alike hbt hdd' (m' := y :: r) (by rw [htk, List.take_take, Nat.min_eq_left (by rw [htk, List.length_take] at q4; omega)])
            rw [hdd] at h3
            injection h3 with h3 h4
            injection h4 with h4
            rw [htk, List.length_take] at q4
            omega
          rw [if_neg h2, List.filter_cons_of_neg (by simp; omega), show at_ + (t + 1) = at_ + 1 + t by omega, h]
      · have h2 : (dcd (y :: r.take t)).2.2 ≠ 0 := fun h2 => by
          obtain ⟨f', n', e', hdd'⟩ : ∃ f' n' e', dcd (y :: r.take t) = (f', n', e') := ⟨_, _, _, rfl⟩
          rw [hdd'] at h2
          simp only at h2
          subst h2
          obtain ⟨_, _, _, q4, _⟩ := dcd_split hbt hdd'
          have h3 := dcd_alike hbt hdd' (m' := y :: r) (by rw [htk, List.take_take, Nat.min_eq_left (by rw [htk, List.length_take] at q4; omega)])
          rw [h3] at hd
          exact hd rfl
        rw [if_neg hd, if_neg h2, show at_ + (t + 1) = at_ + 1 + t by omega, h]
/-- the places of the frames -/
noncomputable def sps (l : List Nat) : List (Nat × Nat) := (locs 0 l).map fun x => (x.1, x.2.1)
/-- the frames that lie whole in a part, seen from there -/
def inPart (i j : Nat) (s : Nat × Nat) : Bool := decide (i ≤ s.1) && decide (s.1 + s.2 ≤ j)
end Vt
end Go.Proofs.YtolddolfpnkndaaGreat
namespace Go.Proofs.YtolddolfpnkndaaGreat
open Go Go.RowKit
/-- the world of a region with two operations p, q that turn it, q behind p -/
def Wd3 (p q : Nat) (A B C : World) (L : Array Bool) (w : World) : Prop := (L.getD p false = false → L.getD q false = false ∧ w = A) ∧ (L.getD p false = true → L.getD q false = false → w = B) ∧ (L.getD q false = true → w = C)
theorem Wd3.keep {p q : Nat} {A B C : World} {L : Array Bool} {w : World} (h : Wd3 p q A B C L w) {i : Nat} (hi : i < L.size) (hp : p ≠ i) (hq : q ≠ i) : Wd3 p q A B C (L.setIfInBounds i true) w := by
  unfold Wd3 at *
  rw [set_getD _ _ _ hi, set_getD _ _ _ hi, if_neg hp, if_neg hq]
  exact h
theorem Wd3.first {p q : Nat} {A B C : World} {L : Array Bool} {w : World} (h : Wd3 p q A B C L w) (hi : p < L.size) (hq : q ≠ p) (h1 : L.getD p false = false) : Wd3 p q A B C (L.setIfInBounds p true) B := by
  have h2 := (h.1 h1).1
  unfold Wd3
  rw [set_getD _ _ _ hi, set_getD _ _ _ hi, if_pos rfl, if_neg hq, h2]
  exact ⟨fun h => (by cases h), fun _ _ => rfl, fun h => (by cases h)⟩
end Go.Proofs.YtolddolfpnkndaaGreat
namespace Go.Proofs.YtolddolfpnkndaaGreat
open Go.RowKit
namespace Vt
/-- the bytes with the eight marked places behind them -/
def mk8 (l : List Nat) : List Nat := l ++ List.replicate 8 238
end Vt
end Go.Proofs.YtolddolfpnkndaaGreat
namespace Go.Proofs.YtolddolfpnkndaaGreat
open Go.RowKit Go.Shelf
namespace Vt
attribute [local go_sem ↓] append_hide
def spv (s : Nat × Nat) : List Value := [.int .i64 (s.1 : Int), .int .i64 (s.2 : Int)]
/-- the extents that are no junk -/
def nj (E : List Ex) : List (List Value) := (E.filter (fun x => !x.1)).map fun x => [.int .i64 x.2.1, .int .i64 x.2.2]
theorem JR.grownJ {E E' : TypeId} {sz sz' : Nat} {w w' : World} {b1 b2 : Nat} {v u : Value} {l m : List (List Value)} (h : JR E sz w b1 v l) (hr : JR E' sz' w b2 u m) (hne : E ≠ E') (hg : w.grownBy w' u.ownBlock) : JR E sz w' b1 v l := by
  refine h.grownO hg fun g hgb e => ?_
  obtain ⟨_, _, ⟨rfl, _⟩ | ⟨g1, cap1, cur1, rfl, _, hh1, _⟩⟩ := h
  · cases hgb
  · obtain ⟨_, _, ⟨rfl, _⟩ | ⟨g2, cap2, cur2, rfl, _, hh2, _⟩⟩ := hr
    · cases e
    · cases hgb
      injection e with e
      have e' : g1 = g2 := e
      subst e'
      rw [hh1] at hh2
      injection hh2 with hh2
      injection hh2 with _ hh2
      exact hne hh2
end Vt
end Go.Proofs.YtolddolfpnkndaaGreat
