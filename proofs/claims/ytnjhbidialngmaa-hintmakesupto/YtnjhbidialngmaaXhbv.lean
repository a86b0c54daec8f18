/-
  scan.Records with kinds named.
  salvorlaw10: record, sum.
-/
import Derived.Test.YtnjhbidialngmaaXhbi
import Derived.Test.YtnjhbidialngmaaXhbt
import Derived.Test.YtnjhbidialngmaaXhbn
import Derived.Test.YtnjhbidialngmaaXhbu
import Derived.Test.YtnjhbidialngmaaXhbl
import Derived.Test.YtnjhbidialngmaaXhbm
namespace Go.Proofs.Ytnjhbidialngmaa
open Go.RowKit Go.Shelf
namespace Vt
attribute [local go_sem] Oper.semAt_some
set_option maxRecDepth 100000 in
set_option maxHeartbeats 2000000 in
theorem records_row (v : Value) (l : List Nat) (kb koff kc : Nat) (zs : List Int) (w : World) (hI : IsB w v l) (hl : l.length ≤ 16777216) (hz0 : zs.length ≠ 0) (hkb : kb < w.heap.size) (hzc : ∀ i, i < zs.length → w.cell? ⟨kb, koff + i, none⟩ = some (.int .i64 (zs.getD i 0))) (hzm : zs.length ≤ 4611686018427387904) :
    Calls Try.prog 65 #[v, .slice (some ⟨kb, koff, none⟩) zs.length kc] w fun e w' => ∃ v', e = .returned v' ∧ JL w' w.heap.size v' ((recs zs l).map lcv) ∧ Below w.heap.size w w' := by
  obtain ⟨a, c, rfl⟩ := hI.shape
  have HI := hd hI
  clear hI
  refine (callsIn_wide (n := 8)).1 ?_
  refine callsIn_of_wp_marks Try.func65 rfl trivial (Code.wpIn_mono bodyPostF_M ?_) rfl
  simp only [Try.ntmps65, List.size_toArray, List.length_cons, List.length_nil, Nat.reduceAdd, Nat.reduceSub, Array.replicate_succ, Array.replicate_zero, List.push_toArray, List.append_toArray, List.nil_append, List.cons_append]
  have hne0 : ((zs.length : Int) == 0) = false := by rw [beq_eq_false_iff_ne]; omega
  have HMC := hd (marks_is kb koff kc zs w hkb hzc hzm)
  clear hz0 hkb hzc
  gi_wp2
  refine ⟨trivial, CallsIn.mono (callsIn_wide.2 HMC.out) ?_⟩
  rintro e w1 ⟨rfl, hb1⟩
  have HB1 := hd hb1
  clear HMC hne0
  clear hb1
  have hmk : mks zs = [.bool false, .bool (decide (1 ∈ zs)), .bool (decide (2 ∈ zs)), .bool (decide (3 ∈ zs)), .bool (decide (4 ∈ zs))] := rfl
  rw [hmk]
  have HMK := hd hmk
  clear hmk
  gi_wp2
  refine ⟨trivial, CallsIn.mono (callsIn_wide.2 (located_is _ _ _ _ _)) ?_⟩
  rintro e w4 ⟨rfl, hw4⟩
  obtain ⟨N, hN⟩ : ∃ N, N = w1.heap.size := ⟨_, rfl⟩
  have hn1 : w.heap.size ≤ N := by rw [hN]; exact HB1.out.size
  have hs4 : w4.heap.size = N + 4 := by rw [hw4, hN]; simp
  have hB4 : Hid (Below w.heap.size w w4) := by
    rw [hw4]; exact (((HB1.out.alloc (by omega) _).alloc (by simp; omega) _).alloc (by simp; omega) _).alloc (by simp; omega) _
  have BM4 : Hid (Blk w4 N 121 (mks zs)) := by rw [hw4, hN, HMK.out]; exact (((Blk.new w1 121 _).alloc _).alloc _).alloc _
  have BE4 : Hid (Boxed w4 (N + 1) 77 (.slice none 0 0)) := by
    have := Boxed.new (w1.alloc (.cells #[.bool false, .bool (decide (1 ∈ zs)), .bool (decide (2 ∈ zs)), .bool (decide (3 ∈ zs)), .bool (decide (4 ∈ zs))] 121)) 77 (.slice none 0 0)
    rw [World.size_alloc, ← hN] at this
    rw [hw4]; exact (this.alloc _).alloc _
  have BB4 : Hid (Boxed w4 (N + 2) 36 (.slice a l.length c)) := by
    have := Boxed.new ((w1.alloc (.cells #[.bool false, .bool (decide (1 ∈ zs)), .bool (decide (2 ∈ zs)), .bool (decide (3 ∈ zs)), .bool (decide (4 ∈ zs))] 121)).alloc (.cells #[.slice none 0 0] 77)) 36 (.slice a l.length c)
    rw [World.size_alloc, World.size_alloc, ← hN] at this
    rw [hw4]; exact this.alloc _
  have BF4 : Hid (Boxed w4 (N + 3) 3 (.int .i64 0)) := by
    have := Boxed.new (((w1.alloc (.cells #[.bool false, .bool (decide (1 ∈ zs)), .bool (decide (2 ∈ zs)), .bool (decide (3 ∈ zs)), .bool (decide (4 ∈ zs))] 121)).alloc (.cells #[.slice none 0 0] 77)).alloc (.cells #[.slice a l.length c] 36)) 3 (.int .i64 0)
    rw [World.size_alloc, World.size_alloc, World.size_alloc, ← hN] at this
    rw [hw4]; exact this
  simp only [World.size_alloc]
  rw [← hN]
  have HN := hd hN
  have HN1 := hd hn1
  clear hw4 hN
  have hseq := located_stops 7 (by omega) l.length (SE N) (N + 1 + 1) (N + 1 + 1 + 1) (.slice a l.length c) 0 l w4 (Nat.le_refl _) (Or.inr rfl) (by omega) (by omega) (se_lt (by omega)) BB4.out.cell BF4.out.cell (HI.out.below hB4.out) (fun b off c' hne e => by
    obtain ⟨_, _, ⟨rfl, _⟩ | ⟨nb, no, nc, e1, _, _, hnb, hnr⟩⟩ := HI.out
    · exact absurd rfl hne
    · rw [e] at e1; injection e1 with e1 e2 e3; injection e1 with e1; injection e1 with e1 e4; left; omega)
  have hfrm : frm l.length 0 = 0 := by unfold frm; simp
  rw [hfrm, List.drop_zero] at hseq
  have HSQ := hd hseq
  clear hseq hfrm hn1
  gi_wp2
  rename_i K hK
  have HK := hd hK
  clear hK
  refine wpIn_rangeFunc_ownH rfl (by omega) (gf := 98) (lb := #[.pointer (some ⟨N + 1 + 1, 0, none⟩), .pointer (some ⟨N + 1 + 1 + 1, 0, none⟩)]) rfl trivial (enters_of Try.func98 (by kernel_rfl) rfl) HSQ.out keepS_t (keepS_b (se_lt (by omega))) (Below.refl _ _) (fun _ => rfl)
    (fun (pre : List (PL l.length)) (W : World) => RcInv N zs w4 (pre.map Subtype.val) W)
    (fun _ _ _ => False)
    (rcInv_own _ hs4.symm)
    (fun _ _ _ _ _ hs _ _ => hs)
    ⟨⟨_, BE4.out, BM4.out, jr_nil _ _⟩, KeepS.refl _⟩
    (fun (x : PL l.length) a' W => ∃ Bx, N + 4 ≤ Bx ∧ Blk W Bx 72 (lcv x.1) ∧ a' = { tmps := #[Value.slice a l.length c, Value.slice (some { block := kb, off := koff }) zs.length kc, undef, undef, Value.slice none 0 0, Value.pointer (some { block := N, off := 0 }), Value.pointer (some { block := N + 1, off := 0 }), Value.pointer (some { block := Bx, off := 0 }), Value.slice (some { block := kb, off := koff }) zs.length kc, Value.int IntKind.i64 (zs.length : Int), Value.bool false, undef, Value.slice (some { block := kb, off := koff }) zs.length kc, Value.agg #[.bool false, .bool (decide (1 ∈ zs)), .bool (decide (2 ∈ zs)), .bool (decide (3 ∈ zs)), .bool (decide (4 ∈ zs))], Value.slice a l.length c, Value.func (Fn.func 98) #[] #[Value.pointer (some { block := N + 1 + 1, off := 0 }), Value.pointer (some { block := N + 1 + 1 + 1, off := 0 })], .agg (lcv x.1).toArray, undef, undef, undef, undef, undef, undef, undef, undef, undef, undef], defers := [] })
    (fun x a' _ W W' row hs hg hr => by
      obtain ⟨Bx, h1, h2, h3⟩ := hs
      exact ⟨Bx, h1, blk_keptO h2 hg (fun r e => (hr r e).2), h3⟩)
    ?assign ?body ?done ?stop
  case assign =>
    rintro lk pre ⟨⟨x1, x2, k, ⟨rl, rk, rkey, rval⟩, ⟨pl, pk, pa, pn, pkey⟩, ⟨ec, eb, ef, es⟩⟩, hx⟩ W K hi hK
    simp only [encl, lcv]
    gi_wp2
    have hsW := hi.2.size
    exact hK _ _ ((KeepsOthers.alloc _ _).from _) ((KeepS.refl _).alloc (se_lt (by omega)) _) (hi.alloc hs4.symm _) ⟨W.heap.size, by omega, Blk.new W 72 (lcv (x1, x2, ⟨k, ⟨rl, rk, rkey, rval⟩, ⟨pl, pk, pa, pn, pkey⟩, ⟨ec, eb, ef, es⟩⟩)), rfl⟩
  case body =>
    rintro lk pre ⟨⟨x1, x2, f⟩, hx⟩ a' W hlk _ ⟨⟨ve, be, bm, j⟩, hS⟩ ⟨Bx, hBx, hblk, rfl⟩ hlen
    have hxl : x1 + x2 ≤ l.length := hx.1
    have hk := rf_kind hx.2.2.1
    obtain ⟨q, hq⟩ : ∃ q : Nat, f.kind = (q : Int) := ⟨f.kind.toNat, by simp only at hk; omega⟩
    have hq1 : 1 ≤ q ∧ q ≤ 4 := by simp only at hk; omega
    have HMP : Hid ((pre ++ [(⟨(x1, x2, f), hx⟩ : PL l.length)]).map Subtype.val = pre.map Subtype.val ++ [(x1, x2, f)]) := by
      show _ = _
      rw [List.map_append, List.map_singleton]
    have hpl : ((pre.map Subtype.val).filter (isw zs)).length ≤ pre.length := by
      have := List.length_filter_le (isw zs) (pre.map Subtype.val)
      rw [List.length_map] at this; exact this
    obtain ⟨P, hP⟩ : ∃ P, P = pre.map Subtype.val := ⟨_, rfl⟩
    rw [← hP] at j hpl HMP
    have HSN : Hid ((P ++ [(x1, x2, f)]).filter (isw zs) = P.filter (isw zs) ++ (if (q : Int) ∈ zs then [(x1, x2, f)] else [])) := by
      show _ = _
      rw [List.filter_append, List.filter_cons, List.filter_nil]
      unfold isw
      rw [hq]
      simp only [decide_eq_true_eq]
    have HLQ : Hid (Blk W Bx 72 [.int .i64 (q : Int), .int .u64 (f.r.lsn : Int), .int .i64 f.r.kind, .string f.r.key, .string f.r.val, .int .u64 (f.p.lsn : Int), .int .i64 f.p.kind, .int .i64 f.p.at_, .int .i64 f.p.len, .string f.p.key, .int .i64 f.e.count, .int .i64 f.e.bytes, .int .i64 f.e.frames, .int .u32 (f.e.sum : Int), .int .i64 (x1 : Int), .int .i64 (x2 : Int)]) := by
      have h := hblk
      unfold lcv at h
      simp only [hq] at h
      exact h
    have HLE : Hid ([.int .i64 (q : Int), .int .u64 (f.r.lsn : Int), .int .i64 f.r.kind, .string f.r.key, .string f.r.val, .int .u64 (f.p.lsn : Int), .int .i64 f.p.kind, .int .i64 f.p.at_, .int .i64 f.p.len, .string f.p.key, .int .i64 f.e.count, .int .i64 f.e.bytes, .int .i64 f.e.frames, .int .u32 (f.e.sum : Int), .int .i64 (x1 : Int), .int .i64 (x2 : Int)] = lcv (x1, x2, f)) := by
      show _ = _
      unfold lcv
      rw [hq]
    have cM : W.cell? ⟨N, q, none⟩ = some (.bool (decide ((q : Int) ∈ zs))) := bm.cell q _ (mks_at _ q hq1.1 hq1.2)
    have BE := hd be
    have BM := hd bm
    have HS := hd hS
    have HJ := hd j
    have HP := hd hP
    have HQ := hd hq
    have cE := be.cell
    have c0 : W.cell? ⟨Bx, 0, none⟩ = some (.int .i64 (q : Int)) := HLQ.out.cell 0 _ rfl
    have c1 : W.cell? ⟨Bx, 1, none⟩ = some (.int .u64 (f.r.lsn : Int)) := HLQ.out.cell 1 _ rfl
    have c2 : W.cell? ⟨Bx, 2, none⟩ = some (.int .i64 f.r.kind) := HLQ.out.cell 2 _ rfl
    have c3 : W.cell? ⟨Bx, 3, none⟩ = some (.string f.r.key) := HLQ.out.cell 3 _ rfl
    have c4 : W.cell? ⟨Bx, 4, none⟩ = some (.string f.r.val) := HLQ.out.cell 4 _ rfl
    have c5 : W.cell? ⟨Bx, 5, none⟩ = some (.int .u64 (f.p.lsn : Int)) := HLQ.out.cell 5 _ rfl
    have c6 : W.cell? ⟨Bx, 6, none⟩ = some (.int .i64 f.p.kind) := HLQ.out.cell 6 _ rfl
    have c7 : W.cell? ⟨Bx, 7, none⟩ = some (.int .i64 f.p.at_) := HLQ.out.cell 7 _ rfl
    have c8 : W.cell? ⟨Bx, 8, none⟩ = some (.int .i64 f.p.len) := HLQ.out.cell 8 _ rfl
    have c9 : W.cell? ⟨Bx, 9, none⟩ = some (.string f.p.key) := HLQ.out.cell 9 _ rfl
    have c10 : W.cell? ⟨Bx, 10, none⟩ = some (.int .i64 f.e.count) := HLQ.out.cell 10 _ rfl
    have c11 : W.cell? ⟨Bx, 11, none⟩ = some (.int .i64 f.e.bytes) := HLQ.out.cell 11 _ rfl
    have c12 : W.cell? ⟨Bx, 12, none⟩ = some (.int .i64 f.e.frames) := HLQ.out.cell 12 _ rfl
    have c13 : W.cell? ⟨Bx, 13, none⟩ = some (.int .u32 (f.e.sum : Int)) := HLQ.out.cell 13 _ rfl
    have c14 : W.cell? ⟨Bx, 14, none⟩ = some (.int .i64 (x1 : Int)) := HLQ.out.cell 14 _ rfl
    have c15 : W.cell? ⟨Bx, 15, none⟩ = some (.int .i64 (x2 : Int)) := HLQ.out.cell 15 _ rfl
    clear be bm hS hblk hP hq hk
    obtain ⟨LP, hLP⟩ : ∃ LP, LP = P.filter (isw zs) := ⟨_, rfl⟩
    rw [← hLP] at HJ HSN j hpl
    clear hLP
    obtain ⟨av, cv, hve, hcv⟩ := j.shape
    rw [List.length_map] at hve hcv
    subst hve
    clear j
    have hsW := HS.out.size
    by_cases hw : (q : Int) ∈ zs
    · rw [decide_eq_true hw] at cM
      rw [if_pos hw] at HSN
      clear hw
      have hone : ∀ u ∈ ([.int .i64 (q : Int), .int .u64 (f.r.lsn : Int), .int .i64 f.r.kind, .string f.r.key, .string f.r.val, .int .u64 (f.p.lsn : Int), .int .i64 f.p.kind, .int .i64 f.p.at_, .int .i64 f.p.len, .string f.p.key, .int .i64 f.e.count, .int .i64 f.e.bytes, .int .i64 f.e.frames, .int .u32 (f.e.sum : Int), .int .i64 (x1 : Int), .int .i64 (x2 : Int)] : List Value), u.oneCell' = true := by rw [HLE.out]; exact lcv_one _
      have HONE := hd hone
      clear hone
      have fE := BE.out.frozen
      gi_wp2_with (gi_at_builtin; refine wpListIn_append_jr Try.underlying77 info_lc rfl (by decide) _ rfl _ _ rfl (N + 4) (.slice av LP.length cv) (LP.map lcv) W.heap.size 1 [.int .i64 (q : Int), .int .u64 (f.r.lsn : Int), .int .i64 f.r.kind, .string f.r.key, .string f.r.val, .int .u64 (f.p.lsn : Int), .int .i64 f.p.kind, .int .i64 f.p.at_, .int .i64 f.p.len, .string f.p.key, .int .i64 f.e.count, .int .i64 f.e.bytes, .int .i64 f.e.frames, .int .u32 (f.e.sum : Int), .int .i64 (x1 : Int), .int .i64 (x2 : Int)] rfl rfl (HJ.out.alloc _) rfl HONE.out (fun j u hu => cell_lit W _ _ j u _ rfl hu) (LP.length + 1) (by rw [List.length_map]) (by omega) (by unfold maxLen; omega) (by rw [World.size_alloc]; omega) ?_; intro g3 c3 w3 hj3 hg3 hw3; have be3 := Boxed.grownJ (BE.out.alloc _) (HJ.out.alloc _) (by decide) hg3; have p1 := be3.cell; have p2 := be3.frozen; have HJ3 := hd hj3; have HG3 := hd hg3; clear hj3 hg3 be3 hw3)
      have hfin := rc_step (x := (x1, x2, f)) (pre := P) (zs := zs) hs4.symm BE.out BM.out HJ.out HS.out HG3.out (by
        rw [HSN.out, List.map_append, List.map_singleton, ← HLE.out]
        exact HJ3.out)
      rw [← HMP.out] at hfin
      exact ⟨hfin.1.from _, hfin.2.1, hfin.2.2⟩
    · rw [decide_eq_false hw] at cM
      rw [if_neg hw, List.append_nil] at HSN
      clear hw
      gi_wp2
      refine ⟨(KeepsOthers.refl _).from _, KeepS.refl _, ?_⟩
      show RcInv N zs w4 ((pre ++ [(⟨(x1, x2, f), hx⟩ : PL l.length)]).map Subtype.val) W
      rw [HMP.out]
      refine ⟨⟨_, BE.out, BM.out, ?_⟩, HS.out⟩
      rw [HSN.out]
      exact HJ.out
  case done =>
    rintro D ys V hD hys ⟨⟨ve, be, bm, j⟩, hS⟩ hKD
    gi_wp2
    refine HK.out _ _ ?_
    clear HK
    have hex : (ys.map Subtype.val).filter (isw zs) = recs zs l := by rw [hys]; rfl
    rw [hex] at j
    have cE := be.cell
    have HJ := hd j
    have HS := hd hS
    have HKD := hd hKD
    clear be bm j hS hex hys hKD
    gi_wp2
    have hKD2 := HKD.out
    refine ⟨by simp, .inl ⟨_, _, rfl, run_takeDeferred hKD2, ?_⟩⟩
    have hN1 := HN1.out
    refine ⟨_, results_tmp rfl _ _ _, ve, rfl, ?_, ?_⟩
    · exact (HJ.out.kept (grownBy_putObj' V D _) (fun r e => by cases e; exact ⟨_, hKD2, rfl⟩)).lower (by omega)
    · have b1 : Below w.heap.size w V := hB4.out.trans (HS.out.below (fun g hg => Or.inl (by omega)))
      exact b1.trans (belowK_b (w := w) (by omega) V D _ _ (by have := hB4.out.size; omega) hKD2 rfl rfl)
  case stop =>
    rintro D c2 pre W hD hp h hK
    exact h.elim
end Vt
end Go.Proofs.Ytnjhbidialngmaa
namespace Go.Proofs.Ytnjhbidialngmaa
open Go.RowKit Go.Shelf
namespace Vt
attribute [local go_sem] Oper.semAt_some
/-- the law's record -/
def R7 : Rec := ⟨7, 1, ⟨#[107]⟩, ⟨#[118]⟩⟩
def F7 : Fr := ofR R7
theorem F7_wf : F7.Wf := ⟨by decide, by decide, by decide⟩
theorem F7_rf : rf F7 = 0 := by
  unfold rf rfR F7 ofR R7 mayKey
  simp
  decide
theorem bd_F7 : bd F7 = [1, 7, 1, 107, 118] := by
  unfold bd bp F7 ofR R7 vs
  rw [if_pos rfl]
  simp only [List.map_cons, List.map_nil]
  rw [vrt_small (by decide), show ByteArray.size ⟨#[107]⟩ = 1 from rfl, vrt_small (by decide)]
  decide
theorem wr_F7 : wr (bd F7) = [1, 7, 1, 107, 118] := by rw [bd_F7]; decide
theorem F7_len : (en F7).length = 14 := by rw [en_len, wr_F7]; rfl
theorem F7_byt : Byt (en F7) := en_bytH F7_rf
theorem F7_locs : locs 0 (en F7) = [(0, 14, F7)] := by
  have := locs_en F7_wf F7_rf (r := []) (by rw [List.append_nil]; exact F7_byt) 0
  rw [List.append_nil, F7_len] at this
  rw [this, locs_nil]
theorem F7_may : May (en F7) := by
  refine ⟨by rw [F7_len]; decide, ?_, ?_⟩
  · unfold Cl; rw [F7_locs, F7_len]; rfl
  · rw [F7_locs]; intro x hx; rw [List.mem_singleton] at hx; subst hx; rfl
/-- its pointer -/
def P7 : Ptr := ⟨7, 1, 0, 14, ⟨#[107]⟩⟩
theorem F7_pto : (locs 0 (en F7)).map pto = [P7] := by rw [F7_locs]; rfl
theorem hof_len {l : List Nat} (hb : Byt l) (h : May l) : (hof l).length ≤ 5000 * (locs 0 l).length + 5000 := by
  have h1 := hbs_len (L := locs 0 l) (fun x hx => hfr_ok hb h.1 hx (h.2.2 x hx))
  have h2 := ffr_ok hb h.1
  have h3 := en_small h2.2 h2.1
  unfold hof
  rw [List.length_append]
  omega
theorem hof_byt {l : List Nat} (hb : Byt l) (h : May l) : Byt (hof l) := by
  rw [hof_file]
  exact (file_ok (fun p hp => by obtain ⟨x, hx, rfl⟩ := List.mem_map.1 hp; exact hfr_ok hb h.1 hx (h.2.2 x hx)) (ffr_ok hb h.1)).2
theorem hof_locs {l : List Nat} (hb : Byt l) (h : May l) : locs 0 (hof l) = lay 0 (((locs 0 l).map pto).map hfr ++ [ffr (edg l)]) := by
  obtain ⟨h1, h2⟩ := file_ok (ps := (locs 0 l).map pto) (e := edg l) (fun p hp => by obtain ⟨x, hx, rfl⟩ := List.mem_map.1 hp; exact hfr_ok hb h.1 hx (h.2.2 x hx)) (ffr_ok hb h.1)
  rw [hof_file]
  exact locs_lay h1 h2 0
/-- of a hint file the one ending -/
theorem hof_foot {l : List Nat} (hb : Byt l) (h : May l) : ∃ n m, recs [4] (hof l) = [(n, m, ffr (edg l))] := by
  unfold recs
  rw [hof_locs hb h, lay_app, List.filter_append]
  have e1 : ∀ (ps : List Ptr) (a : Nat), (lay a (ps.map hfr)).filter (isw [4]) = [] := by
    intro ps
    induction ps with
    | nil => intro a; rfl
    | cons p r ih =>
      intro a
      rw [List.map_cons, lay, List.filter_cons_of_neg (by simp [isw, hfr]), ih]
  rw [e1, List.nil_append]
  exact ⟨_, _, rfl⟩
set_option maxRecDepth 100000 in
set_option maxHeartbeats 1000000 in
theorem record_is (w : World) : Calls Try.prog 34 #[] w fun e w' => ∃ u, e = .returned u ∧ JB w' w.heap.size u (en F7) ∧ Below w.heap.size w w' := by
  have HO := hd (of_is R7)
  have HE := hd (encF_all F7_wf F7_rf)
  obtain ⟨ls, hls⟩ : ∃ ls, ls = en F7 := ⟨_, rfl⟩
  rw [← hls] at HE ⊢
  clear hls
  simp only [F7, R7, rv, fv, ofR, zp, ze] at HO HE
  go_enter Try.func34, Try.ntmps34
  go_wp2_with fail
  refine Calls.mono (HO.out _) ?_
  rintro e w1 ⟨rfl, hw1⟩
  have HB1 : Hid (Below w.heap.size w w1) := by rw [hw1]; exact below_two _ _ _
  clear HO hw1
  go_wp2_with fail
  refine Calls.mono (HE.out _) ?_
  rintro e w2 ⟨u, rfl, hj, hb⟩
  have HJ := hd hj
  have HB2 := hd (HB1.out.trans (hb.mono HB1.out.size))
  have hsz := HB1.out.size
  clear HE hj hb HB1
  go_wp2_with fail
  go_ret
  exact ⟨u, rfl, HJ.out.base hsz, HB2.out⟩
set_option maxRecDepth 100000 in
set_option maxHeartbeats 1000000 in
theorem hsum_is (v : Value) (l : List Nat) (x : Lc) (w : World) (hI : IsB w v l) (hl : l.length ≤ 16777216) (hr : recs [4] l = [x]) : Calls Try.prog 36 #[v] w fun e w' => e = .returned (.int .u32 (x.2.2.e.sum : Int)) ∧ Below w.heap.size w w' := by
  obtain ⟨a, c, rfl⟩ := hI.shape
  have HR : Hid (∀ o, Calls Try.prog 65 #[.slice a l.length c, .slice (some ⟨w.heap.size, 0, none⟩) 1 1] (w.alloc (.cells #[.int .i64 4] o)) fun e w' => ∃ v', e = .returned v' ∧ JL w' w.heap.size v' [lcv x] ∧ Below w.heap.size w w') := fun o => by
    have := records_row (.slice a l.length c) l w.heap.size 0 1 [4] (w.alloc (.cells #[.int .i64 4] o)) (hI.below ((Below.refl _ _).alloc (Nat.le_refl _) _)) hl (by simp) (by simp) (by intro i hi; simp at hi; subst hi; simp [go_sem]) (by simp)
    rw [hr] at this
    refine this.mono ?_
    rintro e w' ⟨v', h1, h2, h3⟩
    exact ⟨v', h1, h2.lower (by simp), below_alloc1 h3⟩
  clear hI hr
  go_enter Try.func36, Try.ntmps36
  go_wp2_with fail
  refine Calls.mono (HR.out _) ?_
  rintro e w1 ⟨v1, rfl, hj, hb⟩
  clear HR
  obtain ⟨g, cc, rfl, hc1, hc2⟩ := hj.nn (by simp)
  have c13 : w1.cell? ⟨g, 13, none⟩ = some (.int .u32 (x.2.2.e.sum : Int)) := by
    have := hj.at 0 (lcv x) 13 (.int .u32 (x.2.2.e.sum : Int)) rfl rfl
    simpa using this
  have HB := hd hb
  clear hj hb
  simp only [List.length_singleton] at hc1 hc2 ⊢
  go_wp2_with fail
  go_ret
  exact ⟨rfl, HB.out⟩
theorem F7_chk : chk (en F7) P7 = true := by
  have h0 : decF (en F7) 0 = (F7, 14, 0) := by
    unfold decF
    rw [if_neg (by rw [F7_len]; omega), show (0 : Int).toNat = 0 from rfl, List.drop_zero]
    have := dcd_en F7_wf F7_rf []
    rw [List.append_nil, F7_len] at this
    exact this
  unfold chk
  rw [show P7.at_ = 0 from rfl, h0]
  simp
  exact ⟨rfl, rfl⟩
set_option maxRecDepth 100000 in
set_option maxHeartbeats 2000000 in
theorem hknown_is (w : World) : Calls Try.prog 15 #[] w fun e w' => e = .returned (.bool true) ∧ Below w.heap.size w w' := by
  have hmx : Try.prog.follows .mixedOrders = true := by kernel_rfl
  have HL := hd F7_len
  have HH := hd (hof_len F7_byt F7_may)
  have HHB := hd (hof_byt F7_byt F7_may)
  have HLD := hd (ldS_hof F7_byt F7_may)
  obtain ⟨fn, fm, hff⟩ := hof_foot F7_byt F7_may
  have HFF := hd hff
  have HES := hd (show (edg (en F7)).bytes = 14 ∧ (edg (en F7)).frames = 1 by unfold edg; rw [F7_locs, F7_len]; exact ⟨rfl, rfl⟩)
  have HCK := hd F7_chk
  have HPT := hd F7_pto
  clear hff
  go_enter Try.func15, Try.ntmps15
  go_wp2_with fail
  refine Calls.mono (record_is w) ?_
  rintro e w1 ⟨us, rfl, hj1, hb1⟩
  have HJ1 := hd hj1
  have HB1 := hd hb1
  obtain ⟨a1, c1, rfl, hcs⟩ := hj1.shape
  rw [HL.out] at HJ1 ⊢
  clear hj1 hb1 hcs
  go_wp2_with fail
  refine Calls.mono (hof_is _ (en F7) w1 HJ1.out.isB) ?_
  rintro e w2 ⟨⟨_, uh, rfl, hj2⟩ | ⟨hn, _⟩, hb2⟩
  · have HJ2 := hd hj2
    have HB2 := hd hb2
    obtain ⟨ah, ch, rfl, hch⟩ := hj2.shape
    clear hj2 hb2 hch
    have hn1 : (locs 0 (en F7)).length = 1 := by rw [F7_locs]; rfl
    have hh16 : (hof (en F7)).length ≤ 10000 := by have := HH.out; rw [hn1] at this; omega
    generalize hof (en F7) = hl at *
    go_wp2_with fail
    refine Calls.mono (hsum_is _ hl _ w2 HJ2.out.isB (by omega) HFF.out) ?_
    rintro e w3 ⟨rfl, hb3⟩
    have HB3 := hd hb3
    have HLO := hd (load_is (.slice ah hl.length ch) hl 14 1 (edg (en F7)).sum w3 (HJ2.out.keepAll hb3).isB)
    rw [HLD.out] at HLO
    clear hb3 HFF
    simp only [ffr] at HLO ⊢
    simp only [prl] at HLO
    generalize hsm : (edg (en F7)).sum = sm at *
    go_wp2_with fail
    refine Calls.mono HLO.out ?_
    clear HLO
    rintro e w4 ⟨hld, hb4⟩
    obtain ⟨ul, rfl, hj4⟩ : ∃ u, e = .returned (.tuple #[u, .int .i64 1]) ∧ JPt w4 w3.heap.size u [pvl P7] := by
      rcases hld with ⟨hn, _⟩ | ⟨_, u, rfl, hj⟩
      · exact absurd ⟨HES.out.1, HES.out.2, hsm⟩ hn
      · rw [HPT.out] at hj
        exact ⟨u, rfl, hj⟩
    clear hld
    obtain ⟨gl, cl, rfl, hc1, hc2⟩ := hj4.nn (by simp)
    simp only [List.length_singleton] at hc1 hc2 ⊢
    have HJ4 := hd hj4
    have HB4 := hd hb4
    have HJ14 : Hid (JB w4 w.heap.size (.slice a1 14 c1) (en F7)) := ((HJ1.out.keepAll HB2.out).keepAll HB3.out).keepAll hb4
    have d0 : w4.cell? ⟨gl, 0, none⟩ = some (.int .u64 7) := by have := hj4.at 0 (pvl P7) 0 (.int .u64 7) rfl rfl; simpa using this
    have d1 : w4.cell? ⟨gl, 1, none⟩ = some (.int .i64 1) := by have := hj4.at 0 (pvl P7) 1 (.int .i64 1) rfl rfl; simpa using this
    have d2 : w4.cell? ⟨gl, 2, none⟩ = some (.int .i64 0) := by have := hj4.at 0 (pvl P7) 2 (.int .i64 0) rfl rfl; simpa using this
    have d3 : w4.cell? ⟨gl, 3, none⟩ = some (.int .i64 14) := by have := hj4.at 0 (pvl P7) 3 (.int .i64 14) rfl rfl; simpa using this
    have d4 : w4.cell? ⟨gl, 4, none⟩ = some (.string ⟨#[107]⟩) := by have := hj4.at 0 (pvl P7) 4 (.string ⟨#[107]⟩) rfl rfl; simpa using this
    have hgl := hj4.blk_lt gl rfl
    clear hj4 hb4
    go_wp2_with fail
    have HCI := hd (check_is (.slice a1 14 c1) (en F7) P7 (w4.alloc (.cells #[.int .u64 7, .int .i64 1, .int .i64 0, .int .i64 14, .string ⟨#[107]⟩] 27)) (HJ14.out.keepAll ((Below.refl _ _).alloc (Nat.le_refl _) _)).isB)
    rw [HCK.out] at HCI
    refine Calls.mono HCI.out ?_
    clear HCI
    rintro e w5 ⟨rfl, hb5⟩
    have HP5 := hd ((Blk.new w4 27 _).keep hb5)
    have hb45 := below_alloc1 hb5
    have e0 := HP5.out.cell 0 _ rfl
    have e1 := HP5.out.cell 1 _ rfl
    have e2 := HP5.out.cell 2 _ rfl
    have e3 := HP5.out.cell 3 _ rfl
    have e4 := HP5.out.cell 4 _ rfl
    have f0 := (hb45.cell (p := ⟨gl, 0, none⟩) hgl).trans d0
    have f1 := (hb45.cell (p := ⟨gl, 1, none⟩) hgl).trans d1
    have f2 := (hb45.cell (p := ⟨gl, 2, none⟩) hgl).trans d2
    have f3 := (hb45.cell (p := ⟨gl, 3, none⟩) hgl).trans d3
    have f4 := (hb45.cell (p := ⟨gl, 4, none⟩) hgl).trans d4
    have heq := eql_ptr P7 P7
    simp only [pv, P7, decide_true] at heq
    have HB5 := hd hb45
    clear hb5 hb45 d0 d1 d2 d3 d4
    go_wp2_with fail
    --REGION known
    have hgl5 : gl < w5.heap.size := Nat.lt_of_lt_of_le hgl HB5.out.size
    have h45 : w4.heap.size < w5.heap.size := HP5.out.lt
    refine region_skip (fun i9 v9 _ => match i9 with
      | 0 => v9 = Value.slice a1 14 c1
      | 1 => v9 = .int .i64 14
      | 2 => v9 = .bool true
      | 3 => v9 = .bool true
      | 4 => v9 = Value.int IntKind.i64 0
      | 5 => v9 = .bool true
      | 6 => v9 = .bool true
      | 7 => v9 = .bool true
      | 8 => v9 = Value.int IntKind.i64 1
      | 9 => v9 = .bool true
      | 10 => v9 = .bool true
      | 11 => v9 = .bool true
      | 12 => v9 = Value.slice (some { block := gl, off := 0 }) 1 cl
      | 13 => v9 = .int .i64 1
      | 14 => v9 = .bool true
      | 15 => v9 = .bool true
      | 16 => v9 = .bool true
      | 17 => v9 = Value.slice (some { block := gl, off := 0 }) 1 cl
      | 18 => v9 = .pointer (some ⟨gl, 0, none⟩)
      | 19 => v9 = .agg #[.int .u64 7, .int .i64 1, .int .i64 0, .int .i64 14, .string ⟨#[107]⟩]
      | 20 => v9 = .agg #[.int .u64 7, .int .i64 1, .int .i64 0, .int .i64 14, .string ⟨#[107]⟩]
      | 21 => v9 = .bool true
      | 22 => v9 = .bool true
      | 23 => v9 = .bool true
      | 24 => v9 = Value.bool true
      | 25 => v9 = .bool true
      | _ => v9 = .bool true) (fun w => Below w5.heap.size w5 w) hmx (by kernel_rfl) (by kernel_rfl) ((Below.refl _ _).drew) ?_ ?_ ?_
    · intro i9 v9 w8 w9 _ _ hb hG
      match i9, hG with
      | 0, h => exact h
      | 1, h => exact h
      | 2, h => exact h
      | 3, h => exact h
      | 4, h => exact h
      | 5, h => exact h
      | 6, h => exact h
      | 7, h => exact h
      | 8, h => exact h
      | 9, h => exact h
      | 10, h => exact h
      | 11, h => exact h
      | 12, h => exact h
      | 13, h => exact h
      | 14, h => exact h
      | 15, h => exact h
      | 16, h => exact h
      | 17, h => exact h
      | 18, h => exact h
      | 19, h => exact h
      | 20, h => exact h
      | 21, h => exact h
      | 22, h => exact h
      | 23, h => exact h
      | 24, h => exact h
      | 25, h => exact h
      | n + 26, h => exact h
    · intro i9 o9 ho a9 w9 hW hdf hsz hout haf
      have ee1 := getq (show a9.tmps.getD 1 undef = Value.slice a1 14 c1 from hout 1 (notDst_spec (by kernel_rfl)))
      have ee3 := getq (show a9.tmps.getD 3 undef = Value.int IntKind.i64 0 from hout 3 (notDst_spec (by kernel_rfl)))
      have ee4 := getq (show a9.tmps.getD 4 undef = Value.slice (some { block := gl, off := 0 }) 1 cl from hout 4 (notDst_spec (by kernel_rfl)))
      have ee5 := getq (show a9.tmps.getD 5 undef = Value.int IntKind.i64 1 from hout 5 (notDst_spec (by kernel_rfl)))
      have ee6 := getq (show a9.tmps.getD 6 undef = Value.pointer (some { block := w4.heap.size, off := 0 }) from hout 6 (notDst_spec (by kernel_rfl)))
      have ee7 := getq (show a9.tmps.getD 7 undef = Value.bool true from hout 7 (notDst_spec (by kernel_rfl)))
      have hsz2 : a9.tmps.size = 52 := hsz
      clear hout hsz hdf
      match i9, ho, haf with
      | 0, ho, haf =>
        obtain rfl := Option.some.inj ho
        refine skip_good _ (wanted_none rfl) ?_
        clear haf ho hsz2
        intro K hK
        simp only [List.getElem_toArray, List.getElem_cons_zero] at hK ⊢
        go_simp
        exact hK _ _ ⟨Below.refl _ _, hW, rfl⟩
      | 1, ho, haf =>
        obtain rfl := Option.some.inj ho
        have f0 := getq (show a9.tmps.getD 26 undef = Value.slice a1 14 c1 from haf ⟨0, .data⟩ (by simp) rfl)
        refine skip_good _ (wanted_none rfl) ?_
        clear haf ho hsz2
        intro K hK
        simp only [List.getElem_toArray, List.getElem_cons_succ, List.getElem_cons_zero] at hK ⊢
        go_simp
        exact hK _ _ ⟨Below.refl _ _, hW, rfl⟩
      | 2, ho, haf =>
        obtain rfl := Option.some.inj ho
        have f1 := getq (show a9.tmps.getD 27 undef = .int .i64 14 from haf ⟨1, .data⟩ (by simp) rfl)
        refine skip_good _ (wanted_none rfl) ?_
        clear haf ho hsz2
        intro K hK
        simp only [List.getElem_toArray, List.getElem_cons_succ, List.getElem_cons_zero] at hK ⊢
        go_simp
        exact hK _ _ ⟨Below.refl _ _, hW, rfl⟩
      | 3, ho, haf =>
        obtain rfl := Option.some.inj ho
        have f2 := getq (show a9.tmps.getD 28 undef = .bool true from haf ⟨2, .data⟩ (by simp) rfl)
        refine skip_good _ (wanted_none rfl) ?_
        clear haf ho hsz2
        intro K hK
        simp only [List.getElem_toArray, List.getElem_cons_succ, List.getElem_cons_zero] at hK ⊢
        go_simp
        exact hK _ _ ⟨Below.refl _ _, hW, rfl⟩
      | 4, ho, haf =>
        obtain rfl := Option.some.inj ho
        have gg : a9.tmps.getD 29 undef = .bool true := haf ⟨3, .guard⟩ (by simp) rfl
        refine skip_good _ (wanted_some rfl (yielded_of (d := 29) rfl (by omega) gg)) ?_
        clear haf ho hsz2 gg
        intro K hK
        simp only [List.getElem_toArray, List.getElem_cons_succ, List.getElem_cons_zero] at hK ⊢
        go_simp
        exact hK _ _ ⟨Below.refl _ _, hW, rfl⟩
      | 5, ho, haf =>
        obtain rfl := Option.some.inj ho
        have gg : a9.tmps.getD 29 undef = .bool true := haf ⟨3, .guard⟩ (by simp) rfl
        have f4 := getq (show a9.tmps.getD 30 undef = Value.int IntKind.i64 0 from haf ⟨4, .data⟩ (by simp) rfl)
        refine skip_good _ (wanted_some rfl (yielded_of (d := 29) rfl (by omega) gg)) ?_
        clear haf ho hsz2 gg
        intro K hK
        simp only [List.getElem_toArray, List.getElem_cons_succ, List.getElem_cons_zero] at hK ⊢
        go_simp
        exact hK _ _ ⟨Below.refl _ _, hW, rfl⟩
      | 6, ho, haf =>
        obtain rfl := Option.some.inj ho
        have f3 := getq (show a9.tmps.getD 29 undef = .bool true from haf ⟨3, .data⟩ (by simp) rfl)
        have f5 := getq (show a9.tmps.getD 31 undef = .bool true from haf ⟨5, .data⟩ (by simp) rfl)
        refine skip_good _ (wanted_none rfl) ?_
        clear haf ho hsz2
        intro K hK
        simp only [List.getElem_toArray, List.getElem_cons_succ, List.getElem_cons_zero] at hK ⊢
        go_simp
        exact hK _ _ ⟨Below.refl _ _, hW, rfl⟩
      | 7, ho, haf =>
        obtain rfl := Option.some.inj ho
        have f6 := getq (show a9.tmps.getD 32 undef = .bool true from haf ⟨6, .data⟩ (by simp) rfl)
        refine skip_good _ (wanted_none rfl) ?_
        clear haf ho hsz2
        intro K hK
        simp only [List.getElem_toArray, List.getElem_cons_succ, List.getElem_cons_zero] at hK ⊢
        go_simp
        exact hK _ _ ⟨Below.refl _ _, hW, rfl⟩
      | 8, ho, haf =>
        obtain rfl := Option.some.inj ho
        have gg : a9.tmps.getD 33 undef = .bool true := haf ⟨7, .guard⟩ (by simp) rfl
        refine skip_good _ (wanted_some rfl (yielded_of (d := 33) rfl (by omega) gg)) ?_
        clear haf ho hsz2 gg
        intro K hK
        simp only [List.getElem_toArray, List.getElem_cons_succ, List.getElem_cons_zero] at hK ⊢
        go_simp
        exact hK _ _ ⟨Below.refl _ _, hW, rfl⟩
      | 9, ho, haf =>
        obtain rfl := Option.some.inj ho
        have gg : a9.tmps.getD 33 undef = .bool true := haf ⟨7, .guard⟩ (by simp) rfl
        have f8 := getq (show a9.tmps.getD 34 undef = Value.int IntKind.i64 1 from haf ⟨8, .data⟩ (by simp) rfl)
        refine skip_good _ (wanted_some rfl (yielded_of (d := 33) rfl (by omega) gg)) ?_
        clear haf ho hsz2 gg
        intro K hK
        simp only [List.getElem_toArray, List.getElem_cons_succ, List.getElem_cons_zero] at hK ⊢
        go_simp
        exact hK _ _ ⟨Below.refl _ _, hW, rfl⟩
      | 10, ho, haf =>
        obtain rfl := Option.some.inj ho
        have f7 := getq (show a9.tmps.getD 33 undef = .bool true from haf ⟨7, .data⟩ (by simp) rfl)
        have f9 := getq (show a9.tmps.getD 35 undef = .bool true from haf ⟨9, .data⟩ (by simp) rfl)
        refine skip_good _ (wanted_none rfl) ?_
        clear haf ho hsz2
        intro K hK
        simp only [List.getElem_toArray, List.getElem_cons_succ, List.getElem_cons_zero] at hK ⊢
        go_simp
        exact hK _ _ ⟨Below.refl _ _, hW, rfl⟩
      | 11, ho, haf =>
        obtain rfl := Option.some.inj ho
        have f10 := getq (show a9.tmps.getD 36 undef = .bool true from haf ⟨10, .data⟩ (by simp) rfl)
        refine skip_good _ (wanted_none rfl) ?_
        clear haf ho hsz2
        intro K hK
        simp only [List.getElem_toArray, List.getElem_cons_succ, List.getElem_cons_zero] at hK ⊢
        go_simp
        exact hK _ _ ⟨Below.refl _ _, hW, rfl⟩
      | 12, ho, haf =>
        obtain rfl := Option.some.inj ho
        have gg : a9.tmps.getD 37 undef = .bool true := haf ⟨11, .guard⟩ (by simp) rfl
        refine skip_good _ (wanted_some rfl (yielded_of (d := 37) rfl (by omega) gg)) ?_
        clear haf ho hsz2 gg
        intro K hK
        simp only [List.getElem_toArray, List.getElem_cons_succ, List.getElem_cons_zero] at hK ⊢
        go_simp
        exact hK _ _ ⟨Below.refl _ _, hW, rfl⟩
      | 13, ho, haf =>
        obtain rfl := Option.some.inj ho
        have gg : a9.tmps.getD 37 undef = .bool true := haf ⟨11, .guard⟩ (by simp) rfl
        have f12 := getq (show a9.tmps.getD 38 undef = Value.slice (some { block := gl, off := 0 }) 1 cl from haf ⟨12, .data⟩ (by simp) rfl)
        refine skip_good _ (wanted_some rfl (yielded_of (d := 37) rfl (by omega) gg)) ?_
        clear haf ho hsz2 gg
        intro K hK
        simp only [List.getElem_toArray, List.getElem_cons_succ, List.getElem_cons_zero] at hK ⊢
        go_simp
        exact hK _ _ ⟨Below.refl _ _, hW, rfl⟩
      | 14, ho, haf =>
        obtain rfl := Option.some.inj ho
        have gg : a9.tmps.getD 37 undef = .bool true := haf ⟨11, .guard⟩ (by simp) rfl
        have f13 := getq (show a9.tmps.getD 39 undef = .int .i64 1 from haf ⟨13, .data⟩ (by simp) rfl)
        refine skip_good _ (wanted_some rfl (yielded_of (d := 37) rfl (by omega) gg)) ?_
        clear haf ho hsz2 gg
        intro K hK
        simp only [List.getElem_toArray, List.getElem_cons_succ, List.getElem_cons_zero] at hK ⊢
        go_simp
        exact hK _ _ ⟨Below.refl _ _, hW, rfl⟩
      | 15, ho, haf =>
        obtain rfl := Option.some.inj ho
        have f11 := getq (show a9.tmps.getD 37 undef = .bool true from haf ⟨11, .data⟩ (by simp) rfl)
        have f14 := getq (show a9.tmps.getD 40 undef = .bool true from haf ⟨14, .data⟩ (by simp) rfl)
        refine skip_good _ (wanted_none rfl) ?_
        clear haf ho hsz2
        intro K hK
        simp only [List.getElem_toArray, List.getElem_cons_succ, List.getElem_cons_zero] at hK ⊢
        go_simp
        exact hK _ _ ⟨Below.refl _ _, hW, rfl⟩
      | 16, ho, haf =>
        obtain rfl := Option.some.inj ho
        have f15 := getq (show a9.tmps.getD 41 undef = .bool true from haf ⟨15, .data⟩ (by simp) rfl)
        refine skip_good _ (wanted_none rfl) ?_
        clear haf ho hsz2
        intro K hK
        simp only [List.getElem_toArray, List.getElem_cons_succ, List.getElem_cons_zero] at hK ⊢
        go_simp
        exact hK _ _ ⟨Below.refl _ _, hW, rfl⟩
      | 17, ho, haf =>
        obtain rfl := Option.some.inj ho
        have gg : a9.tmps.getD 42 undef = .bool true := haf ⟨16, .guard⟩ (by simp) rfl
        refine skip_good _ (wanted_some rfl (yielded_of (d := 42) rfl (by omega) gg)) ?_
        clear haf ho hsz2 gg
        intro K hK
        simp only [List.getElem_toArray, List.getElem_cons_succ, List.getElem_cons_zero] at hK ⊢
        go_simp
        exact hK _ _ ⟨Below.refl _ _, hW, rfl⟩
      | 18, ho, haf =>
        obtain rfl := Option.some.inj ho
        have gg : a9.tmps.getD 42 undef = .bool true := haf ⟨16, .guard⟩ (by simp) rfl
        have f17 := getq (show a9.tmps.getD 43 undef = Value.slice (some { block := gl, off := 0 }) 1 cl from haf ⟨17, .data⟩ (by simp) rfl)
        refine skip_good _ (wanted_some rfl (yielded_of (d := 42) rfl (by omega) gg)) ?_
        clear haf ho hsz2 gg
        intro K hK
        simp only [List.getElem_toArray, List.getElem_cons_succ, List.getElem_cons_zero] at hK ⊢
        go_simp
        exact hK _ _ ⟨Below.refl _ _, hW, rfl⟩
      | 19, ho, haf =>
        obtain rfl := Option.some.inj ho
        have gg : a9.tmps.getD 42 undef = .bool true := haf ⟨16, .guard⟩ (by simp) rfl
        have f18 := getq (show a9.tmps.getD 44 undef = .pointer (some ⟨gl, 0, none⟩) from haf ⟨18, .data⟩ (by simp) rfl)
        refine skip_good _ (wanted_some rfl (yielded_of (d := 42) rfl (by omega) gg)) ?_
        clear haf ho hsz2 gg
        intro K hK
        simp only [List.getElem_toArray, List.getElem_cons_succ, List.getElem_cons_zero] at hK ⊢
        have t0 := (hW.cell (p := ⟨gl, 0, none⟩) hgl5).trans f0
        have t1 := (hW.cell (p := ⟨gl, 1, none⟩) hgl5).trans f1
        have t2 := (hW.cell (p := ⟨gl, 2, none⟩) hgl5).trans f2
        have t3 := (hW.cell (p := ⟨gl, 3, none⟩) hgl5).trans f3
        have t4 := (hW.cell (p := ⟨gl, 4, none⟩) hgl5).trans f4
        go_simp
        exact hK _ _ ⟨Below.refl _ _, hW, rfl⟩
      | 20, ho, haf =>
        obtain rfl := Option.some.inj ho
        have gg : a9.tmps.getD 42 undef = .bool true := haf ⟨16, .guard⟩ (by simp) rfl
        refine skip_good _ (wanted_some rfl (yielded_of (d := 42) rfl (by omega) gg)) ?_
        clear haf ho hsz2 gg
        intro K hK
        simp only [List.getElem_toArray, List.getElem_cons_succ, List.getElem_cons_zero] at hK ⊢
        have t0 := (hW.cell (p := ⟨w4.heap.size, 0, none⟩) h45).trans e0
        have t1 := (hW.cell (p := ⟨w4.heap.size, 1, none⟩) h45).trans e1
        have t2 := (hW.cell (p := ⟨w4.heap.size, 2, none⟩) h45).trans e2
        have t3 := (hW.cell (p := ⟨w4.heap.size, 3, none⟩) h45).trans e3
        have t4 := (hW.cell (p := ⟨w4.heap.size, 4, none⟩) h45).trans e4
        go_simp
        exact hK _ _ ⟨Below.refl _ _, hW, rfl⟩
      | 21, ho, haf =>
        obtain rfl := Option.some.inj ho
        have gg : a9.tmps.getD 42 undef = .bool true := haf ⟨16, .guard⟩ (by simp) rfl
        have f19 := getq (show a9.tmps.getD 45 undef = .agg #[.int .u64 7, .int .i64 1, .int .i64 0, .int .i64 14, .string ⟨#[107]⟩] from haf ⟨19, .data⟩ (by simp) rfl)
        have f20 := getq (show a9.tmps.getD 46 undef = .agg #[.int .u64 7, .int .i64 1, .int .i64 0, .int .i64 14, .string ⟨#[107]⟩] from haf ⟨20, .data⟩ (by simp) rfl)
        refine skip_good _ (wanted_some rfl (yielded_of (d := 42) rfl (by omega) gg)) ?_
        clear haf ho hsz2 gg
        intro K hK
        simp only [List.getElem_toArray, List.getElem_cons_succ, List.getElem_cons_zero] at hK ⊢
        go_simp
        exact hK _ _ ⟨Below.refl _ _, hW, rfl⟩
      | 22, ho, haf =>
        obtain rfl := Option.some.inj ho
        have f16 := getq (show a9.tmps.getD 42 undef = .bool true from haf ⟨16, .data⟩ (by simp) rfl)
        have f21 := getq (show a9.tmps.getD 47 undef = .bool true from haf ⟨21, .data⟩ (by simp) rfl)
        refine skip_good _ (wanted_none rfl) ?_
        clear haf ho hsz2
        intro K hK
        simp only [List.getElem_toArray, List.getElem_cons_succ, List.getElem_cons_zero] at hK ⊢
        go_simp
        exact hK _ _ ⟨Below.refl _ _, hW, rfl⟩
      | 23, ho, haf =>
        obtain rfl := Option.some.inj ho
        have f22 := getq (show a9.tmps.getD 48 undef = .bool true from haf ⟨22, .data⟩ (by simp) rfl)
        refine skip_good _ (wanted_none rfl) ?_
        clear haf ho hsz2
        intro K hK
        simp only [List.getElem_toArray, List.getElem_cons_succ, List.getElem_cons_zero] at hK ⊢
        go_simp
        exact hK _ _ ⟨Below.refl _ _, hW, rfl⟩
      | 24, ho, haf =>
        obtain rfl := Option.some.inj ho
        have gg : a9.tmps.getD 49 undef = .bool true := haf ⟨23, .guard⟩ (by simp) rfl
        refine skip_good _ (wanted_some rfl (yielded_of (d := 49) rfl (by omega) gg)) ?_
        clear haf ho hsz2 gg
        intro K hK
        simp only [List.getElem_toArray, List.getElem_cons_succ, List.getElem_cons_zero] at hK ⊢
        go_simp
        exact hK _ _ ⟨Below.refl _ _, hW, rfl⟩
      | 25, ho, haf =>
        obtain rfl := Option.some.inj ho
        have f23 := getq (show a9.tmps.getD 49 undef = .bool true from haf ⟨23, .data⟩ (by simp) rfl)
        have f24 := getq (show a9.tmps.getD 50 undef = Value.bool true from haf ⟨24, .data⟩ (by simp) rfl)
        refine skip_good _ (wanted_none rfl) ?_
        clear haf ho hsz2
        intro K hK
        simp only [List.getElem_toArray, List.getElem_cons_succ, List.getElem_cons_zero] at hK ⊢
        go_simp
        exact hK _ _ ⟨Below.refl _ _, hW, rfl⟩
      | 26, ho, haf =>
        obtain rfl := Option.some.inj ho
        have f25 := getq (show a9.tmps.getD 51 undef = .bool true from haf ⟨25, .data⟩ (by simp) rfl)
        refine skip_good _ (wanted_none rfl) ?_
        clear haf ho hsz2
        intro K hK
        simp only [List.getElem_toArray, List.getElem_cons_succ, List.getElem_cons_zero] at hK ⊢
        go_simp
        exact hK _ _ ⟨Below.refl _ _, hW, rfl⟩
      | n + 27, ho, haf => simp at ho
    · intro aa w9 hW hdf hsz hout hall
      have hat : aa.tmps = #[.bool true, Value.slice a1 14 c1, Value.slice ah hl.length ch, Value.int IntKind.i64 0, Value.slice (some { block := gl, off := 0 }) 1 cl, Value.int IntKind.i64 1, Value.pointer (some { block := w4.heap.size, off := 0 }), Value.bool true, Value.slice a1 14 c1, Value.tuple #[Value.slice ah hl.length ch, Value.int IntKind.i64 0], Value.slice a1 14 c1, Value.tuple #[Value.slice ah hl.length ch, Value.int IntKind.i64 0], Value.slice ah hl.length ch, Value.int IntKind.i64 0, Value.tuple #[Value.slice (some { block := gl, off := 0 }) 1 cl, Value.int IntKind.i64 1], Value.slice ah hl.length ch, Value.slice ah hl.length ch, Value.int IntKind.u32 (sm : Int), Value.agg #[Value.int IntKind.i64 14, Value.int IntKind.i64 1, Value.int IntKind.u32 (sm : Int)], Value.tuple #[Value.slice (some { block := gl, off := 0 }) 1 cl, Value.int IntKind.i64 1], Value.slice (some { block := gl, off := 0 }) 1 cl, Value.int IntKind.i64 1, Value.agg #[Value.int IntKind.u64 7, Value.int IntKind.i64 1, Value.int IntKind.i64 0, Value.int IntKind.i64 14, Value.string { data := #[107] }], Value.slice a1 14 c1, Value.agg #[Value.int IntKind.u64 7, Value.int IntKind.i64 1, Value.int IntKind.i64 0, Value.int IntKind.i64 14, Value.string { data := #[107] }], Value.bool true, Value.slice a1 14 c1, .int .i64 14, .bool true, .bool true, Value.int IntKind.i64 0, .bool true, .bool true, .bool true, Value.int IntKind.i64 1, .bool true, .bool true, .bool true, Value.slice (some { block := gl, off := 0 }) 1 cl, .int .i64 1, .bool true, .bool true, .bool true, Value.slice (some { block := gl, off := 0 }) 1 cl, .pointer (some ⟨gl, 0, none⟩), .agg #[.int .u64 7, .int .i64 1, .int .i64 0, .int .i64 14, .string ⟨#[107]⟩], .agg #[.int .u64 7, .int .i64 1, .int .i64 0, .int .i64 14, .string ⟨#[107]⟩], .bool true, .bool true, .bool true, Value.bool true, .bool true] := by
        refine arr_one (hsz.trans rfl) fun kk hkk => ?_
        match kk, hkk with
        | 0, _ => exact hall 26 (by decide)
        | 1, _ => exact hout 1 (notDst_spec (by kernel_rfl))
        | 2, _ => exact hout 2 (notDst_spec (by kernel_rfl))
        | 3, _ => exact hout 3 (notDst_spec (by kernel_rfl))
        | 4, _ => exact hout 4 (notDst_spec (by kernel_rfl))
        | 5, _ => exact hout 5 (notDst_spec (by kernel_rfl))
        | 6, _ => exact hout 6 (notDst_spec (by kernel_rfl))
        | 7, _ => exact hout 7 (notDst_spec (by kernel_rfl))
        | 8, _ => exact hout 8 (notDst_spec (by kernel_rfl))
        | 9, _ => exact hout 9 (notDst_spec (by kernel_rfl))
        | 10, _ => exact hout 10 (notDst_spec (by kernel_rfl))
        | 11, _ => exact hout 11 (notDst_spec (by kernel_rfl))
        | 12, _ => exact hout 12 (notDst_spec (by kernel_rfl))
        | 13, _ => exact hout 13 (notDst_spec (by kernel_rfl))
        | 14, _ => exact hout 14 (notDst_spec (by kernel_rfl))
        | 15, _ => exact hout 15 (notDst_spec (by kernel_rfl))
        | 16, _ => exact hout 16 (notDst_spec (by kernel_rfl))
        | 17, _ => exact hout 17 (notDst_spec (by kernel_rfl))
        | 18, _ => exact hout 18 (notDst_spec (by kernel_rfl))
        | 19, _ => exact hout 19 (notDst_spec (by kernel_rfl))
        | 20, _ => exact hout 20 (notDst_spec (by kernel_rfl))
        | 21, _ => exact hout 21 (notDst_spec (by kernel_rfl))
        | 22, _ => exact hout 22 (notDst_spec (by kernel_rfl))
        | 23, _ => exact hout 23 (notDst_spec (by kernel_rfl))
        | 24, _ => exact hout 24 (notDst_spec (by kernel_rfl))
        | 25, _ => exact hout 25 (notDst_spec (by kernel_rfl))
        | 26, _ => exact hall 0 (by decide)
        | 27, _ => exact hall 1 (by decide)
        | 28, _ => exact hall 2 (by decide)
        | 29, _ => exact hall 3 (by decide)
        | 30, _ => exact hall 4 (by decide)
        | 31, _ => exact hall 5 (by decide)
        | 32, _ => exact hall 6 (by decide)
        | 33, _ => exact hall 7 (by decide)
        | 34, _ => exact hall 8 (by decide)
        | 35, _ => exact hall 9 (by decide)
        | 36, _ => exact hall 10 (by decide)
        | 37, _ => exact hall 11 (by decide)
        | 38, _ => exact hall 12 (by decide)
        | 39, _ => exact hall 13 (by decide)
        | 40, _ => exact hall 14 (by decide)
        | 41, _ => exact hall 15 (by decide)
        | 42, _ => exact hall 16 (by decide)
        | 43, _ => exact hall 17 (by decide)
        | 44, _ => exact hall 18 (by decide)
        | 45, _ => exact hall 19 (by decide)
        | 46, _ => exact hall 20 (by decide)
        | 47, _ => exact hall 21 (by decide)
        | 48, _ => exact hall 22 (by decide)
        | 49, _ => exact hall 23 (by decide)
        | 50, _ => exact hall 24 (by decide)
        | 51, _ => exact hall 25 (by decide)
        | n + 52, h => exact absurd h (by simp)
      obtain ⟨tt, dd⟩ := aa
      simp only at hat hdf
      subst hat hdf
      clear hsz hout hall
      have b12 := HB1.out.trans (HB2.out.mono HB1.out.size)
      have b13 := b12.trans (HB3.out.mono b12.size)
      have b14 := b13.trans (HB4.out.mono b13.size)
      have b15 := b14.trans (HB5.out.mono b14.size)
      have HF := hd (b15.trans (hW.mono b15.size))
      clear b12 b13 b14 b15 hW
      go_wp2_with fail
      go_ret
      exact ⟨rfl, HF.out⟩
    --END known
  · exact absurd F7_may hn
end Vt
end Go.Proofs.Ytnjhbidialngmaa
