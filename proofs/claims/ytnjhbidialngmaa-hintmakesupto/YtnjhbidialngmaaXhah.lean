/-
  THE WALK OF frame.open.
-/
import Derived.Test.YtnjhbidialngmaaXhag
namespace Go.Proofs.Ytnjhbidialngmaa
open Go.RowKit
namespace Vt
theorem results_cell2 {P : Program} {fn : Func} {p q : Tmp} {ty : TypeId} (h : fn.results = #[.cell p ty, .tmp q]) (tmps : Array Value) (w : World) (g : Nat) (t : TypeId) (cs : Array Value) (fr : Nat × Nat) (d : TypeDesc)
    (hp : tmps.getD p undef = .pointer (some ⟨g, 0, none⟩)) (hg : w.heap[g]? = some (.cells cs t fr))
    (hu : P.underlying ty = some d) (hd : (match d with | .struct _ | .array _ _ => true | _ => false) = true) (hi : (P.info? ty).map (·.size) = some cs.size) :
    (results fn tmps).run P w = .ok (.tuple #[.agg cs, tmps.getD q undef]) w := by
  have hp' : tmps[p]?.getD undef = .pointer (some ⟨g, 0, none⟩) := by simpa using hp
  simp [results, h, hp', asAddr, run_loadVar_row w g t ty cs fr d hg hu hd hi]
theorem results_cell3 {P : Program} {fn : Func} {p q r : Tmp} {ty : TypeId} (h : fn.results = #[.cell p ty, .tmp q, .tmp r]) (tmps : Array Value) (w : World) (g : Nat) (t : TypeId) (cs : Array Value) (fr : Nat × Nat) (d : TypeDesc)
    (hp : tmps.getD p undef = .pointer (some ⟨g, 0, none⟩)) (hg : w.heap[g]? = some (.cells cs t fr))
    (hu : P.underlying ty = some d) (hd : (match d with | .struct _ | .array _ _ => true | _ => false) = true) (hi : (P.info? ty).map (·.size) = some cs.size) :
    (results fn tmps).run P w = .ok (.tuple #[.agg cs, tmps.getD q undef, tmps.getD r undef]) w := by
  have hp' : tmps[p]?.getD undef = .pointer (some ⟨g, 0, none⟩) := by simpa using hp
  simp [results, h, hp', asAddr, run_loadVar_row w g t ty cs fr d hg hu hd hi]
open Classical in
/-- the frame that an escaped body is of -/
noncomputable def opF (l : List Nat) : Option Fr := if (badB 0 l).1 = 0 ∧ (prs (plain l, false)).2 = ([], false) ∧ rf (prs (plain l, false)).1 = 0 then some (prs (plain l, false)).1 else none
theorem opF_yes {l : List Nat} (h1 : (badB 0 l).1 = 0) (h2 : (prs (plain l, false)).2 = ([], false)) (h3 : rf (prs (plain l, false)).1 = 0) : opF l = some (prs (plain l, false)).1 := by unfold opF; rw [if_pos ⟨h1, h2, h3⟩]
theorem opF_no {l : List Nat} (h : ¬ ((badB 0 l).1 = 0 ∧ (prs (plain l, false)).2 = ([], false) ∧ rf (prs (plain l, false)).1 = 0)) : opF l = none := by unfold opF; rw [if_neg h]
noncomputable def opV (l : List Nat) : Value := match opF l with | some f => .tuple #[.agg (fv f), .bool true] | none => .tuple #[.agg (fv zf), .bool false]
theorem opV_no {l : List Nat} (h : opF l = none) : opV l = .tuple #[.agg #[.int .i64 0, .int .u64 0, .int .i64 0, .string ⟨#[]⟩, .string ⟨#[]⟩, .int .u64 0, .int .i64 0, .int .i64 0, .int .i64 0, .string ⟨#[]⟩, .int .i64 0, .int .i64 0, .int .i64 0, .int .u32 0], .bool false] := by unfold opV; rw [h]; rfl
theorem JB.low {w : World} {base : Nat} {v : Value} {l : List Nat} (h : JB w base v l) : Low v w.heap.size := by
  intro a n c e
  rcases h.2.2 with ⟨rfl, _⟩ | ⟨g, cap, cur, rfl, _, hg, _⟩
  · cases e
  · injection e with e1
    injection e1 with e1
    subst e1
    exact ⟨(Array.getElem?_eq_some_iff.1 hg).1, rfl⟩
set_option maxRecDepth 100000 in
set_option maxHeartbeats 2000000 in
theorem open_bad (v : Value) (l : List Nat) (w : World) (hI : IsB w v l) (hm : l.length ≤ 281474976710656) (hb : (badB 0 l).1 ≠ 0) :
    Calls Try.prog 49 #[v] w fun e w' => e = .returned (opV l) ∧ Below w.heap.size w w' := by
  rw [opV_no (opF_no (fun q => hb q.1))]
  have HA0 : Hid (Blk (w.alloc (.cells #[.int .i64 0, .int .u64 0, .int .i64 0, .string ⟨#[]⟩, .string ⟨#[]⟩, .int .u64 0, .int .i64 0, .int .i64 0, .int .i64 0, .string ⟨#[]⟩, .int .i64 0, .int .i64 0, .int .i64 0, .int .u32 0] 34)) w.heap.size 34 [.int .i64 0, .int .u64 0, .int .i64 0, .string ⟨#[]⟩, .string ⟨#[]⟩, .int .u64 0, .int .i64 0, .int .i64 0, .int .i64 0, .string ⟨#[]⟩, .int .i64 0, .int .i64 0, .int .i64 0, .int .u32 0]) := Blk.new w _ _
  have HC := hd (open_is v l _ (hI.below ((Below.refl _ _).alloc (Nat.le_refl _) (.cells #[.int .i64 0, .int .u64 0, .int .i64 0, .string ⟨#[]⟩, .string ⟨#[]⟩, .int .u64 0, .int .i64 0, .int .i64 0, .int .i64 0, .string ⟨#[]⟩, .int .i64 0, .int .i64 0, .int .i64 0, .int .u32 0] 34))) hm)
  unfold OpenPost at HC
  generalize badB 0 l = bb at *
  obtain ⟨b1, b2⟩ := bb
  simp only at *
  have hq : (((b1 : Nat) : Int) != 0) = true := by simp; omega
  clear hI hb
  go_enter Try.func49, Try.ntmps49
  go_wp2_with fail
  refine Calls.mono HC.out ?_
  rintro e w1 ⟨u, rfl, hj, hb⟩
  have HA1 := hd (HA0.out.keep hb)
  have HB1 := hd (below_alloc1 hb)
  clear hj hb HC HA0
  have a0 := HA1.out.cell 0 _ rfl
  have az0 := HA1.out.frozen 0
  have a1 := HA1.out.cell 1 _ rfl
  have az1 := HA1.out.frozen 1
  have a2 := HA1.out.cell 2 _ rfl
  have az2 := HA1.out.frozen 2
  have a3 := HA1.out.cell 3 _ rfl
  have az3 := HA1.out.frozen 3
  have a4 := HA1.out.cell 4 _ rfl
  have az4 := HA1.out.frozen 4
  have a5 := HA1.out.cell 5 _ rfl
  have az5 := HA1.out.frozen 5
  have a6 := HA1.out.cell 6 _ rfl
  have az6 := HA1.out.frozen 6
  have a7 := HA1.out.cell 7 _ rfl
  have az7 := HA1.out.frozen 7
  have a8 := HA1.out.cell 8 _ rfl
  have az8 := HA1.out.frozen 8
  have a9 := HA1.out.cell 9 _ rfl
  have az9 := HA1.out.frozen 9
  have a10 := HA1.out.cell 10 _ rfl
  have az10 := HA1.out.frozen 10
  have a11 := HA1.out.cell 11 _ rfl
  have az11 := HA1.out.frozen 11
  have a12 := HA1.out.cell 12 _ rfl
  have az12 := HA1.out.frozen 12
  have a13 := HA1.out.cell 13 _ rfl
  have az13 := HA1.out.frozen 13
  go_wp2_with fail
  have HF : Hid (Blk (setL w1 w.heap.size 0 [.int .i64 0, .int .u64 0, .int .i64 0, .string ⟨#[]⟩, .string ⟨#[]⟩, .int .u64 0, .int .i64 0, .int .i64 0, .int .i64 0, .string ⟨#[]⟩, .int .i64 0, .int .i64 0, .int .i64 0, .int .u32 0]) w.heap.size 34 [.int .i64 0, .int .u64 0, .int .i64 0, .string ⟨#[]⟩, .string ⟨#[]⟩, .int .u64 0, .int .i64 0, .int .i64 0, .int .i64 0, .string ⟨#[]⟩, .int .i64 0, .int .i64 0, .int .i64 0, .int .u32 0]) := setL_blk [.int .i64 0, .int .u64 0, .int .i64 0, .string ⟨#[]⟩, .string ⟨#[]⟩, .int .u64 0, .int .i64 0, .int .i64 0, .int .i64 0, .string ⟨#[]⟩, .int .i64 0, .int .i64 0, .int .i64 0, .int .u32 0] _ 0 [] [.int .i64 0, .int .u64 0, .int .i64 0, .string ⟨#[]⟩, .string ⟨#[]⟩, .int .u64 0, .int .i64 0, .int .i64 0, .int .i64 0, .string ⟨#[]⟩, .int .i64 0, .int .i64 0, .int .i64 0, .int .u32 0] rfl rfl HA1.out
  refine bodyPost_ret (results_cell2 rfl _ _ w.heap.size 34 #[.int .i64 0, .int .u64 0, .int .i64 0, .string ⟨#[]⟩, .string ⟨#[]⟩, .int .u64 0, .int .i64 0, .int .i64 0, .int .i64 0, .string ⟨#[]⟩, .int .i64 0, .int .i64 0, .int .i64 0, .int .u32 0] (0, 0) _ rfl HF.out Try.underlying34 rfl (by kernel_rfl)) rfl ?_
  exact ⟨rfl, (setL_keepO (B := w.heap.size) (O := w.heap.size) [.int .i64 0, .int .u64 0, .int .i64 0, .string ⟨#[]⟩, .string ⟨#[]⟩, .int .u64 0, .int .i64 0, .int .i64 0, .int .i64 0, .string ⟨#[]⟩, .int .i64 0, .int .i64 0, .int .i64 0, .int .u32 0] _ w 0 (Nat.le_refl _) (KeepO.of_below HB1.out)).below (Nat.le_refl _) (Nat.le_refl _)⟩
set_option maxRecDepth 100000 in
set_option maxHeartbeats 1600000 in
theorem open_fine (v : Value) (l : List Nat) (w : World) (hI : IsB w v l) (hm : l.length ≤ 281474976710656) (hb : (badB 0 l).1 = 0) :
    Calls Try.prog 49 #[v] w fun e w' => e = .returned (opV l) ∧ Below w.heap.size w w' := by
  have HA0 : Hid (Blk (w.alloc (.cells #[.int .i64 0, .int .u64 0, .int .i64 0, .string ⟨#[]⟩, .string ⟨#[]⟩, .int .u64 0, .int .i64 0, .int .i64 0, .int .i64 0, .string ⟨#[]⟩, .int .i64 0, .int .i64 0, .int .i64 0, .int .u32 0] 34)) w.heap.size 34 [.int .i64 0, .int .u64 0, .int .i64 0, .string ⟨#[]⟩, .string ⟨#[]⟩, .int .u64 0, .int .i64 0, .int .i64 0, .int .i64 0, .string ⟨#[]⟩, .int .i64 0, .int .i64 0, .int .i64 0, .int .u32 0]) := Blk.new w _ _
  have HC := hd (open_is v l _ (hI.below ((Below.refl _ _).alloc (Nat.le_refl _) (.cells #[.int .i64 0, .int .u64 0, .int .i64 0, .string ⟨#[]⟩, .string ⟨#[]⟩, .int .u64 0, .int .i64 0, .int .i64 0, .int .i64 0, .string ⟨#[]⟩, .int .i64 0, .int .i64 0, .int .i64 0, .int .u32 0] 34))) hm)
  unfold OpenPost opn at HC
  rw [if_pos hb, badB_zero hb] at HC
  have HOY := hd (fun h2 h3 => opF_yes (l := l) hb h2 h3)
  have HON := hd (fun h => opF_no (l := l) h)
  obtain ⟨⟨k, ⟨rl, rk, rkey, rval⟩, ⟨pl, pk, pa, pn, pkey⟩, ⟨ec, eb, ef, es⟩⟩, ⟨left, br⟩, hp⟩ : ∃ F sr, prs (plain l, false) = (F, sr) := ⟨_, _, rfl⟩
  rw [hp] at HOY HON
  simp only at HC HOY HON
  have HFR := hd (fun B w h => frame_is B (plain l, false) w h)
  rw [hp] at HFR
  simp only [fv] at HFR
  have HRF := hd (refusal_is ⟨k, ⟨rl, rk, rkey, rval⟩, ⟨pl, pk, pa, pn, pkey⟩, ⟨ec, eb, ef, es⟩⟩)
  simp only [fv] at HRF
  have HV : Hid (opF l = some ⟨k, ⟨rl, rk, rkey, rval⟩, ⟨pl, pk, pa, pn, pkey⟩, ⟨ec, eb, ef, es⟩⟩ → opV l = .tuple #[.agg #[.int .i64 k, .int .u64 (rl : Int), .int .i64 rk, .string rkey, .string rval, .int .u64 (pl : Int), .int .i64 pk, .int .i64 pa, .int .i64 pn, .string pkey, .int .i64 ec, .int .i64 eb, .int .i64 ef, .int .u32 (es : Int)], .bool true]) := by
    intro q; unfold opV; rw [q]; rfl
  clear hI hb hp
  generalize hrf : rf ⟨k, ⟨rl, rk, rkey, rval⟩, ⟨pl, pk, pa, pn, pkey⟩, ⟨ec, eb, ef, es⟩⟩ = code at *
  clear hrf
  go_enter Try.func49, Try.ntmps49
  go_wp2_with fail
  refine Calls.mono HC.out ?_
  rintro e w1 ⟨u, rfl, hj, hb⟩
  obtain ⟨ua, uc, rfl, _⟩ := hj.shape
  obtain ⟨un, hun⟩ : ∃ n, n = (plain l).length := ⟨_, rfl⟩
  rw [← hun] at hj ⊢
  clear hun
  have HB1 := hd (below_alloc1 hb)
  have HR1 : Hid (RDs (w1.alloc (.cells #[.slice ua un uc, .bool false] 109)) w1.heap.size (plain l, false)) := ⟨.slice ua un uc, Blk.new w1 _ [.slice ua un uc, .bool false], hj.isB.below ((Below.refl _ _).alloc (Nat.le_refl _) _), hj.low⟩
  have HA1 := hd ((HA0.out.keep hb).alloc (.cells #[.slice ua un uc, .bool false] 109))
  have hs1 := hb.size
  rw [World.size_alloc] at hs1
  have n1 : w.heap.size ≠ w1.heap.size := by omega
  have HB1a : Hid (Below w.heap.size w (w1.alloc (.cells #[.slice ua un uc, .bool false] 109))) := HB1.out.alloc (by omega) _
  clear hj hb HC HA0 HB1
  go_wp2_with fail
  refine Calls.mono (HFR.out _ _ HR1.out) ?_
  rintro e w2 ⟨rfl, hr, hk⟩
  obtain ⟨v2, g1, g2, g3⟩ := hr
  obtain ⟨a2, cc2, rfl⟩ := g2.shape
  have HX2 := hd g1
  have HA2 := hd (HA1.out.keepO n1 hk)
  have HB2 : Hid (Below w.heap.size w w2) := HB1a.out.trans (hk.below (by omega) HB1a.out.size)
  have hs2 := hk.size
  rw [World.size_alloc] at hs2
  clear g1 g2 g3 hk HA1 HB1a HR1 HFR
  have x0 := HX2.out.cell 0 _ rfl
  have x1 := HX2.out.cell 1 _ rfl
  simp only at x0 x1
  have n2 : w1.heap.size < w2.heap.size := by omega
  have n3 : ¬ w1.heap.size = w2.heap.size := by omega
  have n4 : ¬ w2.heap.size = w1.heap.size := by omega
  have n5 : w.heap.size < w2.heap.size := by omega
  have n6 : ¬ w.heap.size = w2.heap.size := by omega
  have n7 : ¬ w2.heap.size = w.heap.size := by omega
  have HA3 : Hid (Blk (w2.alloc (.cells #[.int .i64 k, .int .u64 (rl : Int), .int .i64 rk, .string rkey, .string rval, .int .u64 (pl : Int), .int .i64 pk, .int .i64 pa, .int .i64 pn, .string pkey, .int .i64 ec, .int .i64 eb, .int .i64 ef, .int .u32 (es : Int)] 34)) w.heap.size 34 [.int .i64 0, .int .u64 0, .int .i64 0, .string ⟨#[]⟩, .string ⟨#[]⟩, .int .u64 0, .int .i64 0, .int .i64 0, .int .i64 0, .string ⟨#[]⟩, .int .i64 0, .int .i64 0, .int .i64 0, .int .u32 0]) := HA2.out.alloc _
  have HB3 : Hid (Below w.heap.size w (w2.alloc (.cells #[.int .i64 k, .int .u64 (rl : Int), .int .i64 rk, .string rkey, .string rval, .int .u64 (pl : Int), .int .i64 pk, .int .i64 pa, .int .i64 pn, .string pkey, .int .i64 ec, .int .i64 eb, .int .i64 ef, .int .u32 (es : Int)] 34))) := HB2.out.alloc HB2.out.size _
  clear HX2
  have HQ : Hid (br = true ∨ (br = false ∧ 0 < left.length) ∨ (br = false ∧ left = [])) := by
    show br = true ∨ _
    cases br
    · rcases Nat.eq_zero_or_pos left.length with h | h
      · exact .inr (.inr ⟨rfl, List.length_eq_zero_iff.1 h⟩)
      · exact .inr (.inl ⟨rfl, h⟩)
    · exact .inl rfl
  rcases HQ.out with rfl | ⟨rfl, hl⟩ | ⟨rfl, rfl⟩
  · have HOV := hd (opV_no (HON.out (by simp)))
    have a0 := HA2.out.cell 0 _ rfl
    have az0 := HA2.out.frozen 0
    have a1 := HA2.out.cell 1 _ rfl
    have az1 := HA2.out.frozen 1
    have a2 := HA2.out.cell 2 _ rfl
    have az2 := HA2.out.frozen 2
    have a3 := HA2.out.cell 3 _ rfl
    have az3 := HA2.out.frozen 3
    have a4 := HA2.out.cell 4 _ rfl
    have az4 := HA2.out.frozen 4
    have a5 := HA2.out.cell 5 _ rfl
    have az5 := HA2.out.frozen 5
    have a6 := HA2.out.cell 6 _ rfl
    have az6 := HA2.out.frozen 6
    have a7 := HA2.out.cell 7 _ rfl
    have az7 := HA2.out.frozen 7
    have a8 := HA2.out.cell 8 _ rfl
    have az8 := HA2.out.frozen 8
    have a9 := HA2.out.cell 9 _ rfl
    have az9 := HA2.out.frozen 9
    have a10 := HA2.out.cell 10 _ rfl
    have az10 := HA2.out.frozen 10
    have a11 := HA2.out.cell 11 _ rfl
    have az11 := HA2.out.frozen 11
    have a12 := HA2.out.cell 12 _ rfl
    have az12 := HA2.out.frozen 12
    have a13 := HA2.out.cell 13 _ rfl
    have az13 := HA2.out.frozen 13
    clear HQ HRF HV HOY HON
    go_wp2_with fail
    have HF : Hid (Blk ((setL w2 w.heap.size 0 [.int .i64 0, .int .u64 0, .int .i64 0, .string ⟨#[]⟩, .string ⟨#[]⟩, .int .u64 0, .int .i64 0, .int .i64 0, .int .i64 0, .string ⟨#[]⟩, .int .i64 0, .int .i64 0, .int .i64 0, .int .u32 0]).alloc (.cells #[.int .i64 k, .int .u64 (rl : Int), .int .i64 rk, .string rkey, .string rval, .int .u64 (pl : Int), .int .i64 pk, .int .i64 pa, .int .i64 pn, .string pkey, .int .i64 ec, .int .i64 eb, .int .i64 ef, .int .u32 (es : Int)] 34)) w.heap.size 34 [.int .i64 0, .int .u64 0, .int .i64 0, .string ⟨#[]⟩, .string ⟨#[]⟩, .int .u64 0, .int .i64 0, .int .i64 0, .int .i64 0, .string ⟨#[]⟩, .int .i64 0, .int .i64 0, .int .i64 0, .int .u32 0]) := (setL_blk [.int .i64 0, .int .u64 0, .int .i64 0, .string ⟨#[]⟩, .string ⟨#[]⟩, .int .u64 0, .int .i64 0, .int .i64 0, .int .i64 0, .string ⟨#[]⟩, .int .i64 0, .int .i64 0, .int .i64 0, .int .u32 0] _ 0 [] [.int .i64 0, .int .u64 0, .int .i64 0, .string ⟨#[]⟩, .string ⟨#[]⟩, .int .u64 0, .int .i64 0, .int .i64 0, .int .i64 0, .string ⟨#[]⟩, .int .i64 0, .int .i64 0, .int .i64 0, .int .u32 0] rfl rfl HA2.out).alloc _
    refine bodyPost_ret (results_cell2 rfl _ _ w.heap.size 34 #[.int .i64 0, .int .u64 0, .int .i64 0, .string ⟨#[]⟩, .string ⟨#[]⟩, .int .u64 0, .int .i64 0, .int .i64 0, .int .i64 0, .string ⟨#[]⟩, .int .i64 0, .int .i64 0, .int .i64 0, .int .u32 0] (0, 0) _ rfl HF.out Try.underlying34 rfl (by kernel_rfl)) rfl ?_
    exact ⟨by rw [HOV.out]; rfl, ((setL_keepO (B := w.heap.size) (O := w.heap.size) [.int .i64 0, .int .u64 0, .int .i64 0, .string ⟨#[]⟩, .string ⟨#[]⟩, .int .u64 0, .int .i64 0, .int .i64 0, .int .i64 0, .string ⟨#[]⟩, .int .i64 0, .int .i64 0, .int .i64 0, .int .u32 0] _ w 0 (Nat.le_refl _) (KeepO.of_below HB2.out)).trans (KeepO.alloc _ _ _)).below (Nat.le_refl _) (Nat.le_refl _)⟩
  · have HOV := hd (opV_no (HON.out (by rintro ⟨_, q, _⟩; injection q with q; rw [q] at hl; simp at hl)))
    have a0 := HA2.out.cell 0 _ rfl
    have az0 := HA2.out.frozen 0
    have a1 := HA2.out.cell 1 _ rfl
    have az1 := HA2.out.frozen 1
    have a2 := HA2.out.cell 2 _ rfl
    have az2 := HA2.out.frozen 2
    have a3 := HA2.out.cell 3 _ rfl
    have az3 := HA2.out.frozen 3
    have a4 := HA2.out.cell 4 _ rfl
    have az4 := HA2.out.frozen 4
    have a5 := HA2.out.cell 5 _ rfl
    have az5 := HA2.out.frozen 5
    have a6 := HA2.out.cell 6 _ rfl
    have az6 := HA2.out.frozen 6
    have a7 := HA2.out.cell 7 _ rfl
    have az7 := HA2.out.frozen 7
    have a8 := HA2.out.cell 8 _ rfl
    have az8 := HA2.out.frozen 8
    have a9 := HA2.out.cell 9 _ rfl
    have az9 := HA2.out.frozen 9
    have a10 := HA2.out.cell 10 _ rfl
    have az10 := HA2.out.frozen 10
    have a11 := HA2.out.cell 11 _ rfl
    have az11 := HA2.out.frozen 11
    have a12 := HA2.out.cell 12 _ rfl
    have az12 := HA2.out.frozen 12
    have a13 := HA2.out.cell 13 _ rfl
    have az13 := HA2.out.frozen 13
    clear HQ HRF HV HOY HON
    go_wp2_with fail
    have HF : Hid (Blk ((setL w2 w.heap.size 0 [.int .i64 0, .int .u64 0, .int .i64 0, .string ⟨#[]⟩, .string ⟨#[]⟩, .int .u64 0, .int .i64 0, .int .i64 0, .int .i64 0, .string ⟨#[]⟩, .int .i64 0, .int .i64 0, .int .i64 0, .int .u32 0]).alloc (.cells #[.int .i64 k, .int .u64 (rl : Int), .int .i64 rk, .string rkey, .string rval, .int .u64 (pl : Int), .int .i64 pk, .int .i64 pa, .int .i64 pn, .string pkey, .int .i64 ec, .int .i64 eb, .int .i64 ef, .int .u32 (es : Int)] 34)) w.heap.size 34 [.int .i64 0, .int .u64 0, .int .i64 0, .string ⟨#[]⟩, .string ⟨#[]⟩, .int .u64 0, .int .i64 0, .int .i64 0, .int .i64 0, .string ⟨#[]⟩, .int .i64 0, .int .i64 0, .int .i64 0, .int .u32 0]) := (setL_blk [.int .i64 0, .int .u64 0, .int .i64 0, .string ⟨#[]⟩, .string ⟨#[]⟩, .int .u64 0, .int .i64 0, .int .i64 0, .int .i64 0, .string ⟨#[]⟩, .int .i64 0, .int .i64 0, .int .i64 0, .int .u32 0] _ 0 [] [.int .i64 0, .int .u64 0, .int .i64 0, .string ⟨#[]⟩, .string ⟨#[]⟩, .int .u64 0, .int .i64 0, .int .i64 0, .int .i64 0, .string ⟨#[]⟩, .int .i64 0, .int .i64 0, .int .i64 0, .int .u32 0] rfl rfl HA2.out).alloc _
    refine bodyPost_ret (results_cell2 rfl _ _ w.heap.size 34 #[.int .i64 0, .int .u64 0, .int .i64 0, .string ⟨#[]⟩, .string ⟨#[]⟩, .int .u64 0, .int .i64 0, .int .i64 0, .int .i64 0, .string ⟨#[]⟩, .int .i64 0, .int .i64 0, .int .i64 0, .int .u32 0] (0, 0) _ rfl HF.out Try.underlying34 rfl (by kernel_rfl)) rfl ?_
    exact ⟨by rw [HOV.out]; rfl, ((setL_keepO (B := w.heap.size) (O := w.heap.size) [.int .i64 0, .int .u64 0, .int .i64 0, .string ⟨#[]⟩, .string ⟨#[]⟩, .int .u64 0, .int .i64 0, .int .i64 0, .int .i64 0, .string ⟨#[]⟩, .int .i64 0, .int .i64 0, .int .i64 0, .int .u32 0] _ w 0 (Nat.le_refl _) (KeepO.of_below HB2.out)).trans (KeepO.alloc _ _ _)).below (Nat.le_refl _) (Nat.le_refl _)⟩
  · by_cases hc : code = 0
    · subst hc
      have HOV := hd (HV.out (HOY.out rfl rfl))
      clear HQ HV HOY HON
      simp only [List.length_nil] at x0
      have HF3 : Hid (Blk (w2.alloc (.cells #[.int .i64 k, .int .u64 (rl : Int), .int .i64 rk, .string rkey, .string rval, .int .u64 (pl : Int), .int .i64 pk, .int .i64 pa, .int .i64 pn, .string pkey, .int .i64 ec, .int .i64 eb, .int .i64 ef, .int .u32 (es : Int)] 34)) w2.heap.size 34 [.int .i64 k, .int .u64 (rl : Int), .int .i64 rk, .string rkey, .string rval, .int .u64 (pl : Int), .int .i64 pk, .int .i64 pa, .int .i64 pn, .string pkey, .int .i64 ec, .int .i64 eb, .int .i64 ef, .int .u32 (es : Int)]) := Blk.new w2 _ _
      go_wp2_with fail
      refine Calls.mono (HRF.out _) ?_
      rintro e w4 ⟨rfl, hb⟩
      have HF4 := hd (HF3.out.keep hb)
      have HA4 := hd (HA3.out.keep hb)
      have HB4 : Hid (Below w.heap.size w w4) := HB3.out.trans (hb.mono HB3.out.size)
      clear hb HF3 HA3 HA2 HB3 HB2 HRF
      have a0 := HA4.out.cell 0 _ rfl
      have az0 := HA4.out.frozen 0
      have a1 := HA4.out.cell 1 _ rfl
      have az1 := HA4.out.frozen 1
      have a2 := HA4.out.cell 2 _ rfl
      have az2 := HA4.out.frozen 2
      have a3 := HA4.out.cell 3 _ rfl
      have az3 := HA4.out.frozen 3
      have a4 := HA4.out.cell 4 _ rfl
      have az4 := HA4.out.frozen 4
      have a5 := HA4.out.cell 5 _ rfl
      have az5 := HA4.out.frozen 5
      have a6 := HA4.out.cell 6 _ rfl
      have az6 := HA4.out.frozen 6
      have a7 := HA4.out.cell 7 _ rfl
      have az7 := HA4.out.frozen 7
      have a8 := HA4.out.cell 8 _ rfl
      have az8 := HA4.out.frozen 8
      have a9 := HA4.out.cell 9 _ rfl
      have az9 := HA4.out.frozen 9
      have a10 := HA4.out.cell 10 _ rfl
      have az10 := HA4.out.frozen 10
      have a11 := HA4.out.cell 11 _ rfl
      have az11 := HA4.out.frozen 11
      have a12 := HA4.out.cell 12 _ rfl
      have az12 := HA4.out.frozen 12
      have a13 := HA4.out.cell 13 _ rfl
      have az13 := HA4.out.frozen 13
      have f0 := HF4.out.cell 0 _ rfl
      have f1 := HF4.out.cell 1 _ rfl
      have f2 := HF4.out.cell 2 _ rfl
      have f3 := HF4.out.cell 3 _ rfl
      have f4 := HF4.out.cell 4 _ rfl
      have f5 := HF4.out.cell 5 _ rfl
      have f6 := HF4.out.cell 6 _ rfl
      have f7 := HF4.out.cell 7 _ rfl
      have f8 := HF4.out.cell 8 _ rfl
      have f9 := HF4.out.cell 9 _ rfl
      have f10 := HF4.out.cell 10 _ rfl
      have f11 := HF4.out.cell 11 _ rfl
      have f12 := HF4.out.cell 12 _ rfl
      have f13 := HF4.out.cell 13 _ rfl
      go_wp2_with fail
      have HF : Hid (Blk (setL w4 w.heap.size 0 [.int .i64 k, .int .u64 (rl : Int), .int .i64 rk, .string rkey, .string rval, .int .u64 (pl : Int), .int .i64 pk, .int .i64 pa, .int .i64 pn, .string pkey, .int .i64 ec, .int .i64 eb, .int .i64 ef, .int .u32 (es : Int)]) w.heap.size 34 [.int .i64 k, .int .u64 (rl : Int), .int .i64 rk, .string rkey, .string rval, .int .u64 (pl : Int), .int .i64 pk, .int .i64 pa, .int .i64 pn, .string pkey, .int .i64 ec, .int .i64 eb, .int .i64 ef, .int .u32 (es : Int)]) := setL_blk [.int .i64 k, .int .u64 (rl : Int), .int .i64 rk, .string rkey, .string rval, .int .u64 (pl : Int), .int .i64 pk, .int .i64 pa, .int .i64 pn, .string pkey, .int .i64 ec, .int .i64 eb, .int .i64 ef, .int .u32 (es : Int)] _ 0 [] [.int .i64 0, .int .u64 0, .int .i64 0, .string ⟨#[]⟩, .string ⟨#[]⟩, .int .u64 0, .int .i64 0, .int .i64 0, .int .i64 0, .string ⟨#[]⟩, .int .i64 0, .int .i64 0, .int .i64 0, .int .u32 0] rfl rfl HA4.out
      refine bodyPost_ret (results_cell2 rfl _ _ w.heap.size 34 #[.int .i64 k, .int .u64 (rl : Int), .int .i64 rk, .string rkey, .string rval, .int .u64 (pl : Int), .int .i64 pk, .int .i64 pa, .int .i64 pn, .string pkey, .int .i64 ec, .int .i64 eb, .int .i64 ef, .int .u32 (es : Int)] (0, 0) _ rfl HF.out Try.underlying34 rfl (by kernel_rfl)) rfl ?_
      exact ⟨by rw [HOV.out]; rfl, (setL_keepO (B := w.heap.size) (O := w.heap.size) [.int .i64 k, .int .u64 (rl : Int), .int .i64 rk, .string rkey, .string rval, .int .u64 (pl : Int), .int .i64 pk, .int .i64 pa, .int .i64 pn, .string pkey, .int .i64 ec, .int .i64 eb, .int .i64 ef, .int .u32 (es : Int)] _ w 0 (Nat.le_refl _) (KeepO.of_below HB4.out)).below (Nat.le_refl _) (Nat.le_refl _)⟩
    · have HOV := hd (opV_no (HON.out (fun q => hc q.2.2)))
      have hq : (((code : Nat) : Int) != 0) = true := by simp; omega
      clear HQ HV HOY HON
      simp only [List.length_nil] at x0
      go_wp2_with fail
      refine Calls.mono (HRF.out _) ?_
      rintro e w4 ⟨rfl, hb⟩
      have HA4 := hd (HA3.out.keep hb)
      have HB4 : Hid (Below w.heap.size w w4) := HB3.out.trans (hb.mono HB3.out.size)
      clear hb HA3 HA2 HB3 HB2 HRF
      have a0 := HA4.out.cell 0 _ rfl
      have az0 := HA4.out.frozen 0
      have a1 := HA4.out.cell 1 _ rfl
      have az1 := HA4.out.frozen 1
      have a2 := HA4.out.cell 2 _ rfl
      have az2 := HA4.out.frozen 2
      have a3 := HA4.out.cell 3 _ rfl
      have az3 := HA4.out.frozen 3
      have a4 := HA4.out.cell 4 _ rfl
      have az4 := HA4.out.frozen 4
      have a5 := HA4.out.cell 5 _ rfl
      have az5 := HA4.out.frozen 5
      have a6 := HA4.out.cell 6 _ rfl
      have az6 := HA4.out.frozen 6
      have a7 := HA4.out.cell 7 _ rfl
      have az7 := HA4.out.frozen 7
      have a8 := HA4.out.cell 8 _ rfl
      have az8 := HA4.out.frozen 8
      have a9 := HA4.out.cell 9 _ rfl
      have az9 := HA4.out.frozen 9
      have a10 := HA4.out.cell 10 _ rfl
      have az10 := HA4.out.frozen 10
      have a11 := HA4.out.cell 11 _ rfl
      have az11 := HA4.out.frozen 11
      have a12 := HA4.out.cell 12 _ rfl
      have az12 := HA4.out.frozen 12
      have a13 := HA4.out.cell 13 _ rfl
      have az13 := HA4.out.frozen 13
      go_wp2_with fail
      have HF : Hid (Blk (setL w4 w.heap.size 0 [.int .i64 0, .int .u64 0, .int .i64 0, .string ⟨#[]⟩, .string ⟨#[]⟩, .int .u64 0, .int .i64 0, .int .i64 0, .int .i64 0, .string ⟨#[]⟩, .int .i64 0, .int .i64 0, .int .i64 0, .int .u32 0]) w.heap.size 34 [.int .i64 0, .int .u64 0, .int .i64 0, .string ⟨#[]⟩, .string ⟨#[]⟩, .int .u64 0, .int .i64 0, .int .i64 0, .int .i64 0, .string ⟨#[]⟩, .int .i64 0, .int .i64 0, .int .i64 0, .int .u32 0]) := setL_blk [.int .i64 0, .int .u64 0, .int .i64 0, .string ⟨#[]⟩, .string ⟨#[]⟩, .int .u64 0, .int .i64 0, .int .i64 0, .int .i64 0, .string ⟨#[]⟩, .int .i64 0, .int .i64 0, .int .i64 0, .int .u32 0] _ 0 [] [.int .i64 0, .int .u64 0, .int .i64 0, .string ⟨#[]⟩, .string ⟨#[]⟩, .int .u64 0, .int .i64 0, .int .i64 0, .int .i64 0, .string ⟨#[]⟩, .int .i64 0, .int .i64 0, .int .i64 0, .int .u32 0] rfl rfl HA4.out
      refine bodyPost_ret (results_cell2 rfl _ _ w.heap.size 34 #[.int .i64 0, .int .u64 0, .int .i64 0, .string ⟨#[]⟩, .string ⟨#[]⟩, .int .u64 0, .int .i64 0, .int .i64 0, .int .i64 0, .string ⟨#[]⟩, .int .i64 0, .int .i64 0, .int .i64 0, .int .u32 0] (0, 0) _ rfl HF.out Try.underlying34 rfl (by kernel_rfl)) rfl ?_
      exact ⟨by rw [HOV.out]; rfl, (setL_keepO (B := w.heap.size) (O := w.heap.size) [.int .i64 0, .int .u64 0, .int .i64 0, .string ⟨#[]⟩, .string ⟨#[]⟩, .int .u64 0, .int .i64 0, .int .i64 0, .int .i64 0, .string ⟨#[]⟩, .int .i64 0, .int .i64 0, .int .i64 0, .int .u32 0] _ w 0 (Nat.le_refl _) (KeepO.of_below HB4.out)).below (Nat.le_refl _) (Nat.le_refl _)⟩
theorem openF_is (v : Value) (l : List Nat) (w : World) (hI : IsB w v l) (hm : l.length ≤ 281474976710656) :
    Calls Try.prog 49 #[v] w fun e w' => e = .returned (opV l) ∧ Below w.heap.size w w' := by
  by_cases h : (badB 0 l).1 = 0
  · exact open_fine v l w hI hm h
  · exact open_bad v l w hI hm h
end Vt
end Go.Proofs.Ytnjhbidialngmaa
