/-
  scan.Next: the first frame from a place on.
  THE WALK OF frame.Body: a Delete, a Hint, a Foot; so: of every frame that may be.
  THE LAW'S works(): junk and two frames, as the chapter fixes it: it answers true.
-/
import Derived.Test.YtlddogigbodilaaMap
import Derived.Test.YtlddogigbodilaaMao
import Derived.Test.YtlddogigbodilaaMaq
import Derived.Test.YtlddogigbodilaaMar
namespace Go.Proofs.Ytlddogigbodilaa
open Go.RowKit Go.Shelf
namespace Vt
attribute [local go_sem] Oper.semAt_some
/-- the first frame from a place on: where, and how long; -1, 0: there is none -/
noncomputable def fst (l : List Nat) (z : Int) : Int × Int := match locs (frm l.length z) (l.drop (frm l.length z)) with
  | [] => (-1, 0)
  | x :: _ => ((x.1 : Int), (x.2.1 : Int))
theorem fst_nil {l : List Nat} {z : Int} (h : locs (frm l.length z) (l.drop (frm l.length z)) = []) : fst l z = (-1, 0) := by unfold fst; rw [h]
theorem fst_cons {l : List Nat} {z : Int} {x : Lc} (h : [x] <+: locs (frm l.length z) (l.drop (frm l.length z))) : fst l z = ((x.1 : Int), (x.2.1 : Int)) := by
  obtain ⟨t, ht⟩ := h
  unfold fst; rw [← ht]; rfl
set_option maxRecDepth 100000 in
set_option maxHeartbeats 2000000 in
theorem snext_is (v : Value) (l : List Nat) (z : Int) (w : World) (hI : IsB w v l) :
    Calls Try.prog 21 #[v, .int .i64 z] w fun e w' => e = .returned (.tuple #[.int .i64 (fst l z).1, .int .i64 (fst l z).2]) ∧ Below w.heap.size w w' := by
  obtain ⟨a, c, rfl⟩ := hI.shape
  have HI := hd hI
  clear hI
  refine (callsIn_wide (n := 8)).1 ?_
  refine callsIn_of_wp_marks Try.func21 rfl trivial (Code.wpIn_mono bodyPostF_M ?_) rfl
  simp only [Try.ntmps21, List.size_toArray, List.length_cons, List.length_nil, Nat.reduceAdd, Nat.reduceSub, Array.replicate_succ, Array.replicate_zero, List.push_toArray, List.append_toArray, List.nil_append, List.cons_append]
  gi_wp2
  refine ⟨trivial, CallsIn.mono (callsIn_wide.2 (located_is _ _ _ _ _)) ?_⟩
  rintro e w4 ⟨rfl, hw4⟩
  obtain ⟨N, hN⟩ : ∃ N, N = w.heap.size := ⟨_, rfl⟩
  have hs4 : w4.heap.size = N + 4 := by rw [hw4, hN]; simp
  have hB4 : Hid (Below w.heap.size w w4) := by rw [hw4]; exact ((((Below.refl _ _).alloc (Nat.le_refl _) _).alloc (by simp) _).alloc (by simp; omega) _).alloc (by simp; omega) _
  have BX4 : Hid (Boxed w4 N 3 (.int .i64 0)) := by rw [hw4, hN]; exact (((Boxed.new w 3 _).alloc _).alloc _).alloc _
  have BE4 : Hid (Boxed w4 (N + 1) 3 (.int .i64 0)) := by
    have := Boxed.new (w.alloc (.cells #[.int .i64 0] 3)) 3 (.int .i64 0)
    rw [World.size_alloc, ← hN] at this
    rw [hw4]; exact (this.alloc _).alloc _
  have BB4 : Hid (Boxed w4 (N + 2) 22 (.slice a l.length c)) := by
    have := Boxed.new ((w.alloc (.cells #[.int .i64 0] 3)).alloc (.cells #[.int .i64 0] 3)) 22 (.slice a l.length c)
    rw [World.size_alloc, World.size_alloc, ← hN] at this
    rw [hw4]; exact this.alloc _
  have BF4 : Hid (Boxed w4 (N + 3) 3 (.int .i64 z)) := by
    have := Boxed.new (((w.alloc (.cells #[.int .i64 0] 3)).alloc (.cells #[.int .i64 0] 3)).alloc (.cells #[.slice a l.length c] 22)) 3 (.int .i64 z)
    rw [World.size_alloc, World.size_alloc, World.size_alloc, ← hN] at this
    rw [hw4]; exact this
  simp only [World.size_alloc]
  rw [← hN] at hB4 ⊢
  have HN := hd hN
  have HIL : Hid (∀ b off c', l ≠ [] → Value.slice a l.length c = .slice (some ⟨b, off, none⟩) l.length c' → b < N) := fun b off c' hne e => by
    obtain ⟨_, _, ⟨rfl, _⟩ | ⟨nb, no, nc, e1, _, _, hnb, hnr⟩⟩ := HI.out
    · exact absurd rfl hne
    · rw [e] at e1; injection e1 with e1 e2 e3; injection e1 with e1; injection e1 with e1 e4; omega
  clear hw4 hN
  have hseq := located_stops 7 (by omega) l.length (SE N) (N + 1 + 1) (N + 1 + 1 + 1) (.slice a l.length c) z l w4 (Nat.le_refl _) (Or.inr rfl) (by omega) (by omega) (se_lt (by omega)) BB4.out.cell BF4.out.cell (HI.out.below (HN.out ▸ hB4.out)) (fun b off c' hne e => Or.inl (by have := HIL.out b off c' hne e; omega))
  have HSQ := hd hseq
  clear hseq
  gi_wp2
  rename_i K hK
  have HK := hd hK
  clear hK
  refine wpIn_rangeFunc_ownH rfl (by omega) (gf := 76) (lb := #[.pointer (some ⟨N + 1 + 1, 0, none⟩), .pointer (some ⟨N + 1 + 1 + 1, 0, none⟩)]) rfl trivial (enters_of Try.func76 (by kernel_rfl) rfl) HSQ.out keepS_t (keepS_b (se_lt (by omega))) (Below.refl _ _) (fun _ => rfl)
    (fun (pre : List (PL l.length)) (W : World) => pre = [] ∧ (Boxed W N 3 (.int .i64 0) ∧ Boxed W (N + 1) 3 (.int .i64 0)) ∧ KeepS (SE N) w4 W)
    (fun cd (pre : List (PL l.length)) (W : World) => cd = .ret ∧ ∃ x : PL l.length, pre = [x] ∧ (Boxed W N 3 (.int .i64 (x.1.1 : Int)) ∧ Boxed W (N + 1) 3 (.int .i64 (x.1.2.1 : Int))) ∧ KeepS (SE N) w4 W)
    (fun s W W' row hs hg hr => ⟨hs.1, ⟨Boxed.keptO hs.2.1.1 hg (fun r e => (hr r e).2), Boxed.keptO hs.2.1.2 hg (fun r e => (hr r e).2)⟩, hs.2.2.grown hg (se_lt (by have := hs.2.2.size; omega)) (fun g e h => by have := (hr g e).1; unfold SE at h; omega)⟩)
    (fun cd s W W' row hs hg hr => by
      obtain ⟨h0, x, h1, h2, h3⟩ := hs
      exact ⟨h0, x, h1, ⟨Boxed.keptO h2.1 hg (fun r e => (hr r e).2), Boxed.keptO h2.2 hg (fun r e => (hr r e).2)⟩, h3.grown hg (se_lt (by have := h3.size; omega)) (fun g e h => by have := (hr g e).1; unfold SE at h; omega)⟩)
    ⟨rfl, ⟨BX4.out, BE4.out⟩, KeepS.refl _⟩
    (fun (x : PL l.length) a' W => ∃ Bx, N + 4 ≤ Bx ∧ Blk W Bx 53 (lcv x.1) ∧ a' = { tmps := #[Value.slice a l.length c, .int .i64 z, undef, undef, Value.pointer (some { block := N, off := 0 }), Value.pointer (some { block := N + 1, off := 0 }), Value.pointer (some { block := Bx, off := 0 }), Value.slice a l.length c, .int .i64 z, Value.func (Fn.func 76) #[] #[Value.pointer (some { block := N + 1 + 1, off := 0 }), Value.pointer (some { block := N + 1 + 1 + 1, off := 0 })], .agg (lcv x.1).toArray, undef, undef, undef, undef], defers := [] })
    (fun x a' _ W W' row hs hg hr => by
      obtain ⟨Bx, h1, h2, h3⟩ := hs
      refine ⟨Bx, h1, h2.grown hg (fun e => ?_), h3⟩
      obtain ⟨o, ho, hc⟩ := (hr Bx e.symm).2
      have h2' : W.heap[Bx]? = _ := h2
      rw [h2'] at ho
      injection ho with ho
      rw [← ho] at hc
      cases hc)
    ?assign ?body ?done ?stop
  case assign =>
    rintro lk pre ⟨⟨x1, x2, k, ⟨rl, rk, rkey, rval⟩, ⟨pl, pk, pa, pn, pkey⟩, ⟨ec, eb, ef, es⟩⟩, hx⟩ W K ⟨h1, h2, h3⟩ hK
    simp only [encl, lcv]
    gi_wp2
    have hsW := h3.size
    exact hK _ _ ((KeepsOthers.alloc _ _).from _) ((KeepS.refl _).alloc (se_lt (by omega)) _) ⟨h1, ⟨h2.1.alloc _, h2.2.alloc _⟩, h3.alloc (se_lt (by omega)) _⟩ ⟨W.heap.size, by omega, Blk.new W 53 (lcv (x1, x2, ⟨k, ⟨rl, rk, rkey, rval⟩, ⟨pl, pk, pa, pn, pkey⟩, ⟨ec, eb, ef, es⟩⟩)), rfl⟩
  case body =>
    rintro lk pre ⟨⟨x1, x2, f⟩, hx⟩ a' W hlk _ ⟨rfl, ⟨b1, b2⟩, hS⟩ ⟨Bx, hBx, hblk, rfl⟩ hlen
    have hmx : Try.prog.follows .mixedOrders = true := by kernel_rfl
    have c14 : W.cell? ⟨Bx, 14, none⟩ = some (.int .i64 (x1 : Int)) := hblk.cell 14 _ rfl
    have c15 : W.cell? ⟨Bx, 15, none⟩ = some (.int .i64 (x2 : Int)) := hblk.cell 15 _ rfl
    have q1 := b1.cell
    have q2 := b1.frozen
    have q3 := b2.cell
    have q4 := b2.frozen
    have n1 : ¬ N = Bx := by omega
    have n2 : ¬ Bx = N := by omega
    have n3 : ¬ N + 1 = Bx := by omega
    have n4 : ¬ Bx = N + 1 := by omega
    have HB1 := hd b1
    have HB2 := hd b2
    have HS := hd hS
    have HA : Hid (KeepsOthers W ((W.setCell ⟨N, 0, none⟩ (.int .i64 (x1 : Int))).setCell ⟨N + 1, 0, none⟩ (.int .i64 (x2 : Int)))) := (KeepsOthers.setCell _ _ _).trans (KeepsOthers.setCell _ _ _)
    have HBa : Hid (Boxed ((W.setCell ⟨N, 0, none⟩ (.int .i64 (x1 : Int))).setCell ⟨N + 1, 0, none⟩ (.int .i64 (x2 : Int))) N 3 (.int .i64 (x1 : Int))) := (b1.set _).other (by omega) _
    have HBb : Hid (Boxed ((W.setCell ⟨N, 0, none⟩ (.int .i64 (x1 : Int))).setCell ⟨N + 1, 0, none⟩ (.int .i64 (x2 : Int))) (N + 1) 3 (.int .i64 (x2 : Int))) := (b2.other (by omega) _).set _
    have HSs : Hid (KeepS (SE N) w4 ((W.setCell ⟨N, 0, none⟩ (.int .i64 (x1 : Int))).setCell ⟨N + 1, 0, none⟩ (.int .i64 (x2 : Int)))) := (hS.setCell (p := ⟨N, 0, none⟩) (fun h => by have h' : N < N ∨ N = N + 2 := h; omega) _).setCell (p := ⟨N + 1, 0, none⟩) (fun h => by have h' : N + 1 < N ∨ N + 1 = N + 2 := h; omega) _
    clear b1 b2 hS hblk
    gi_wp2
    gi_region_with_o (fail)
    all_goals gi_wp2
    all_goals exact ⟨(HA.out.trans (KeepsOthers.drew _)).from _, rfl, ⟨(x1, x2, f), hx⟩, rfl, ⟨HBa.out, HBb.out⟩, HSs.out.drew⟩
  case done =>
    rintro D ys V hD hys ⟨rfl, ⟨b1, b2⟩, hS⟩ hKD
    have hf := fst_nil hys.symm
    gi_wp2
    refine HK.out _ _ ?_
    clear HK
    have q1 := b1.cell
    have q2 := b1.frozen
    have q3 := b2.cell
    have q4 := b2.frozen
    have HF := hd hf
    have HB1 := hd b1
    have HB2 := hd b2
    have HS := hd hS
    have HKD := hd hKD
    clear b1 b2 hS hf hys hKD
    gi_wp2
    have h1 := ((KeepsOthers.setCell V ⟨N, 0, none⟩ (.int .i64 (-1))).trans (KeepsOthers.setCell _ ⟨N + 1, 0, none⟩ (.int .i64 0))).same D _ HKD.out rfl
    refine ⟨by simp, .inl ⟨_, _, rfl, run_takeDeferred h1, ?_⟩⟩
    have c1 := cell_kept (Boxed.cell ((HB1.out.set (.int .i64 (-1))).other (B' := N + 1) (by omega) (.int .i64 0))) (grownBy_putObj' _ D (.deferred none)) (fun r e => by cases e; exact ⟨_, h1, rfl⟩)
    have c2 := cell_kept (Boxed.cell ((HB2.out.other (B' := N) (by omega) (.int .i64 (-1))).set (.int .i64 0))) (grownBy_putObj' _ D (.deferred none)) (fun r e => by cases e; exact ⟨_, h1, rfl⟩)
    have hN' := HN.out
    refine ⟨.tuple #[.int .i64 (-1), .int .i64 0], ?_, by rw [HF.out], ?_⟩
    · simp [results, Try.f21, go_sem, c1, c2]
    · rw [← hN']
      have b1 : Below N w V := hB4.out.trans (HS.out.below (fun g hg => Or.inl hg))
      exact ((b1.setCell (p := ⟨N, 0, none⟩) (Nat.le_refl _) _).setCell (p := ⟨N + 1, 0, none⟩) (by show N ≤ N + 1; omega) _).trans (belowK_b (w := w) (by omega) _ D _ _ (by have := hB4.out.size; omega) h1 rfl rfl)
  case stop =>
    rintro D c2 pre W hD hp ⟨rfl, x, rfl, ⟨b1, b2⟩, hS⟩ hKD
    have hf := fst_cons (x := x.1) hp
    have hN' := HN.out
    gi_wp2
    refine ⟨by simp, .inl ⟨_, _, rfl, run_takeDeferred hKD, ?_⟩⟩
    have c1 := cell_kept b1.cell (grownBy_putObj' W D (.deferred none)) (fun r e => by cases e; exact ⟨_, hKD, rfl⟩)
    have c2 := cell_kept b2.cell (grownBy_putObj' W D (.deferred none)) (fun r e => by cases e; exact ⟨_, hKD, rfl⟩)
    refine ⟨.tuple #[.int .i64 (x.1.1 : Int), .int .i64 (x.1.2.1 : Int)], ?_, by rw [hf], ?_⟩
    · simp [results, Try.f21, go_sem, c1, c2]
    · rw [← hN']
      have b1 : Below N w W := hB4.out.trans (hS.below (fun g hg => Or.inl hg))
      exact b1.trans (belowK_b (w := w) (by omega) _ D _ _ (by have := hB4.out.size; omega) hKD rfl rfl)
end Vt
end Go.Proofs.Ytlddogigbodilaa
namespace Go.Proofs.Ytlddogigbodilaa
open Go.RowKit
namespace Vt
theorem Ps.below {w w' : World} {b off : Nat} {ls : List (List Nat)} (h : Ps w b off ls) (hb : b < w.heap.size) (hB : Below w.heap.size w w') : Ps w' b off ls := by
  intro i hi
  obtain ⟨v, hv, hI⟩ := h i hi
  exact ⟨v, by rw [hB.cell hb]; exact hv, hI.below hB⟩
theorem one_isN {w : World} {N x : Nat} (hx : x < 18446744073709551616) (hN : N < w.heap.size) (hc : w.cell? ⟨N, 0, none⟩ = some (.int .u64 (x : Int))) : IsN w (.slice (some ⟨N, 0, none⟩) 1 1) [x] := by
  refine ⟨by intro y hy; simp at hy; omega, by simp [maxLen], .inr ⟨N, 0, 1, rfl, by simp, by simp [maxLen], hN, ?_⟩⟩
  intro i hi
  match i, hi with
  | 0, _ => exact hc
set_option maxRecDepth 100000 in
set_option maxHeartbeats 1000000 in
theorem body_2 (lsn : Nat) (key : ByteArray) (wA : World) (hl : lsn < 18446744073709551616) (h : rf (ofR ⟨lsn, 2, key, ByteArray.empty⟩) = 0) :
    Calls Try.prog 83 #[.agg (fv (ofR ⟨lsn, 2, key, ByteArray.empty⟩))] wA fun e w' => ∃ u, e = .returned (.tuple #[u, .int .i64 0]) ∧ JB w' wA.heap.size u (bd (ofR ⟨lsn, 2, key, ByteArray.empty⟩)) ∧ Below wA.heap.size wA w' := by
  have HC := hd (refusal_is (ofR ⟨lsn, 2, key, ByteArray.empty⟩))
  obtain ⟨hb1, hb2⟩ := bd_len (f := (ofR ⟨lsn, 2, key, ByteArray.empty⟩)) ⟨hl, by show 0 < 18446744073709551616; omega, by show 0 < 4294967296; omega⟩ h
  have hk1 : key.size ≤ 64 := by
    have h' := h
    unfold rf at h'
    rw [if_pos (.inr rfl)] at h'
    exact (rfR_ok h').2.2.1.2
  have HBD : Hid (bd (ofR ⟨lsn, 2, key, ByteArray.empty⟩) = [[2], enc [lsn], bl key].flatten) := by
    show bd _ = _
    unfold bd bp ofR
    rw [if_neg (by simp), if_pos rfl]; rfl
  rw [HBD.out] at hb1 hb2 ⊢
  rw [h] at HC
  clear h HBD
  have HBB := hd (show 0 < [[2], enc [lsn], bl key].flatten.length ∧ [[2], enc [lsn], bl key].flatten.length ≤ 2200 from ⟨hb2, hb1⟩)
  clear hb1 hb2
  simp only [fv, ofR, zp, ze] at HC ⊢
  go_enter Try.func83, Try.ntmps83
  go_wp2_with fail
  refine Calls.mono (HC.out _) ?_
  rintro e w1 ⟨rfl, hb⟩
  have HX : Hid (Blk w1 wA.heap.size 41 [.int .i64 2, .int .u64 (lsn : Int), .int .i64 2, .string key, .string ByteArray.empty, .int .u64 0, .int .i64 0, .int .i64 0, .int .i64 0, .string ByteArray.empty, .int .i64 0, .int .i64 0, .int .i64 0, .int .u32 0]) := (Blk.new wA _ _).keep hb
  have HB := hd (below_alloc1 hb)
  have hs1 := hb.size
  rw [World.size_alloc] at hs1
  clear hb HC
  have c0 := HX.out.cell 0 _ rfl
  have c1 := HX.out.cell 1 _ rfl
  have c2 := HX.out.cell 2 _ rfl
  have c3 := HX.out.cell 3 _ rfl
  have c4 := HX.out.cell 4 _ rfl
  clear HX
  have n1 : wA.heap.size < w1.heap.size := by omega
  have n2 : ¬ wA.heap.size = w1.heap.size := by omega
  have n3 : ¬ w1.heap.size = wA.heap.size := by omega
  have n4 : ¬ wA.heap.size = w1.heap.size + 1 := by omega
  have n5 : ¬ w1.heap.size + 1 = wA.heap.size := by omega
  have n6 : wA.heap.size < w1.heap.size + 1 := by omega
  go_wp2_with fail
  obtain ⟨X, hX⟩ : ∃ X, X = (w1.alloc (.cells #[.int .u8 2] 5)).alloc (.cells #[.int .u64 (lsn : Int), .int .i64 2, .string key, .string ByteArray.empty] 32) := ⟨_, rfl⟩
  have HXS : Hid (X.heap.size = w1.heap.size + 1 + 1) := by show X.heap.size = _; rw [hX]; simp
  have HXB : Hid (Below wA.heap.size wA X) := by rw [hX]; exact (HB.out.alloc (by omega) _).alloc (by simp; omega) _
  have HK : Hid (IsB X (.slice (some ⟨w1.heap.size, 0, none⟩) 1 1) [2]) := by
    rw [hX]
    exact (lit_isK_at .u8 256 w1 #[.int .u8 2] 5 [2] 1 _ rfl rfl rfl (by simp) (by simp [maxLen])).below ((Below.refl _ _).alloc (Nat.le_refl _) _)
  have HR : Hid (Blk X (w1.heap.size + 1) 32 [.int .u64 (lsn : Int), .int .i64 2, .string key, .string ByteArray.empty]) := by
    rw [hX]
    have := Blk.new (w1.alloc (.cells #[.int .u8 2] 5)) 32 [.int .u64 (lsn : Int), .int .i64 2, .string key, .string ByteArray.empty]
    rw [World.size_alloc] at this
    exact this
  rw [← hX]
  clear c0 c1 c2 c3 c4 hX
  refine region_inv (fun i v w => match i with
    | 0 => v = .slice (some ⟨w1.heap.size, 0, none⟩) 1 1
    | 1 => v = .pointer (some ⟨w1.heap.size + 1, 0, none⟩)
    | 2 => v = .int .u64 (lsn : Int)
    | 3 => ∃ N, v = .slice (some ⟨N, 0, none⟩) 1 1 ∧ N < w.heap.size ∧ w.cell? ⟨N, 0, none⟩ = some (.int .u64 (lsn : Int))
    | 4 => ∃ g, v = .slice (some ⟨g, 0, none⟩) (enc [lsn]).length (enc [lsn]).length ∧ IsB w v (enc [lsn])
    | 5 => v = .pointer (some ⟨w1.heap.size + 1, 2, none⟩)
    | 6 => v = .string key
    | 7 => ∃ g c, v = .slice (some ⟨g, 0, none⟩) key.size c ∧ IsB w v (bl key)
    | 8 => ∃ N, v = .slice (some ⟨N, 0, none⟩) 3 3 ∧ N < w.heap.size ∧ Ps w N 0 [[2], enc [lsn], bl key]
    | 9 => JB w wA.heap.size v [[2], enc [lsn], bl key].flatten
    | 10 => JB w wA.heap.size v [[2], enc [lsn], bl key].flatten
    | _ => v = .int .i64 0) (fun w => Below X.heap.size X w) (by kernel_rfl) (by kernel_rfl) (by kernel_rfl) (Below.drew (Below.refl _ _)) ?_ ?_ ?_
  · intro i v w w' _ _ hb hG
    match i, hG with
    | 0, h => exact h
    | 1, h => exact h
    | 2, h => exact h
    | 3, ⟨N, h1, h2, h3⟩ => exact ⟨N, h1, Nat.lt_of_lt_of_le h2 hb.size, by rw [hb.cell h2]; exact h3⟩
    | 4, ⟨g, h1, h2⟩ => exact ⟨g, h1, h2.below hb⟩
    | 5, h => exact h
    | 6, h => exact h
    | 7, ⟨g, c, h1, h2⟩ => exact ⟨g, c, h1, h2.below hb⟩
    | 8, ⟨N, h1, h2, h3⟩ => exact ⟨N, h1, Nat.lt_of_lt_of_le h2 hb.size, h3.below h2 hb⟩
    | 9, h => exact JB.keepAll h hb
    | 10, h => exact JB.keepAll h hb
    | n + 11, h => exact h
  · intro i o ho a w hW hdf hsz hout haf
    have e5 : a.tmps.getD 5 undef = .slice (some ⟨w1.heap.size, 0, none⟩) 1 1 := hout 5 (notDst_spec (by kernel_rfl))
    have e8 : a.tmps.getD 8 undef = .pointer (some ⟨w1.heap.size + 1, 0, none⟩) := hout 8 (notDst_spec (by kernel_rfl))
    have hsz2 : a.tmps.size = 110 := hsz
    clear hout hsz hdf
    match i, ho, haf with
    | 0, ho, haf =>
      obtain rfl := Option.some.inj ho
      refine step_good _ (wanted_none rfl) ?_
      intro K hK
      show K (a.put (some 50) (a.eval (.tmp 5))) w
      rw [show a.eval (.tmp 5) = .slice (some ⟨w1.heap.size, 0, none⟩) 1 1 from e5]
      exact hK _ _ ⟨Below.refl _ _, hW, rfl⟩
    | 1, ho, haf =>
      obtain rfl := Option.some.inj ho
      have q := getq e8
      refine step_good _ (wanted_none rfl) ?_
      clear haf ho hsz2
      intro K hK
      simp only [List.getElem_toArray, List.getElem_cons_succ, List.getElem_cons_zero] at hK ⊢
      go_simp
      exact hK _ _ ⟨Below.refl _ _, hW, rfl⟩
    | 2, ho, haf =>
      obtain rfl := Option.some.inj ho
      have g1 := getq (show a.tmps.getD 51 undef = .pointer (some ⟨w1.heap.size + 1, 0, none⟩) from haf ⟨1, .data⟩ (by simp) rfl)
      have hc := ((HR.out.keep hW).cell 0 _ rfl : w.cell? ⟨w1.heap.size + 1, 0, none⟩ = some (.int .u64 (lsn : Int)))
      refine step_good _ (wanted_none rfl) ?_
      clear haf ho hsz2
      intro K hK
      simp only [List.getElem_toArray, List.getElem_cons_succ, List.getElem_cons_zero] at hK ⊢
      go_simp
      exact hK _ _ ⟨Below.refl _ _, hW, rfl⟩
    | 3, ho, haf =>
      obtain rfl := Option.some.inj ho
      have g2 := getq (show a.tmps.getD 52 undef = .int .u64 (lsn : Int) from haf ⟨2, .data⟩ (by simp) rfl)
      refine step_good _ (wanted_none rfl) ?_
      clear haf ho hsz2
      intro K hK
      simp only [List.getElem_toArray, List.getElem_cons_succ, List.getElem_cons_zero] at hK ⊢
      go_simp
      exact hK _ _ ⟨(Below.refl _ _).alloc (Nat.le_refl _) _, hW.alloc hW.size _, _, rfl, by simp, by go_simp⟩
    | 4, ho, haf =>
      obtain rfl := Option.some.inj ho
      obtain ⟨M, hv, hM, hcM⟩ := haf ⟨3, .data⟩ (by simp) rfl
      have g3 := getq (show a.tmps.getD 53 undef = .slice (some ⟨M, 0, none⟩) 1 1 from hv)
      have HCE := hd (encode_is _ [lsn] w (one_isN hl hM hcM) (by simp))
      refine step_good _ (wanted_none rfl) ?_
      clear haf ho hsz2
      intro K hK
      simp only [List.getElem_toArray, List.getElem_cons_succ, List.getElem_cons_zero] at hK ⊢
      clear hv hM hcM
      go_simp
      refine Calls.mono HCE.out ?_
      rintro e w' ⟨rfl, hj, hb⟩
      exact hK _ _ ⟨hb, hW.trans (hb.mono hW.size), _, rfl, hj.isB⟩
    | 5, ho, haf =>
      obtain rfl := Option.some.inj ho
      have q := getq e8
      refine step_good _ (wanted_none rfl) ?_
      clear haf ho hsz2
      intro K hK
      simp only [List.getElem_toArray, List.getElem_cons_succ, List.getElem_cons_zero] at hK ⊢
      go_simp
      exact hK _ _ ⟨Below.refl _ _, hW, rfl⟩
    | 6, ho, haf =>
      obtain rfl := Option.some.inj ho
      have g5 := getq (show a.tmps.getD 55 undef = .pointer (some ⟨w1.heap.size + 1, 2, none⟩) from haf ⟨5, .data⟩ (by simp) rfl)
      have hc := ((HR.out.keep hW).cell 2 _ rfl : w.cell? ⟨w1.heap.size + 1, 2, none⟩ = some (.string key))
      refine step_good _ (wanted_none rfl) ?_
      clear haf ho hsz2
      intro K hK
      simp only [List.getElem_toArray, List.getElem_cons_succ, List.getElem_cons_zero] at hK ⊢
      go_simp
      exact hK _ _ ⟨Below.refl _ _, hW, rfl⟩
    | 7, ho, haf =>
      obtain rfl := Option.some.inj ho
      have g6 := getq (show a.tmps.getD 56 undef = .string key from haf ⟨6, .data⟩ (by simp) rfl)
      obtain ⟨cc, wc, hcv, hic, hbc⟩ := conv_bytes w key (by unfold maxLen; omega)
      have HIC := hd hic
      have HBC := hd hbc
      clear hic hbc
      refine step_good _ (wanted_none rfl) ?_
      clear haf ho hsz2
      intro K hK
      simp only [List.getElem_toArray, List.getElem_cons_succ, List.getElem_cons_zero] at hK ⊢
      go_simp
      exact hK _ _ ⟨HBC.out, hW.trans (HBC.out.mono hW.size), _, _, rfl, HIC.out⟩
    | 8, ho, haf =>
      obtain rfl := Option.some.inj ho
      obtain ⟨ge, hve, hie⟩ := haf ⟨4, .data⟩ (by simp) rfl
      obtain ⟨gk, ck, hvk, hik⟩ := haf ⟨7, .data⟩ (by simp) rfl
      have g0 := getq (show a.tmps.getD 50 undef = .slice (some ⟨w1.heap.size, 0, none⟩) 1 1 from haf ⟨0, .data⟩ (by simp) rfl)
      have g4 := getq (show a.tmps.getD 54 undef = .slice (some ⟨ge, 0, none⟩) (enc [lsn]).length (enc [lsn]).length from hve)
      have g7 := getq (show a.tmps.getD 57 undef = .slice (some ⟨gk, 0, none⟩) key.size ck from hvk)
      rw [show slotOf _ a 4 = .slice (some ⟨ge, 0, none⟩) (enc [lsn]).length (enc [lsn]).length from hve] at hie
      rw [show slotOf _ a 7 = .slice (some ⟨gk, 0, none⟩) key.size ck from hvk] at hik
      have HPS := hd (ps_lit w [.slice (some ⟨w1.heap.size, 0, none⟩) 1 1, .slice (some ⟨ge, 0, none⟩) (enc [lsn]).length (enc [lsn]).length, .slice (some ⟨gk, 0, none⟩) key.size ck] [[2], enc [lsn], bl key] 22 rfl (by
        intro i v hv
        match i, hv with
        | 0, hv => cases hv; exact (HK.out.below hW)
        | 1, hv => cases hv; exact hie
        | 2, hv => cases hv; exact hik
        | i + 3, hv => simp at hv))
      refine step_good _ (wanted_none rfl) ?_
      clear haf ho hsz2
      intro K hK
      simp only [List.getElem_toArray, List.getElem_cons_succ, List.getElem_cons_zero] at hK ⊢
      clear hve hie hvk hik
      go_simp
      exact hK _ _ ⟨(Below.refl _ _).alloc (Nat.le_refl _) _, hW.alloc hW.size _, _, rfl, by simp, HPS.out⟩
    | 9, ho, haf =>
      obtain rfl := Option.some.inj ho
      obtain ⟨M, hv, hM, hP⟩ := haf ⟨8, .data⟩ (by simp) rfl
      have g8b := getq (show a.tmps.getD 58 undef = .slice (some ⟨M, 0, none⟩) 3 3 from hv)
      have HCC := hd (concat_row M 0 3 _ w hM (by simp) hP HBB.out.1 (Nat.le_trans HBB.out.2 (by omega)))
      have hss := HXB.out.size
      have hsw := hW.size
      refine step_good _ (wanted_none rfl) ?_
      clear haf ho hsz2
      intro K hK
      simp only [List.getElem_toArray, List.getElem_cons_succ, List.getElem_cons_zero] at hK ⊢
      clear hv hM hP
      go_simp
      refine Calls.mono HCC.out ?_
      rintro e w' ⟨u, rfl, hj, hb⟩
      exact hK _ _ ⟨hb, hW.trans (hb.mono hW.size), hj.base (by omega)⟩
    | 10, ho, haf =>
      obtain rfl := Option.some.inj ho
      have hj : JB w wA.heap.size (slotOf _ a 9) [[2], enc [lsn], bl key].flatten := haf ⟨9, .data⟩ (by simp) rfl
      refine step_good _ (wanted_none rfl) ?_
      clear haf ho hsz2
      intro K hK
      show K (a.put (some 2) (a.eval (.tmp 59))) w
      exact hK _ _ ⟨Below.refl _ _, hW, hj⟩
    | 11, ho, haf =>
      obtain rfl := Option.some.inj ho
      refine step_good _ (wanted_none rfl) ?_
      clear haf ho hsz2
      intro K hK
      simp only [List.getElem_toArray, List.getElem_cons_succ, List.getElem_cons_zero] at hK ⊢
      go_simp
      exact hK _ _ ⟨Below.refl _ _, hW, rfl⟩
    | n + 12, ho, haf => simp at ho
  · intro a w hW hdf hsz hout hall
    have h2 : JB w wA.heap.size (a.tmps.getD 2 undef) [[2], enc [lsn], bl key].flatten := hall 10 (by decide)
    have h3 : a.tmps.getD 3 undef = .int .i64 0 := hall 11 (by decide)
    have hdf2 : a.defers = [] := hdf
    have H2 := hd h2
    generalize hu : a.tmps.getD 2 undef = u at h2 H2
    have HU := hd hu
    clear hall hout hsz hdf h2 hu
    go_wp2
    refine bodyPost_ret (v := .tuple #[u, .int .i64 0]) ?_ hdf2 ⟨u, rfl, H2.out, HXB.out.trans (hW.mono HXB.out.size)⟩
    simp [results, Try.results83, go_sem, getq h3, getq HU.out]
set_option maxRecDepth 100000 in
set_option maxHeartbeats 1000000 in
theorem body_3 (lsn q at_ len : Nat) (key : ByteArray) (wA : World) (hl : lsn < 18446744073709551616) (h : rf (⟨3, zr, ⟨lsn, (q : Int), (at_ : Int), (len : Int), key⟩, ze⟩ : Fr) = 0) :
    Calls Try.prog 83 #[.agg (fv (⟨3, zr, ⟨lsn, (q : Int), (at_ : Int), (len : Int), key⟩, ze⟩ : Fr))] wA fun e w' => ∃ u, e = .returned (.tuple #[u, .int .i64 0]) ∧ JB w' wA.heap.size u (bd (⟨3, zr, ⟨lsn, (q : Int), (at_ : Int), (len : Int), key⟩, ze⟩ : Fr)) ∧ Below wA.heap.size wA w' := by
  have HC := hd (refusal_is (⟨3, zr, ⟨lsn, (q : Int), (at_ : Int), (len : Int), key⟩, ze⟩ : Fr))
  obtain ⟨hb1, hb2⟩ := bd_len (f := (⟨3, zr, ⟨lsn, (q : Int), (at_ : Int), (len : Int), key⟩, ze⟩ : Fr)) ⟨by show 0 < 18446744073709551616; omega, hl, by show 0 < 4294967296; omega⟩ h
  have hk : key.size ≤ 64 ∧ at_ ≤ 4194304 ∧ len ≤ 4194304 ∧ q ≤ 2 := by
    have h' := h
    unfold rf at h'
    rw [if_neg (by simp), if_pos rfl] at h'
    obtain ⟨h1, _, h3, h4, h5, _⟩ := rfP_ok h'
    have h42 := h4.2
    have h52 := h5.2
    simp only at h42 h52 h1
    exact ⟨h3.2, by omega, by omega, by omega⟩
  obtain ⟨hk1, hk2, hk3, hk4⟩ := hk
  have HBD : Hid (bd (⟨3, zr, ⟨lsn, (q : Int), (at_ : Int), (len : Int), key⟩, ze⟩ : Fr) = [[3], enc [lsn], [q], enc [at_, len], bl key].flatten) := by
    show bd _ = _
    unfold bd bp
    rw [if_neg (by simp), if_neg (by simp), if_pos rfl]; rfl
  rw [HBD.out] at hb1 hb2 ⊢
  rw [h] at HC
  clear h HBD
  have HBB := hd (show 0 < [[3], enc [lsn], [q], enc [at_, len], bl key].flatten.length ∧ [[3], enc [lsn], [q], enc [at_, len], bl key].flatten.length ≤ 2200 from ⟨hb2, hb1⟩)
  clear hb1 hb2
  simp only [fv, zr, ze] at HC ⊢
  go_enter Try.func83, Try.ntmps83
  go_wp2_with fail
  refine Calls.mono (HC.out _) ?_
  rintro e w1 ⟨rfl, hb⟩
  have HX : Hid (Blk w1 wA.heap.size 41 [.int .i64 3, .int .u64 0, .int .i64 0, .string ByteArray.empty, .string ByteArray.empty, .int .u64 (lsn : Int), .int .i64 (q : Int), .int .i64 (at_ : Int), .int .i64 (len : Int), .string key, .int .i64 0, .int .i64 0, .int .i64 0, .int .u32 0]) := (Blk.new wA _ _).keep hb
  have HB := hd (below_alloc1 hb)
  have hs1 := hb.size
  rw [World.size_alloc] at hs1
  clear hb HC
  have c0 := HX.out.cell 0 _ rfl
  have c1 := HX.out.cell 5 _ rfl
  have c2 := HX.out.cell 6 _ rfl
  have c3 := HX.out.cell 7 _ rfl
  have c4 := HX.out.cell 8 _ rfl
  have c5 := HX.out.cell 9 _ rfl
  clear HX
  have n1 : wA.heap.size < w1.heap.size := by omega
  have n2 : ¬ wA.heap.size = w1.heap.size := by omega
  have n3 : ¬ w1.heap.size = wA.heap.size := by omega
  have n4 : ¬ wA.heap.size = w1.heap.size + 1 := by omega
  have n5 : ¬ w1.heap.size + 1 = wA.heap.size := by omega
  have n6 : wA.heap.size < w1.heap.size + 1 := by omega
  go_wp2_with fail
  obtain ⟨X, hX⟩ : ∃ X, X = (w1.alloc (.cells #[.int .u8 3] 5)).alloc (.cells #[.int .u64 (lsn : Int), .int .i64 (q : Int), .int .i64 (at_ : Int), .int .i64 (len : Int), .string key] 34) := ⟨_, rfl⟩
  have HXS : Hid (X.heap.size = w1.heap.size + 1 + 1) := by show X.heap.size = _; rw [hX]; simp
  have HXB : Hid (Below wA.heap.size wA X) := by rw [hX]; exact (HB.out.alloc (by omega) _).alloc (by simp; omega) _
  have HK : Hid (IsB X (.slice (some ⟨w1.heap.size, 0, none⟩) 1 1) [3]) := by
    rw [hX]
    exact (lit_isK_at .u8 256 w1 #[.int .u8 3] 5 [3] 1 _ rfl rfl rfl (by simp) (by simp [maxLen])).below ((Below.refl _ _).alloc (Nat.le_refl _) _)
  have HR : Hid (Blk X (w1.heap.size + 1) 34 [.int .u64 (lsn : Int), .int .i64 (q : Int), .int .i64 (at_ : Int), .int .i64 (len : Int), .string key]) := by
    rw [hX]
    have := Blk.new (w1.alloc (.cells #[.int .u8 3] 5)) 34 [.int .u64 (lsn : Int), .int .i64 (q : Int), .int .i64 (at_ : Int), .int .i64 (len : Int), .string key]
    rw [World.size_alloc] at this
    exact this
  rw [← hX]
  have hlit := lit_isK_at .u64 18446744073709551616 X #[.int .u64 (at_ : Int), .int .u64 (len : Int)] 30 [at_, len] 2 (w1.heap.size + 1 + 1) HXS.out rfl rfl (by intro x hx; simp at hx; omega) (by simp [maxLen])
  refine Calls.mono (encode_is _ [at_, len] _ hlit (by simp)) ?_
  rintro e Y ⟨rfl, hj, hb⟩
  have HYB : Hid (Below X.heap.size X Y) := below_alloc1 hb
  have HPL0 := hd hj.isB
  rw [World.size_alloc] at HPL0 ⊢
  clear c0 c1 c2 c3 c4 c5 hX hlit hj hb
  have HK2 := hd (HK.out.below HYB.out)
  have HR2 := hd (HR.out.keep HYB.out)
  have HXB2 : Hid (Below wA.heap.size wA Y) := HXB.out.trans (HYB.out.mono HXB.out.size)
  clear HK HR HXB HYB
  obtain ⟨PN, hPN⟩ : ∃ n, n = X.heap.size + 1 := ⟨_, rfl⟩
  rw [← hPN] at HPL0 ⊢
  clear hPN
  go_wp2_with fail
  have HK := HK2
  have HR := HR2
  have HXB := HXB2
  have HPL := HPL0
  clear HK2 HR2 HXB2 HPL0
  refine region_inv (fun i v w => match i with
    | 0 => v = .slice (some ⟨w1.heap.size, 0, none⟩) 1 1
    | 1 => v = .pointer (some ⟨w1.heap.size + 1, 0, none⟩)
    | 2 => v = .int .u64 (lsn : Int)
    | 3 => ∃ N, v = .slice (some ⟨N, 0, none⟩) 1 1 ∧ N < w.heap.size ∧ w.cell? ⟨N, 0, none⟩ = some (.int .u64 (lsn : Int))
    | 4 => ∃ g, v = .slice (some ⟨g, 0, none⟩) (enc [lsn]).length (enc [lsn]).length ∧ IsB w v (enc [lsn])
    | 5 => v = .pointer (some ⟨w1.heap.size + 1, 1, none⟩)
    | 6 => v = .int .i64 (q : Int)
    | 7 => v = .int .u8 (q : Int)
    | 8 => ∃ g, v = .slice (some ⟨g, 0, none⟩) 1 1 ∧ IsB w v [q]
    | 9 => v = .slice (some ⟨PN, 0, none⟩) (enc [at_, len]).length (enc [at_, len]).length
    | 10 => v = .pointer (some ⟨w1.heap.size + 1, 4, none⟩)
    | 11 => v = .string key
    | 12 => ∃ g c, v = .slice (some ⟨g, 0, none⟩) key.size c ∧ IsB w v (bl key)
    | 13 => ∃ N, v = .slice (some ⟨N, 0, none⟩) 5 5 ∧ N < w.heap.size ∧ Ps w N 0 [[3], enc [lsn], [q], enc [at_, len], bl key]
    | 14 => JB w wA.heap.size v [[3], enc [lsn], [q], enc [at_, len], bl key].flatten
    | 15 => JB w wA.heap.size v [[3], enc [lsn], [q], enc [at_, len], bl key].flatten
    | _ => v = .int .i64 0) (fun w => Below Y.heap.size Y w) (by kernel_rfl) (by kernel_rfl) (by kernel_rfl) (Below.drew (Below.refl _ _)) ?_ ?_ ?_
  · intro i v w w' _ _ hb hG
    match i, hG with
    | 0, h => exact h
    | 1, h => exact h
    | 2, h => exact h
    | 3, ⟨N, h1, h2, h3⟩ => exact ⟨N, h1, Nat.lt_of_lt_of_le h2 hb.size, by rw [hb.cell h2]; exact h3⟩
    | 4, ⟨g, h1, h2⟩ => exact ⟨g, h1, h2.below hb⟩
    | 5, h => exact h
    | 6, h => exact h
    | 7, h => exact h
    | 8, ⟨g, h1, h2⟩ => exact ⟨g, h1, h2.below hb⟩
    | 9, h => exact h
    | 10, h => exact h
    | 11, h => exact h
    | 12, ⟨g, c, h1, h2⟩ => exact ⟨g, c, h1, h2.below hb⟩
    | 13, ⟨N, h1, h2, h3⟩ => exact ⟨N, h1, Nat.lt_of_lt_of_le h2 hb.size, h3.below h2 hb⟩
    | 14, h => exact JB.keepAll h hb
    | 15, h => exact JB.keepAll h hb
    | n + 16, h => exact h
  · intro i o ho a w hW hdf hsz hout haf
    have e5 : a.tmps.getD 5 undef = .slice (some ⟨w1.heap.size, 0, none⟩) 1 1 := hout 5 (notDst_spec (by kernel_rfl))
    have e9 : a.tmps.getD 9 undef = .pointer (some ⟨w1.heap.size + 1, 0, none⟩) := hout 9 (notDst_spec (by kernel_rfl))
    have e10 : a.tmps.getD 10 undef = .slice (some ⟨PN, 0, none⟩) (enc [at_, len]).length (enc [at_, len]).length := hout 10 (notDst_spec (by kernel_rfl))
    have hsz2 : a.tmps.size = 110 := hsz
    clear hout hsz hdf
    match i, ho, haf with
    | 0, ho, haf =>
      obtain rfl := Option.some.inj ho
      refine step_good _ (wanted_none rfl) ?_
      intro K hK
      show K (a.put (some 72) (a.eval (.tmp 5))) w
      rw [show a.eval (.tmp 5) = .slice (some ⟨w1.heap.size, 0, none⟩) 1 1 from e5]
      exact hK _ _ ⟨Below.refl _ _, hW, rfl⟩
    | 1, ho, haf =>
      obtain rfl := Option.some.inj ho
      have q := getq e9
      refine step_good _ (wanted_none rfl) ?_
      clear haf ho hsz2
      intro K hK
      simp only [List.getElem_toArray, List.getElem_cons_succ, List.getElem_cons_zero] at hK ⊢
      go_simp
      exact hK _ _ ⟨Below.refl _ _, hW, rfl⟩
    | 2, ho, haf =>
      obtain rfl := Option.some.inj ho
      have g1 := getq (show a.tmps.getD 73 undef = .pointer (some ⟨w1.heap.size + 1, 0, none⟩) from haf ⟨1, .data⟩ (by simp) rfl)
      have hc := ((HR.out.keep hW).cell 0 _ rfl : w.cell? ⟨w1.heap.size + 1, 0, none⟩ = some (.int .u64 (lsn : Int)))
      refine step_good _ (wanted_none rfl) ?_
      clear haf ho hsz2
      intro K hK
      simp only [List.getElem_toArray, List.getElem_cons_succ, List.getElem_cons_zero] at hK ⊢
      go_simp
      exact hK _ _ ⟨Below.refl _ _, hW, rfl⟩
    | 3, ho, haf =>
      obtain rfl := Option.some.inj ho
      have g2 := getq (show a.tmps.getD 74 undef = .int .u64 (lsn : Int) from haf ⟨2, .data⟩ (by simp) rfl)
      refine step_good _ (wanted_none rfl) ?_
      clear haf ho hsz2
      intro K hK
      simp only [List.getElem_toArray, List.getElem_cons_succ, List.getElem_cons_zero] at hK ⊢
      go_simp
      exact hK _ _ ⟨(Below.refl _ _).alloc (Nat.le_refl _) _, hW.alloc hW.size _, _, rfl, by simp, by go_simp⟩
    | 4, ho, haf =>
      obtain rfl := Option.some.inj ho
      obtain ⟨M, hv, hM, hcM⟩ := haf ⟨3, .data⟩ (by simp) rfl
      have g3 := getq (show a.tmps.getD 75 undef = .slice (some ⟨M, 0, none⟩) 1 1 from hv)
      have HCE := hd (encode_is _ [lsn] w (one_isN hl hM hcM) (by simp))
      refine step_good _ (wanted_none rfl) ?_
      clear haf ho hsz2
      intro K hK
      simp only [List.getElem_toArray, List.getElem_cons_succ, List.getElem_cons_zero] at hK ⊢
      clear hv hM hcM
      go_simp
      refine Calls.mono HCE.out ?_
      rintro e w' ⟨rfl, hj, hb⟩
      exact hK _ _ ⟨hb, hW.trans (hb.mono hW.size), _, rfl, hj.isB⟩
    | 5, ho, haf =>
      obtain rfl := Option.some.inj ho
      have q := getq e9
      refine step_good _ (wanted_none rfl) ?_
      clear haf ho hsz2
      intro K hK
      simp only [List.getElem_toArray, List.getElem_cons_succ, List.getElem_cons_zero] at hK ⊢
      go_simp
      exact hK _ _ ⟨Below.refl _ _, hW, rfl⟩
    | 6, ho, haf =>
      obtain rfl := Option.some.inj ho
      have g5 := getq (show a.tmps.getD 77 undef = .pointer (some ⟨w1.heap.size + 1, 1, none⟩) from haf ⟨5, .data⟩ (by simp) rfl)
      have hc := ((HR.out.keep hW).cell 1 _ rfl : w.cell? ⟨w1.heap.size + 1, 1, none⟩ = some (.int .i64 (q : Int)))
      refine step_good _ (wanted_none rfl) ?_
      clear haf ho hsz2
      intro K hK
      simp only [List.getElem_toArray, List.getElem_cons_succ, List.getElem_cons_zero] at hK ⊢
      go_simp
      exact hK _ _ ⟨Below.refl _ _, hW, rfl⟩
    | 7, ho, haf =>
      obtain rfl := Option.some.inj ho
      have g6 := getq (show a.tmps.getD 78 undef = .int .i64 (q : Int) from haf ⟨6, .data⟩ (by simp) rfl)
      have hw8 : IntKind.u8.wrap (q : Int) = (q : Int) := by
        have hq3 : q = 0 ∨ q = 1 ∨ q = 2 := by omega
        rcases hq3 with rfl | rfl | rfl <;> rfl
      refine step_good _ (wanted_none rfl) ?_
      clear haf ho hsz2
      intro K hK
      simp only [List.getElem_toArray, List.getElem_cons_succ, List.getElem_cons_zero] at hK ⊢
      go_simp
      exact hK _ _ ⟨Below.refl _ _, hW, rfl⟩
    | 8, ho, haf =>
      obtain rfl := Option.some.inj ho
      have g7 := getq (show a.tmps.getD 79 undef = .int .u8 (q : Int) from haf ⟨7, .data⟩ (by simp) rfl)
      refine step_good _ (wanted_none rfl) ?_
      clear haf ho hsz2
      intro K hK
      simp only [List.getElem_toArray, List.getElem_cons_succ, List.getElem_cons_zero] at hK ⊢
      go_simp
      exact hK _ _ ⟨(Below.refl _ _).alloc (Nat.le_refl _) _, hW.alloc hW.size _, _, rfl, lit_isK .u8 256 w #[.int .u8 (q : Int)] 5 [q] 1 rfl rfl (by intro x hx; simp at hx; omega) (by simp [maxLen])⟩
    | 9, ho, haf =>
      obtain rfl := Option.some.inj ho
      refine step_good _ (wanted_none rfl) ?_
      intro K hK
      show K (a.put (some 81) (a.eval (.tmp 10))) w
      rw [show a.eval (.tmp 10) = .slice (some ⟨PN, 0, none⟩) (enc [at_, len]).length (enc [at_, len]).length from e10]
      exact hK _ _ ⟨Below.refl _ _, hW, rfl⟩
    | 10, ho, haf =>
      obtain rfl := Option.some.inj ho
      have q := getq e9
      refine step_good _ (wanted_none rfl) ?_
      clear haf ho hsz2
      intro K hK
      simp only [List.getElem_toArray, List.getElem_cons_succ, List.getElem_cons_zero] at hK ⊢
      go_simp
      exact hK _ _ ⟨Below.refl _ _, hW, rfl⟩
    | 11, ho, haf =>
      obtain rfl := Option.some.inj ho
      have g10 := getq (show a.tmps.getD 82 undef = .pointer (some ⟨w1.heap.size + 1, 4, none⟩) from haf ⟨10, .data⟩ (by simp) rfl)
      have hc := ((HR.out.keep hW).cell 4 _ rfl : w.cell? ⟨w1.heap.size + 1, 4, none⟩ = some (.string key))
      refine step_good _ (wanted_none rfl) ?_
      clear haf ho hsz2
      intro K hK
      simp only [List.getElem_toArray, List.getElem_cons_succ, List.getElem_cons_zero] at hK ⊢
      go_simp
      exact hK _ _ ⟨Below.refl _ _, hW, rfl⟩
    | 12, ho, haf =>
      obtain rfl := Option.some.inj ho
      have g11 := getq (show a.tmps.getD 83 undef = .string key from haf ⟨11, .data⟩ (by simp) rfl)
      obtain ⟨cc, wc, hcv, hic, hbc⟩ := conv_bytes w key (by unfold maxLen; omega)
      have HIC := hd hic
      have HBC := hd hbc
      clear hic hbc
      refine step_good _ (wanted_none rfl) ?_
      clear haf ho hsz2
      intro K hK
      simp only [List.getElem_toArray, List.getElem_cons_succ, List.getElem_cons_zero] at hK ⊢
      go_simp
      exact hK _ _ ⟨HBC.out, hW.trans (HBC.out.mono hW.size), _, _, rfl, HIC.out⟩
    | 13, ho, haf =>
      obtain rfl := Option.some.inj ho
      obtain ⟨ge, hve, hie⟩ := haf ⟨4, .data⟩ (by simp) rfl
      obtain ⟨gq, hvq, hiq⟩ := haf ⟨8, .data⟩ (by simp) rfl
      obtain ⟨gk, ck, hvk, hik⟩ := haf ⟨12, .data⟩ (by simp) rfl
      have g0 := getq (show a.tmps.getD 72 undef = .slice (some ⟨w1.heap.size, 0, none⟩) 1 1 from haf ⟨0, .data⟩ (by simp) rfl)
      have g9 := getq (show a.tmps.getD 81 undef = .slice (some ⟨PN, 0, none⟩) (enc [at_, len]).length (enc [at_, len]).length from haf ⟨9, .data⟩ (by simp) rfl)
      have g4 := getq (show a.tmps.getD 76 undef = .slice (some ⟨ge, 0, none⟩) (enc [lsn]).length (enc [lsn]).length from hve)
      have g8 := getq (show a.tmps.getD 80 undef = .slice (some ⟨gq, 0, none⟩) 1 1 from hvq)
      have g7 := getq (show a.tmps.getD 84 undef = .slice (some ⟨gk, 0, none⟩) key.size ck from hvk)
      rw [show slotOf _ a 4 = .slice (some ⟨ge, 0, none⟩) (enc [lsn]).length (enc [lsn]).length from hve] at hie
      rw [show slotOf _ a 8 = .slice (some ⟨gq, 0, none⟩) 1 1 from hvq] at hiq
      rw [show slotOf _ a 12 = .slice (some ⟨gk, 0, none⟩) key.size ck from hvk] at hik
      have HPS := hd (ps_lit w [.slice (some ⟨w1.heap.size, 0, none⟩) 1 1, .slice (some ⟨ge, 0, none⟩) (enc [lsn]).length (enc [lsn]).length, .slice (some ⟨gq, 0, none⟩) 1 1, .slice (some ⟨PN, 0, none⟩) (enc [at_, len]).length (enc [at_, len]).length, .slice (some ⟨gk, 0, none⟩) key.size ck] [[3], enc [lsn], [q], enc [at_, len], bl key] 22 rfl (by
        intro i v hv
        match i, hv with
        | 0, hv => cases hv; exact (HK.out.below hW)
        | 1, hv => cases hv; exact hie
        | 2, hv => cases hv; exact hiq
        | 3, hv => cases hv; exact (HPL.out.below hW)
        | 4, hv => cases hv; exact hik
        | i + 5, hv => simp at hv))
      refine step_good _ (wanted_none rfl) ?_
      clear haf ho hsz2
      intro K hK
      simp only [List.getElem_toArray, List.getElem_cons_succ, List.getElem_cons_zero] at hK ⊢
      clear hve hie hvk hik hvq hiq
      go_simp
      exact hK _ _ ⟨(Below.refl _ _).alloc (Nat.le_refl _) _, hW.alloc hW.size _, _, rfl, by simp, HPS.out⟩
    | 14, ho, haf =>
      obtain rfl := Option.some.inj ho
      obtain ⟨M, hv, hM, hP⟩ := haf ⟨13, .data⟩ (by simp) rfl
      have g8b := getq (show a.tmps.getD 85 undef = .slice (some ⟨M, 0, none⟩) 5 5 from hv)
      have HCC := hd (concat_row M 0 5 _ w hM (by simp) hP HBB.out.1 (Nat.le_trans HBB.out.2 (by omega)))
      have hss := HXB.out.size
      have hsw := hW.size
      refine step_good _ (wanted_none rfl) ?_
      clear haf ho hsz2
      intro K hK
      simp only [List.getElem_toArray, List.getElem_cons_succ, List.getElem_cons_zero] at hK ⊢
      clear hv hM hP
      go_simp
      refine Calls.mono HCC.out ?_
      rintro e w' ⟨u, rfl, hj, hb⟩
      exact hK _ _ ⟨hb, hW.trans (hb.mono hW.size), hj.base (by omega)⟩
    | 15, ho, haf =>
      obtain rfl := Option.some.inj ho
      have hj : JB w wA.heap.size (slotOf _ a 14) [[3], enc [lsn], [q], enc [at_, len], bl key].flatten := haf ⟨14, .data⟩ (by simp) rfl
      refine step_good _ (wanted_none rfl) ?_
      clear haf ho hsz2
      intro K hK
      show K (a.put (some 2) (a.eval (.tmp 86))) w
      exact hK _ _ ⟨Below.refl _ _, hW, hj⟩
    | 16, ho, haf =>
      obtain rfl := Option.some.inj ho
      refine step_good _ (wanted_none rfl) ?_
      clear haf ho hsz2
      intro K hK
      simp only [List.getElem_toArray, List.getElem_cons_succ, List.getElem_cons_zero] at hK ⊢
      go_simp
      exact hK _ _ ⟨Below.refl _ _, hW, rfl⟩
    | n + 17, ho, haf => simp at ho
  · intro a w hW hdf hsz hout hall
    have h2 : JB w wA.heap.size (a.tmps.getD 2 undef) [[3], enc [lsn], [q], enc [at_, len], bl key].flatten := hall 15 (by decide)
    have h3 : a.tmps.getD 3 undef = .int .i64 0 := hall 16 (by decide)
    have hdf2 : a.defers = [] := hdf
    have H2 := hd h2
    generalize hu : a.tmps.getD 2 undef = u at h2 H2
    have HU := hd hu
    clear hall hout hsz hdf h2 hu
    go_wp2
    refine bodyPost_ret (v := .tuple #[u, .int .i64 0]) ?_ hdf2 ⟨u, rfl, H2.out, HXB.out.trans (hW.mono HXB.out.size)⟩
    simp [results, Try.results83, go_sem, getq h3, getq HU.out]
set_option maxRecDepth 100000 in
set_option maxHeartbeats 1000000 in
theorem body_4 (ct by_ fr sm : Nat) (wA : World) (hl : sm < 4294967296) (h : rf (⟨4, zr, zp, ⟨(ct : Int), (by_ : Int), (fr : Int), sm⟩⟩ : Fr) = 0) :
    Calls Try.prog 83 #[.agg (fv (⟨4, zr, zp, ⟨(ct : Int), (by_ : Int), (fr : Int), sm⟩⟩ : Fr))] wA fun e w' => ∃ u, e = .returned (.tuple #[u, .int .i64 0]) ∧ JB w' wA.heap.size u (bd (⟨4, zr, zp, ⟨(ct : Int), (by_ : Int), (fr : Int), sm⟩⟩ : Fr)) ∧ Below wA.heap.size wA w' := by
  have HC := hd (refusal_is (⟨4, zr, zp, ⟨(ct : Int), (by_ : Int), (fr : Int), sm⟩⟩ : Fr))
  obtain ⟨hb1, hb2⟩ := bd_len (f := (⟨4, zr, zp, ⟨(ct : Int), (by_ : Int), (fr : Int), sm⟩⟩ : Fr)) ⟨by show 0 < 18446744073709551616; omega, by show 0 < 18446744073709551616; omega, hl⟩ h
  have hk : ct ≤ 4194304 ∧ by_ ≤ 4194304 ∧ fr ≤ 4194304 := by
    have h' := h
    unfold rf at h'
    rw [if_neg (by simp), if_neg (by simp), if_pos rfl] at h'
    obtain ⟨h1, h2, h3, _⟩ := rfE_ok h'
    have q1 := h1.2
    have q2 := h2.2
    have q3 := h3.2
    simp only at q1 q2 q3
    exact ⟨by omega, by omega, by omega⟩
  obtain ⟨hk1, hk2, hk3⟩ := hk
  have HBD : Hid (bd (⟨4, zr, zp, ⟨(ct : Int), (by_ : Int), (fr : Int), sm⟩⟩ : Fr) = [[4], enc [ct, by_, fr, sm]].flatten) := by
    show bd _ = _
    unfold bd bp
    rw [if_neg (by simp), if_neg (by simp), if_neg (by simp)]; rfl
  rw [HBD.out] at hb1 hb2 ⊢
  rw [h] at HC
  clear h HBD
  have HBB := hd (show 0 < [[4], enc [ct, by_, fr, sm]].flatten.length ∧ [[4], enc [ct, by_, fr, sm]].flatten.length ≤ 2200 from ⟨hb2, hb1⟩)
  clear hb1 hb2
  simp only [fv, zr, zp] at HC ⊢
  go_enter Try.func83, Try.ntmps83
  go_wp2_with fail
  refine Calls.mono (HC.out _) ?_
  rintro e w1 ⟨rfl, hb⟩
  have HX : Hid (Blk w1 wA.heap.size 41 [.int .i64 4, .int .u64 0, .int .i64 0, .string ByteArray.empty, .string ByteArray.empty, .int .u64 0, .int .i64 0, .int .i64 0, .int .i64 0, .string ByteArray.empty, .int .i64 (ct : Int), .int .i64 (by_ : Int), .int .i64 (fr : Int), .int .u32 (sm : Int)]) := (Blk.new wA _ _).keep hb
  have HB := hd (below_alloc1 hb)
  have hs1 := hb.size
  rw [World.size_alloc] at hs1
  clear hb HC
  have c0 := HX.out.cell 0 _ rfl
  have c1 := HX.out.cell 10 _ rfl
  have c2 := HX.out.cell 11 _ rfl
  have c3 := HX.out.cell 12 _ rfl
  have c4 := HX.out.cell 13 _ rfl
  clear HX
  have n1 : wA.heap.size < w1.heap.size := by omega
  have n2 : ¬ wA.heap.size = w1.heap.size := by omega
  have n3 : ¬ w1.heap.size = wA.heap.size := by omega
  have n4 : ¬ wA.heap.size = w1.heap.size + 1 := by omega
  have n5 : ¬ w1.heap.size + 1 = wA.heap.size := by omega
  have n6 : wA.heap.size < w1.heap.size + 1 := by omega
  go_wp2_with fail
  obtain ⟨X, hX⟩ : ∃ X, X = (w1.alloc (.cells #[.int .u8 4] 5)).alloc (.cells #[.int .i64 (ct : Int), .int .i64 (by_ : Int), .int .i64 (fr : Int), .int .u32 (sm : Int)] 39) := ⟨_, rfl⟩
  have HXS : Hid (X.heap.size = w1.heap.size + 1 + 1) := by show X.heap.size = _; rw [hX]; simp
  have HXB : Hid (Below wA.heap.size wA X) := by rw [hX]; exact (HB.out.alloc (by omega) _).alloc (by simp; omega) _
  have HK : Hid (IsB X (.slice (some ⟨w1.heap.size, 0, none⟩) 1 1) [4]) := by
    rw [hX]
    exact (lit_isK_at .u8 256 w1 #[.int .u8 4] 5 [4] 1 _ rfl rfl rfl (by simp) (by simp [maxLen])).below ((Below.refl _ _).alloc (Nat.le_refl _) _)
  have HR : Hid (Blk X (w1.heap.size + 1) 39 [.int .i64 (ct : Int), .int .i64 (by_ : Int), .int .i64 (fr : Int), .int .u32 (sm : Int)]) := by
    rw [hX]
    have := Blk.new (w1.alloc (.cells #[.int .u8 4] 5)) 39 [.int .i64 (ct : Int), .int .i64 (by_ : Int), .int .i64 (fr : Int), .int .u32 (sm : Int)]
    rw [World.size_alloc] at this
    exact this
  rw [← hX]
  have hlit := lit_isK_at .u64 18446744073709551616 X #[.int .u64 (ct : Int), .int .u64 (by_ : Int), .int .u64 (fr : Int), .int .u64 (sm : Int)] 30 [ct, by_, fr, sm] 4 (w1.heap.size + 1 + 1) HXS.out rfl rfl (by intro x hx; simp at hx; omega) (by simp [maxLen])
  refine Calls.mono (encode_is _ [ct, by_, fr, sm] _ hlit (by simp)) ?_
  rintro e Y ⟨rfl, hj, hb⟩
  have HYB : Hid (Below X.heap.size X Y) := below_alloc1 hb
  have HPL := hd hj.isB
  rw [World.size_alloc] at HPL ⊢
  clear c0 c1 c2 c3 c4 hX hlit hj hb
  have HK2 := hd (HK.out.below HYB.out)
  have HXB2 : Hid (Below wA.heap.size wA Y) := HXB.out.trans (HYB.out.mono HXB.out.size)
  clear HK HR HXB HYB
  have HP := hd (ps_lit Y [.slice (some ⟨w1.heap.size, 0, none⟩) 1 1, .slice (some ⟨X.heap.size + 1, 0, none⟩) (enc [ct, by_, fr, sm]).length (enc [ct, by_, fr, sm]).length] [[4], enc [ct, by_, fr, sm]] 22 rfl (by
    intro i v hv
    match i, hv with
    | 0, hv => cases hv; exact HK2.out
    | 1, hv => cases hv; exact HPL.out
    | i + 2, hv => simp at hv))
  have HCC := hd (concat_row Y.heap.size 0 2 _ _ (by simp) (by simp) HP.out HBB.out.1 (Nat.le_trans HBB.out.2 (by omega)))
  clear HP HPL HK2
  go_wp2_with fail
  refine Calls.mono HCC.out ?_
  rintro e w5 ⟨u, rfl, hj5, hb5⟩
  have HJ5 := hd (hj5.base (base' := wA.heap.size) (by have := HXB2.out.size; rw [World.size_alloc]; omega))
  have HB5 : Hid (Below wA.heap.size wA w5) := HXB2.out.trans ((below_alloc1 hb5).mono HXB2.out.size)
  clear hj5 hb5 HCC
  go_wp2_with fail
  go_ret2
  exact ⟨u, rfl, HJ5.out, HB5.out⟩
/-- of every frame that may be -/
theorem bodyOk {f : Fr} (hw : f.Wf) (h : rf f = 0) : BodyOk f := by
  have h' := h
  unfold rf at h'
  by_cases c12 : f.kind = 1 ∨ f.kind = 2
  · rw [if_pos c12] at h'
    obtain ⟨h1, h2, h3, h4, h5⟩ := rfR_ok h'
    obtain ⟨k, ⟨lsn, rk, key, val⟩, p, e⟩ := f
    simp only at h1 c12 h4
    subst h1
    rw [h5] at h ⊢
    rcases c12 with rfl | rfl
    · exact fun w => body_1 lsn key val w hw.1 h
    · rw [if_pos rfl] at h4
      have hv : val = ByteArray.empty := by
        refine bl_inj (List.length_eq_zero_iff.1 ?_)
        rw [bl_len]; omega
      subst hv
      exact fun w => body_2 lsn key w hw.1 h
  · rw [if_neg c12] at h'
    by_cases c3 : f.kind = 3
    · rw [if_pos c3] at h'
      obtain ⟨h1, h2, h3, h4, h5, h6, h7⟩ := rfP_ok h'
      obtain ⟨k, r, ⟨lsn, pk, at_, len, key⟩, e⟩ := f
      have h41 := h4.1
      have h51 := h5.1
      simp only at h1 h41 h51
      obtain ⟨a, rfl⟩ : ∃ a : Nat, at_ = (a : Int) := ⟨at_.toNat, by omega⟩
      obtain ⟨n, rfl⟩ : ∃ n : Nat, len = (n : Int) := ⟨len.toNat, by omega⟩
      obtain ⟨q, rfl⟩ : ∃ q : Nat, pk = (q : Int) := ⟨pk.toNat, by omega⟩
      rw [h7] at h ⊢
      exact fun w => body_3 lsn q a n key w hw.2.1 h
    · rw [if_neg c3] at h'
      by_cases c4 : f.kind = 4
      · rw [if_pos c4] at h'
        obtain ⟨h1, h2, h3, h4⟩ := rfE_ok h'
        obtain ⟨k, r, p, ⟨ct, by_, fr, sm⟩⟩ := f
        have h11 := h1.1
        have h21 := h2.1
        have h31 := h3.1
        simp only at h11 h21 h31
        obtain ⟨a, rfl⟩ : ∃ a : Nat, ct = (a : Int) := ⟨ct.toNat, by omega⟩
        obtain ⟨n, rfl⟩ : ∃ n : Nat, by_ = (n : Int) := ⟨by_.toNat, by omega⟩
        obtain ⟨q, rfl⟩ : ∃ q : Nat, fr = (q : Int) := ⟨fr.toNat, by omega⟩
        rw [h4] at h ⊢
        exact fun w => body_4 a n q sm w hw.2.2 h
      · rw [if_neg c4] at h'; omega
theorem encF_all {f : Fr} (hw : f.Wf) (h : rf f = 0) (w : World) : Calls Try.prog 67 #[.agg (fv f)] w fun e w' => ∃ u, e = .returned (.tuple #[u, .int .i64 0]) ∧ JB w' w.heap.size u (en f) ∧ Below w.heap.size w w' := encF_ok f w hw h (bodyOk hw h)
end Vt
end Go.Proofs.Ytlddogigbodilaa
namespace Go.Proofs.Ytlddogigbodilaa
open Go.RowKit Go.Shelf
namespace Vt
/-- a Put of the key tea -/
def tf (n : Nat) : Fr := ⟨1, ⟨n, 1, ⟨#[116, 101, 97]⟩, ⟨#[103, 114, 101, 101, 110]⟩⟩, zp, ze⟩
theorem tf_wf {n : Nat} (h : n < 18446744073709551616) : (tf n).Wf := ⟨h, (by decide : (0 : Nat) < 18446744073709551616), (by decide : (0 : Nat) < 4294967296)⟩
theorem tf_rf {n : Nat} (h : n ≠ 0) : rf (tf n) = 0 := by
  have e : rf (tf n) = rfR (tf n) := by unfold rf; rw [if_pos (show (tf n).kind = 1 ∨ (tf n).kind = 2 from Or.inl rfl)]
  rw [e]
  unfold rfR
  rw [if_neg (show ¬ ((tf n).r.kind ≠ (tf n).kind) from fun q => q rfl), if_neg (show ¬ ((tf n).r.lsn = 0) from h), if_neg (show ¬ ¬ mayKey (tf n).r.key from fun q => q ⟨(by decide : 1 ≤ 3), (by decide : 3 ≤ 64)⟩), if_neg (show ¬ ((if (tf n).r.kind = 2 then 0 else 2048) < (tf n).r.val.size) from by show ¬ ((if (1 : Int) = 2 then 0 else 2048) < 5); decide), if_neg (show ¬ (tf n ≠ ofR (tf n).r) from fun q => q rfl)]
set_option maxRecDepth 100000 in
theorem tea_is (n : Nat) (w : World) (h0 : n ≠ 0) (h : n < 18446744073709551616) :
    Calls Try.prog 49 #[.int .u64 (n : Int)] w fun e w' => ∃ u, e = .returned u ∧ JB w' w.heap.size u (en (tf n)) ∧ Below w.heap.size w w' := by
  have HC := hd (encF_all (tf_wf h) (tf_rf h0) w)
  have HF : Hid (fv (tf n) = #[.int .i64 1, .int .u64 (n : Int), .int .i64 1, .string ⟨#[116, 101, 97]⟩, .string ⟨#[103, 114, 101, 101, 110]⟩, .int .u64 0, .int .i64 0, .int .i64 0, .int .i64 0, .string ⟨#[]⟩, .int .i64 0, .int .i64 0, .int .i64 0, .int .u32 0]) := rfl
  rw [HF.out] at HC
  clear HF
  go_enter Try.func49, Try.ntmps49
  go_wp2_with fail
  refine Calls.mono HC.out ?_
  rintro e w1 ⟨u, rfl, hj, hb⟩
  obtain ⟨a, c, rfl, _⟩ := JK.shape (k := .u8) (M := 256) (E := 5) hj
  have HJ := hd hj
  clear hj
  go_wp2_with fail
  go_ret
  exact ⟨_, rfl, HJ.out, hb⟩
/-- junk and two frames -/
def two : List Nat := [1, 2] ++ (en (tf 1) ++ en (tf 2))
theorem en_byt {f : Fr} (h : rf f = 0) : Byt (en f) := by
  rw [en_eq]
  intro x hx
  rcases List.mem_cons.1 hx with rfl | hx
  · decide
  · exact byt_app (dg_byt _ _) (byt_app (wr_byt (bd_byt h)) (dg_byt _ _)) x hx
theorem two_byt : Byt two := by
  unfold two
  exact byt_app (by intro x hx; simp at hx; omega) (byt_app (en_byt (tf_rf (by decide))) (en_byt (tf_rf (by decide))))
theorem two_locs : locs 0 two = [(2, (en (tf 1)).length, tf 1), (2 + (en (tf 1)).length, (en (tf 2)).length, tf 2)] := by
  have b1 := en_byt (tf_rf (n := 1) (by decide))
  have b2 := en_byt (tf_rf (n := 2) (by decide))
  unfold two
  rw [locs_junk (by intro x hx; simp at hx; omega) two_byt, locs_en (tf_wf (by decide)) (tf_rf (by decide)) (byt_app b1 b2)]
  have := locs_en (tf_wf (n := 2) (by decide)) (tf_rf (by decide)) (r := []) (by rw [List.append_nil]; exact b2) (0 + [1, 2].length + (en (tf 1)).length)
  rw [List.append_nil, locs_nil] at this
  rw [this]
  rfl
theorem two_exts : exts two = [(true, 0, 2), (false, 2, ((en (tf 1)).length : Int)), (false, 2 + ((en (tf 1)).length : Int), ((en (tf 2)).length : Int))] := by
  have hp := en_pos (tf 1)
  have hl : two.length = 2 + ((en (tf 1)).length + (en (tf 2)).length) := by unfold two; simp; omega
  rw [exts_eq, two_locs]
  generalize (en (tf 1)).length = m at *
  generalize (en (tf 2)).length = k at *
  rw [hl]
  simp only [exR, jk1]
  rw [if_neg (by decide), if_pos trivial, if_pos (by omega)]
  simp
theorem two_fst : fst two 0 = (2, ((en (tf 1)).length : Int)) := by
  have h : frm two.length 0 = 0 := by unfold frm; simp
  unfold fst
  rw [h, List.drop_zero, two_locs]; rfl
theorem two_cln : (cln two (locs 0 two)).length = (en (tf 1)).length + (en (tf 2)).length := by
  have hl : two.length = 2 + ((en (tf 1)).length + (en (tf 2)).length) := by unfold two; simp; omega
  rw [two_locs]
  unfold cln
  simp only [List.map_cons, List.map_nil, List.flatten_cons, List.flatten_nil, List.length_append, List.length_take, List.length_drop, List.length_nil, hl]
  omega
theorem en_len_le {f : Fr} (hw : f.Wf) (h : rf f = 0) : (en f).length ≤ 4409 := by
  have h1 := (bd_len hw h).1
  have h2 := (wr_len (bd f)).2
  rw [en_len]; omega
theorem two_len : two.length ≤ 10000 := by
  have h1 := en_len_le (tf_wf (n := 1) (by decide)) (tf_rf (by decide))
  have h2 := en_len_le (tf_wf (n := 2) (by decide)) (tf_rf (by decide))
  unfold two
  simp only [List.length_append, List.length_cons, List.length_nil]
  omega
set_option maxRecDepth 100000 in
set_option maxHeartbeats 2000000 in
theorem works_is (w : World) : Calls Try.prog 14 #[] w fun e w' => e = .returned (.bool true) ∧ Below w.heap.size w w' := by
  have h1 := en_len_le (tf_wf (n := 1) (by decide)) (tf_rf (by decide))
  have h2 := en_len_le (tf_wf (n := 2) (by decide)) (tf_rf (by decide))
  have hp1 := en_pos (tf 1)
  have hp2 := en_pos (tf 2)
  have HE := hd two_exts
  have HF := hd two_fst
  have HC := hd two_cln
  have HT : Hid (two = [1, 2] ++ (en (tf 1) ++ en (tf 2))) := rfl
  have HTL := hd two_len
  have HCN : Hid (∀ x : World, Calls Try.prog 49 #[.int .u64 1] x fun e w' => ∃ u, e = .returned u ∧ JB w' x.heap.size u (en (tf 1)) ∧ Below x.heap.size x w') := fun x => tea_is 1 x (by decide) (by decide)
  have HCN2 : Hid (∀ x : World, Calls Try.prog 49 #[.int .u64 2] x fun e w' => ∃ u, e = .returned u ∧ JB w' x.heap.size u (en (tf 2)) ∧ Below x.heap.size x w') := fun x => tea_is 2 x (by decide) (by decide)
  obtain ⟨A, hA⟩ : ∃ A, A = en (tf 1) := ⟨_, rfl⟩
  obtain ⟨B, hB⟩ : ∃ B, B = en (tf 2) := ⟨_, rfl⟩
  rw [← hA, ← hB] at HE
  rw [← hA] at HF h1 hp1
  rw [← hB] at h2 hp2
  rw [← hA, ← hB] at HC HT
  simp only [← hA] at HCN
  simp only [← hB] at HCN2
  clear hA hB
  have hne : ((A.length : Int) == 0) = false := by rw [beq_eq_false_iff_ne]; omega
  have hne2 : ¬ A = [] := by rintro rfl; simp at hp1
  go_enter Try.func14, Try.ntmps14
  go_wp2_with fail
  refine Calls.mono (HCN.out w) ?_
  rintro e w1 ⟨u1, rfl, j1, b1⟩
  obtain ⟨a1, c1, rfl, hc1⟩ := JK.shape (k := .u8) (M := 256) (E := 5) j1
  have J1 := hd j1
  have B1 := hd b1
  have hs1 := b1.size
  clear j1 b1 HCN
  go_wp2_with fail
  refine Calls.mono (HCN2.out w1) ?_
  rintro e w2 ⟨u2, rfl, j2, b2⟩
  obtain ⟨a2, c2, rfl, hc2⟩ := JK.shape (k := .u8) (M := 256) (E := 5) j2
  have J2 := hd j2
  have I1 := hd (J1.out.isB.below b2)
  have I2 := hd j2.isB
  have B2 := hd (B1.out.trans (b2.mono hs1))
  have hs2 := b2.size
  clear j2 b2 HCN2 J1 B1
  have tok1 : True := trivial
  go_wp2_with (first
    | (at_builtin; have _t := tok1; refine wpList_append_jk Try.underlying22 info_u8 _ rfl _ _ rfl w2.heap.size (.slice none 0 0) (.slice (some ⟨w2.heap.size, 0, none⟩) 2 2) [] [1, 2] rfl rfl (jk_nil _ _) (lit_isK_at .u8 256 w2 #[.int .u8 1, .int .u8 2] 5 [1, 2] 2 w2.heap.size rfl rfl rfl (by simp) (by simp [maxLen])) 2 rfl [1, 2] rfl (by omega) (by omega) (by simp) ?_; intro a3 c3 w3 hj3 hg3 hk3 hc3; clear tok1; have tok2 : True := trivial; have b3 : Below w2.heap.size w2 w3 := ((Below.refl _ w2).alloc (Nat.le_refl _) _).grown hg3 (by simp) (fun k e => by cases e); have hs3 := b3.size; clear hk3)
    | (at_builtin; have _t := tok2; refine wpList_append_jk Try.underlying22 info_u8 _ rfl _ _ rfl w2.heap.size (.slice a3 2 c3) (.slice a1 A.length c1) [1, 2] A rfl rfl hj3 (I1.out.below b3) (2 + A.length) rfl ([1, 2] ++ A) rfl (by omega) (by omega) hs3 ?_; intro a4 c4 w4 hj4 hg4 hk4 hc4; clear tok2; have tok3 : True := trivial; have b4 := b3.grown hg4 hs3 (fun k e => hj3.blk_ge k e); have hs4 := b4.size; clear hk4)
    | (at_builtin; have _t := tok3; refine wpList_append_jk Try.underlying22 info_u8 _ rfl _ _ rfl w2.heap.size (.slice a4 (2 + A.length) c4) (.slice a2 B.length c2) ([1, 2] ++ A) B rfl rfl hj4 (I2.out.below b4) (2 + A.length + B.length) (by simp; omega) two (by rw [HT.out, List.append_assoc]) (by omega) (by omega) hs4 ?_; intro a5 c5 w5 hj5 hg5 hk5 hc5; clear tok3; have b5 := b4.grown hg5 hs4 (fun k e => hj4.blk_ge k e); have hs5 := b5.size; clear hk5))
  have hI5 := hj5.isK
  have HI5 := hd hI5
  have HB5 := hd (B2.out.trans (b5.mono (by omega)))
  clear hj3 hg3 hj4 hg4 hj5 hg5 b3 b4 hI5 J2
  have hs5' : w2.heap.size ≤ w5.heap.size := hs5
  refine Calls.mono (extents_is _ two w5 HI5.out (by have := HTL.out; omega)) ?_
  rintro e w6 ⟨v6, rfl, j6, b6⟩
  rw [HE.out] at j6
  obtain ⟨g6, c6, hv6, hc6, _⟩ := j6.nn (by simp)
  subst hv6
  have J6 := hd j6
  have HI6 := hd (HI5.out.below b6)
  have HB6 := hd (HB5.out.trans (b6.mono HB5.out.size))
  have hs6 := b6.size
  clear j6 b6 HI5 HB5
  go_wp2_with fail
  refine Calls.mono (snext_is _ two 0 w6 HI6.out) ?_
  rw [HF.out]
  rintro e w7 ⟨rfl, b7⟩
  have J7 := hd (J6.out.keepAll b7)
  have HI7 := hd (HI6.out.below b7)
  have HB7 := hd (HB6.out.trans (b7.mono HB6.out.size))
  have hs7 := b7.size
  clear b7 J6 HI6 HB6
  go_wp2_with fail
  refine Calls.mono (clean_is _ two w7 HI7.out (by have := HTL.out; omega)) ?_
  rintro e w8 ⟨v8, rfl, j8, b8⟩
  obtain ⟨a8, c8, hv8, _⟩ := JK.shape (k := .u8) (M := 256) (E := 5) j8
  rw [HC.out] at hv8
  subst hv8
  have j8' := J7.out.keepAll b8
  have HB8 := hd (HB7.out.trans (b8.mono HB7.out.size))
  have r0 : w8.cell? ⟨g6, 0, none⟩ = some (.bool true) := j8'.at 0 [.bool true, .int .i64 0, .int .i64 2] 0 _ rfl rfl
  have r1 : w8.cell? ⟨g6, 1, none⟩ = some (.int .i64 0) := j8'.at 0 [.bool true, .int .i64 0, .int .i64 2] 1 _ rfl rfl
  have r2 : w8.cell? ⟨g6, 2, none⟩ = some (.int .i64 2) := j8'.at 0 [.bool true, .int .i64 0, .int .i64 2] 2 _ rfl rfl
  have r3 : w8.cell? ⟨g6, 3, none⟩ = some (.bool false) := j8'.at 1 [.bool false, .int .i64 2, .int .i64 (A.length : Int)] 0 _ rfl rfl
  have r4 : w8.cell? ⟨g6, 4, none⟩ = some (.int .i64 2) := j8'.at 1 [.bool false, .int .i64 2, .int .i64 (A.length : Int)] 1 _ rfl rfl
  have r5 : w8.cell? ⟨g6, 5, none⟩ = some (.int .i64 (A.length : Int)) := j8'.at 1 [.bool false, .int .i64 2, .int .i64 (A.length : Int)] 2 _ rfl rfl
  have r6 : w8.cell? ⟨g6, 6, none⟩ = some (.bool false) := j8'.at 2 [.bool false, .int .i64 (2 + (A.length : Int)), .int .i64 (B.length : Int)] 0 _ rfl rfl
  have r7 : w8.cell? ⟨g6, 7, none⟩ = some (.int .i64 (2 + (A.length : Int))) := j8'.at 2 [.bool false, .int .i64 (2 + (A.length : Int)), .int .i64 (B.length : Int)] 1 _ rfl rfl
  have r8 : w8.cell? ⟨g6, 8, none⟩ = some (.int .i64 (B.length : Int)) := j8'.at 2 [.bool false, .int .i64 (2 + (A.length : Int)), .int .i64 (B.length : Int)] 2 _ rfl rfl
  clear j8 b8 J7 HI7 HB7 j8' HE HF HC HT I1 I2 B2
  go_wp2_with fail
  go_ret
  exact ⟨rfl, HB8.out⟩
end Vt
end Go.Proofs.Ytlddogigbodilaa
