/-
  scan.Next: the first frame from a place on.
-/
import Derived.Test.YtabfgoojhangnaaXeba
namespace Go.Proofs.Ytabfgoojhangnaa
open Go.RowKit Go.Shelf
namespace Vt
attribute [local go_sem] Oper.semAt_some
/-- the first frame from a place on: where, and how long; -1, 0: there is none -/
noncomputable def fst (l : List Nat) (z : Int) : Int × Int := match locs (frm l.length z) (l.drop (frm l.length z)) with
  | [] => (-1, 0)
  | x :: _ => ((x.1 : Int), (x.2.1 : Int))
theorem fst_nil {l : List Nat} {z : Int} (h : locs (frm l.length z) (l.drop (frm l.length z)) = []) : fst l z = (-1, 0) := by unfold fst; rw [h]
theorem fst_cons {l : List Nat} {z : Int} {x : Lc} (h : [x] <+: locs (frm l.length z) (l.drop (frm l.length z))) : fst l z = ((x.1 : Int), (x.2.1 : Int)) := by
  obtain ⟨t, ht⟩ := h
  unfold fst; rw [← ht]; rfl
set_option maxRecDepth 100000 in
set_option maxHeartbeats 2000000 in
theorem snext_is (v : Value) (l : List Nat) (z : Int) (w : World) (hI : IsB w v l) :
    Calls Try.prog 8 #[v, .int .i64 z] w fun e w' => e = .returned (.tuple #[.int .i64 (fst l z).1, .int .i64 (fst l z).2]) ∧ Below w.heap.size w w' := by
  obtain ⟨a, c, rfl⟩ := hI.shape
  have HI := hd hI
  clear hI
  refine (callsIn_wide (n := 8)).1 ?_
  refine callsIn_of_wp_marks Try.func8 rfl trivial (Code.wpIn_mono bodyPostF_M ?_) rfl
  simp only [Try.ntmps8, List.size_toArray, List.length_cons, List.length_nil, Nat.reduceAdd, Nat.reduceSub, Array.replicate_succ, Array.replicate_zero, List.push_toArray, List.append_toArray, List.nil_append, List.cons_append]
  gi_wp2
  refine ⟨trivial, CallsIn.mono (callsIn_wide.2 (located_is _ _ _ _ _)) ?_⟩
  rintro e w4 ⟨rfl, hw4⟩
  obtain ⟨N, hN⟩ : ∃ N, N = w.heap.size := ⟨_, rfl⟩
  have hs4 : w4.heap.size = N + 4 := by rw [hw4, hN]; simp
  have hB4 : Hid (Below w.heap.size w w4) := by rw [hw4]; exact ((((Below.refl _ _).alloc (Nat.le_refl _) _).alloc (by simp) _).alloc (by simp; omega) _).alloc (by simp; omega) _
  have BX4 : Hid (Boxed w4 N 3 (.int .i64 0)) := by rw [hw4, hN]; exact (((Boxed.new w 3 _).alloc _).alloc _).alloc _
  have BE4 : Hid (Boxed w4 (N + 1) 3 (.int .i64 0)) := by
    have := Boxed.new (w.alloc (.cells #[.int .i64 0] 3)) 3 (.int .i64 0)
    rw [World.size_alloc, ← hN] at this
    rw [hw4]; exact (this.alloc _).alloc _
  have BB4 : Hid (Boxed w4 (N + 2) 22 (.slice a l.length c)) := by
    have := Boxed.new ((w.alloc (.cells #[.int .i64 0] 3)).alloc (.cells #[.int .i64 0] 3)) 22 (.slice a l.length c)
    rw [World.size_alloc, World.size_alloc, ← hN] at this
    rw [hw4]; exact this.alloc _
  have BF4 : Hid (Boxed w4 (N + 3) 3 (.int .i64 z)) := by
    have := Boxed.new (((w.alloc (.cells #[.int .i64 0] 3)).alloc (.cells #[.int .i64 0] 3)).alloc (.cells #[.slice a l.length c] 22)) 3 (.int .i64 z)
    rw [World.size_alloc, World.size_alloc, World.size_alloc, ← hN] at this
    rw [hw4]; exact this
  simp only [World.size_alloc]
  rw [← hN] at hB4 ⊢
  have HN := hd hN
  have HIL : Hid (∀ b off c', l ≠ [] → Value.slice a l.length c = .slice (some ⟨b, off, none⟩) l.length c' → b < N) := fun b off c' hne e => by
    obtain ⟨_, _, ⟨rfl, _⟩ | ⟨nb, no, nc, e1, _, _, hnb, hnr⟩⟩ := HI.out
    · exact absurd rfl hne
    · rw [e] at e1; injection e1 with e1 e2 e3; injection e1 with e1; injection e1 with e1 e4; omega
  clear hw4 hN
  have hseq := located_stops 7 (by omega) l.length (SE N) (N + 1 + 1) (N + 1 + 1 + 1) (.slice a l.length c) z l w4 (Nat.le_refl _) (Or.inr rfl) (by omega) (by omega) (se_lt (by omega)) BB4.out.cell BF4.out.cell (HI.out.below (HN.out ▸ hB4.out)) (fun b off c' hne e => Or.inl (by have := HIL.out b off c' hne e; omega))
  have HSQ := hd hseq
  clear hseq
  gi_wp2
  rename_i K hK
  have HK := hd hK
  clear hK
  refine wpIn_rangeFunc_ownH rfl (by omega) (gf := 24) (lb := #[.pointer (some ⟨N + 1 + 1, 0, none⟩), .pointer (some ⟨N + 1 + 1 + 1, 0, none⟩)]) rfl trivial (enters_of Try.func24 (by kernel_rfl) rfl) HSQ.out keepS_t (keepS_b (se_lt (by omega))) (Below.refl _ _) (fun _ => rfl)
    (fun (pre : List (PL l.length)) (W : World) => pre = [] ∧ (Boxed W N 3 (.int .i64 0) ∧ Boxed W (N + 1) 3 (.int .i64 0)) ∧ KeepS (SE N) w4 W)
    (fun cd (pre : List (PL l.length)) (W : World) => cd = .ret ∧ ∃ x : PL l.length, pre = [x] ∧ (Boxed W N 3 (.int .i64 (x.1.1 : Int)) ∧ Boxed W (N + 1) 3 (.int .i64 (x.1.2.1 : Int))) ∧ KeepS (SE N) w4 W)
    (fun s W W' row hs hg hr => ⟨hs.1, ⟨Boxed.keptO hs.2.1.1 hg (fun r e => (hr r e).2), Boxed.keptO hs.2.1.2 hg (fun r e => (hr r e).2)⟩, hs.2.2.grown hg (se_lt (by have := hs.2.2.size; omega)) (fun g e h => by have := (hr g e).1; unfold SE at h; omega)⟩)
    (fun cd s W W' row hs hg hr => by
      obtain ⟨h0, x, h1, h2, h3⟩ := hs
      exact ⟨h0, x, h1, ⟨Boxed.keptO h2.1 hg (fun r e => (hr r e).2), Boxed.keptO h2.2 hg (fun r e => (hr r e).2)⟩, h3.grown hg (se_lt (by have := h3.size; omega)) (fun g e h => by have := (hr g e).1; unfold SE at h; omega)⟩)
    ⟨rfl, ⟨BX4.out, BE4.out⟩, KeepS.refl _⟩
    (fun (x : PL l.length) a' W => ∃ Bx, N + 4 ≤ Bx ∧ Blk W Bx 56 (lcv x.1) ∧ a' = { tmps := #[Value.slice a l.length c, .int .i64 z, undef, undef, Value.pointer (some { block := N, off := 0 }), Value.pointer (some { block := N + 1, off := 0 }), Value.pointer (some { block := Bx, off := 0 }), Value.slice a l.length c, .int .i64 z, Value.func (Fn.func 24) #[] #[Value.pointer (some { block := N + 1 + 1, off := 0 }), Value.pointer (some { block := N + 1 + 1 + 1, off := 0 })], .agg (lcv x.1).toArray, undef, undef, undef, undef], defers := [] })
    (fun x a' _ W W' row hs hg hr => by
      obtain ⟨Bx, h1, h2, h3⟩ := hs
      refine ⟨Bx, h1, h2.grown hg (fun e => ?_), h3⟩
      obtain ⟨o, ho, hc⟩ := (hr Bx e.symm).2
      have h2' : W.heap[Bx]? = _ := h2
      rw [h2'] at ho
      injection ho with ho
      rw [← ho] at hc
      cases hc)
    ?assign ?body ?done ?stop
  case assign =>
    rintro lk pre ⟨⟨x1, x2, k, ⟨rl, rk, rkey, rval⟩, ⟨pl, pk, pa, pn, pkey⟩, ⟨ec, eb, ef, es⟩⟩, hx⟩ W K ⟨h1, h2, h3⟩ hK
    simp only [encl, lcv]
    gi_wp2
    have hsW := h3.size
    exact hK _ _ ((KeepsOthers.alloc _ _).from _) ((KeepS.refl _).alloc (se_lt (by omega)) _) ⟨h1, ⟨h2.1.alloc _, h2.2.alloc _⟩, h3.alloc (se_lt (by omega)) _⟩ ⟨W.heap.size, by omega, Blk.new W 56 (lcv (x1, x2, ⟨k, ⟨rl, rk, rkey, rval⟩, ⟨pl, pk, pa, pn, pkey⟩, ⟨ec, eb, ef, es⟩⟩)), rfl⟩
  case body =>
    rintro lk pre ⟨⟨x1, x2, f⟩, hx⟩ a' W hlk _ ⟨rfl, ⟨b1, b2⟩, hS⟩ ⟨Bx, hBx, hblk, rfl⟩ hlen
    have hmx : Try.prog.follows .mixedOrders = true := by kernel_rfl
    have c14 : W.cell? ⟨Bx, 14, none⟩ = some (.int .i64 (x1 : Int)) := hblk.cell 14 _ rfl
    have c15 : W.cell? ⟨Bx, 15, none⟩ = some (.int .i64 (x2 : Int)) := hblk.cell 15 _ rfl
    have q1 := b1.cell
    have q2 := b1.frozen
    have q3 := b2.cell
    have q4 := b2.frozen
    have n1 : ¬ N = Bx := by omega
    have n2 : ¬ Bx = N := by omega
    have n3 : ¬ N + 1 = Bx := by omega
    have n4 : ¬ Bx = N + 1 := by omega
    have HB1 := hd b1
    have HB2 := hd b2
    have HS := hd hS
    have HA : Hid (KeepsOthers W ((W.setCell ⟨N, 0, none⟩ (.int .i64 (x1 : Int))).setCell ⟨N + 1, 0, none⟩ (.int .i64 (x2 : Int)))) := (KeepsOthers.setCell _ _ _).trans (KeepsOthers.setCell _ _ _)
    have HBa : Hid (Boxed ((W.setCell ⟨N, 0, none⟩ (.int .i64 (x1 : Int))).setCell ⟨N + 1, 0, none⟩ (.int .i64 (x2 : Int))) N 3 (.int .i64 (x1 : Int))) := (b1.set _).other (by omega) _
    have HBb : Hid (Boxed ((W.setCell ⟨N, 0, none⟩ (.int .i64 (x1 : Int))).setCell ⟨N + 1, 0, none⟩ (.int .i64 (x2 : Int))) (N + 1) 3 (.int .i64 (x2 : Int))) := (b2.other (by omega) _).set _
    have HSs : Hid (KeepS (SE N) w4 ((W.setCell ⟨N, 0, none⟩ (.int .i64 (x1 : Int))).setCell ⟨N + 1, 0, none⟩ (.int .i64 (x2 : Int)))) := (hS.setCell (p := ⟨N, 0, none⟩) (fun h => by have h' : N < N ∨ N = N + 2 := h; omega) _).setCell (p := ⟨N + 1, 0, none⟩) (fun h => by have h' : N + 1 < N ∨ N + 1 = N + 2 := h; omega) _
    clear b1 b2 hS hblk
    gi_wp2
    gi_region_with_o (fail)
    all_goals gi_wp2
    all_goals exact ⟨(HA.out.trans (KeepsOthers.drew _)).from _, rfl, ⟨(x1, x2, f), hx⟩, rfl, ⟨HBa.out, HBb.out⟩, HSs.out.drew⟩
  case done =>
    rintro D ys V hD hys ⟨rfl, ⟨b1, b2⟩, hS⟩ hKD
    have hf := fst_nil hys.symm
    gi_wp2
    refine HK.out _ _ ?_
    clear HK
    have q1 := b1.cell
    have q2 := b1.frozen
    have q3 := b2.cell
    have q4 := b2.frozen
    have HF := hd hf
    have HB1 := hd b1
    have HB2 := hd b2
    have HS := hd hS
    have HKD := hd hKD
    clear b1 b2 hS hf hys hKD
    gi_wp2
    have h1 := ((KeepsOthers.setCell V ⟨N, 0, none⟩ (.int .i64 (-1))).trans (KeepsOthers.setCell _ ⟨N + 1, 0, none⟩ (.int .i64 0))).same D _ HKD.out rfl
    refine ⟨by simp, .inl ⟨_, _, rfl, run_takeDeferred h1, ?_⟩⟩
    have c1 := cell_kept (Boxed.cell ((HB1.out.set (.int .i64 (-1))).other (B' := N + 1) (by omega) (.int .i64 0))) (grownBy_putObj' _ D (.deferred none)) (fun r e => by cases e; exact ⟨_, h1, rfl⟩)
    have c2 := cell_kept (Boxed.cell ((HB2.out.other (B' := N) (by omega) (.int .i64 (-1))).set (.int .i64 0))) (grownBy_putObj' _ D (.deferred none)) (fun r e => by cases e; exact ⟨_, h1, rfl⟩)
    have hN' := HN.out
    refine ⟨.tuple #[.int .i64 (-1), .int .i64 0], ?_, by rw [HF.out], ?_⟩
    · simp [results, Try.f8, go_sem, c1, c2]
    · rw [← hN']
      have b1 : Below N w V := hB4.out.trans (HS.out.below (fun g hg => Or.inl hg))
      exact ((b1.setCell (p := ⟨N, 0, none⟩) (Nat.le_refl _) _).setCell (p := ⟨N + 1, 0, none⟩) (by show N ≤ N + 1; omega) _).trans (belowK_b (w := w) (by omega) _ D _ _ (by have := hB4.out.size; omega) h1 rfl rfl)
  case stop =>
    rintro D c2 pre W hD hp ⟨rfl, x, rfl, ⟨b1, b2⟩, hS⟩ hKD
    have hf := fst_cons (x := x.1) hp
    have hN' := HN.out
    gi_wp2
    refine ⟨by simp, .inl ⟨_, _, rfl, run_takeDeferred hKD, ?_⟩⟩
    have c1 := cell_kept b1.cell (grownBy_putObj' W D (.deferred none)) (fun r e => by cases e; exact ⟨_, hKD, rfl⟩)
    have c2 := cell_kept b2.cell (grownBy_putObj' W D (.deferred none)) (fun r e => by cases e; exact ⟨_, hKD, rfl⟩)
    refine ⟨.tuple #[.int .i64 (x.1.1 : Int), .int .i64 (x.1.2.1 : Int)], ?_, by rw [hf], ?_⟩
    · simp [results, Try.f8, go_sem, c1, c2]
    · rw [← hN']
      have b1 : Below N w W := hB4.out.trans (hS.below (fun g hg => Or.inl hg))
      exact b1.trans (belowK_b (w := w) (by omega) _ D _ _ (by have := hB4.out.size; omega) hKD rfl rfl)
end Vt
end Go.Proofs.Ytabfgoojhangnaa
