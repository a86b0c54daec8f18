/-
  THE REFERENCE OF LAYER 4: opened of an ending's body.
-/
import Derived.Test.YtnjhbidialngmaaXhay
namespace Go.Proofs.Ytnjhbidialngmaa
open Go.RowKit
namespace Vt
/-- a small number read -/
def Sm1 (l : List Nat) (at_ : Nat) (bad : Bool) (n a : Nat) (bad' : Bool) : Prop := (bad' = bad ∧ ((dec (l.drop at_)).2.2 = 0 ∧ (dec (l.drop at_)).1 ≤ 4294967295) ∧ n = (dec (l.drop at_)).1 ∧ a = at_ + (dec (l.drop at_)).2.1) ∨ (bad' = true ∧ ¬ ((dec (l.drop at_)).2.2 = 0 ∧ (dec (l.drop at_)).1 ≤ 4294967295))
theorem sm1_front {l : List Nat} {at_ : Nat} {bad bad' : Bool} {n a : Nat} (h : Sm1 l at_ bad n a bad') {m : Nat} {r : List Nat} (hm : m ≤ 4294967295) (he : l.drop at_ = vrt m ++ r) : bad' = bad ∧ n = m ∧ l.drop a = r := by
  obtain ⟨q1, q2, q3⟩ := dec_front (n := m) (by omega) he
  rcases h with ⟨h1, _, h3, h4⟩ | ⟨_, h2⟩
  · exact ⟨h1, by rw [h3, q2], by rw [h4, ← List.drop_drop]; exact q3⟩
  · exact absurd ⟨q1, by rw [q2]; exact hm⟩ h2
theorem sm1_back {l : List Nat} {at_ : Nat} {bad : Bool} {n a : Nat} (hb : Byt l) (h : Sm1 l at_ bad n a false) : bad = false ∧ l.drop at_ = vrt n ++ l.drop a ∧ n ≤ 4294967295 := by
  rcases h with ⟨h1, h2, h3, h4⟩ | ⟨h1, _⟩
  · obtain ⟨d1, _, _⟩ := dec_split (byt_drop hb at_) h2.1
    refine ⟨h1.symm, ?_, by rw [h3]; exact h2.2⟩
    rw [h3, h4, ← List.drop_drop]; exact d1
  · cases h1
theorem foot_reads {s : List Nat} {f : Fr} (hf : Bdy (4 :: s) f) {n1 a1 n2 a2 n3 a3 n4 a4 : Nat} {b1 b2 b3 b4 : Bool} (h1 : Sm1 (4 :: s) 1 false n1 a1 b1) (h2 : Sm1 (4 :: s) a1 b1 n2 a2 b2) (h3 : Sm1 (4 :: s) a2 b2 n3 a3 b3) (h4 : Sm1 (4 :: s) a3 b3 n4 a4 b4) :
    b4 = false ∧ (4 :: s).drop a4 = [] ∧ f = ffrQ ⟨(n1 : Int), (n2 : Int), (n3 : Int), n4⟩ := by
  rcases hf.kind with ⟨_, e, _⟩ | ⟨_, e, _⟩ | ⟨_, e, _⟩ | ⟨_, e, ef, hs, hc, hby, hfr⟩
  · injection e with e; cases e
  · injection e with e; cases e
  · injection e with e; cases e
  · injection e with _ e
    obtain ⟨q1, q2, q3⟩ := sm1_front h1 (by omega) (show (4 :: s).drop 1 = _ from e)
    obtain ⟨r1, r2, r3⟩ := sm1_front h2 (by omega) q3
    obtain ⟨t1, t2, t3⟩ := sm1_front h3 (by omega) r3
    obtain ⟨u1, u2, u3⟩ := sm1_front h4 (m := f.e.sum) (r := []) (by omega) (by rw [t3, List.append_nil])
    refine ⟨by rw [u1, t1, r1, q1], u3, ?_⟩
    rw [q2, r2, t2, u2, ef]
    unfold ffrQ
    have e1 : ((f.e.count.toNat : Nat) : Int) = f.e.count := by omega
    have e2 : ((f.e.bytes.toNat : Nat) : Int) = f.e.bytes := by omega
    have e3 : ((f.e.frames.toNat : Nat) : Int) = f.e.frames := by omega
    simp only [e1, e2, e3]
/-- an ending's numbers, as they stand -/
def Bdy4 (s : List Nat) (a b c d : Nat) : Prop := s = vrt a ++ (vrt b ++ (vrt c ++ vrt d))
attribute [local go_sem] Oper.semAt_some
set_option maxRecDepth 100000 in
set_option maxHeartbeats 2000000 in
theorem opened_foot (b off c : Nat) (s : List Nat) (w : World) (hI : IsB w (.slice (some ⟨b, off, none⟩) (4 :: s).length c) (4 :: s)) (hm : (4 :: s).length ≤ 4194304) :
    Calls Try.prog 87 #[.slice (some ⟨b, off, none⟩) (4 :: s).length c] w fun e w' => opR (4 :: s) e ∧ Below w.heap.size w w' := by
  have hmx : Try.prog.follows .mixedOrders = true := by kernel_rfl
  have r0 := hI.row 0 (by simp)
  rw [Nat.add_zero] at r0
  have r0' : w.cell? ⟨b, off, none⟩ = some (.int .u8 4) := r0
  have hbw : b < w.heap.size := lt_of_cell r0'
  have HI := hd hI
  clear r0 hI
  obtain ⟨L, hL⟩ : ∃ L, L = (4 :: s).length := ⟨_, rfl⟩
  have hL1 : 1 ≤ L := by rw [hL]; simp
  have hL0 : ((L : Int) == 0) = false := by rw [beq_eq_false_iff_ne]; omega
  rw [← hL] at hm HI ⊢
  have HLL := hd hL
  clear hL
  go_enter Try.func87, Try.ntmps87
  go_wp2_with fail
  have HLow : Hid (Low (.slice (some ⟨b, off, none⟩) L c) w.heap.size) := low_some hbw
  have hmL : (4 :: s).length ≤ 4194304 := by rw [← HLL.out]; exact hm
  have h1L : 1 ≤ (4 :: s).length := by simp
  refine Calls.mono (pen_small (w.heap.size + 1) (4 :: s) 1 false _ (pn_start w _ _ _ _ HI.out HLow.out h1L) hmL) ?_
  rintro e w4 ⟨hr, hK⟩
  have hF := (fr_start w _ _ [.int .i64 4, .int .u64 0, .int .i64 0, .string ⟨#[]⟩, .string ⟨#[]⟩, .int .u64 0, .int .i64 0, .int .i64 0, .int .i64 0, .string ⟨#[]⟩, .int .i64 0, .int .i64 0, .int .i64 0, .int .u32 0]).keepO (by omega) hK
  have hR := (rs_start w _ _ [.int .i64 0, .int .u64 0, .int .i64 0, .string ⟨#[]⟩, .string ⟨#[]⟩, .int .u64 0, .int .i64 0, .int .i64 0, .int .i64 0, .string ⟨#[]⟩, .int .i64 0, .int .i64 0, .int .i64 0, .int .u32 0]).keepO (by omega) hK
  have hBw := (st_below w _ _ _).trans (hK.below (by omega) (st_below w _ _ _).size)
  obtain ⟨N, hN⟩ : ∃ N, N = w.heap.size := ⟨_, rfl⟩
  rw [← hN] at hr hF hR hBw ⊢
  have HN := hd hN
  have HB4 := hd hBw
  have HF4 := hd hF
  have HR4 := hd hR
  clear hK hN hBw hF hR
  obtain ⟨n1, a1, b1, rfl, hP4, hn1, hc1⟩ := psR_any hr
  have HC1 := hd hc1
  have HP4 := hd hP4
  clear hr hc1 hP4
  have nb1 : ¬ N + 1 = N + 1 + 1 := by omega
  have nb2 : ¬ N + 1 + 1 = N + 1 := by omega
  have nb3 : ¬ N = N + 1 + 1 := by omega
  have nb4 : ¬ N + 1 + 1 = N := by omega
  have f1 := HF4.out.frozen 10
  have g1 := HF4.out.cell 10 _ rfl
  go_wp2_with fail
  refine Calls.mono (pen_small (N + 1) (4 :: s) a1 b1 _ (HP4.out.setO (p := ⟨N + 1 + 1, 10, none⟩) (by show N + 1 < N + 1 + 1; omega) _) hmL) ?_
  rintro e w5 ⟨hr, hK⟩
  obtain ⟨n2, a2, b2, rfl, hPx, hn2, hcx⟩ := psR_any hr
  have HC2 := hd hcx
  have HP5 := hd hPx
  have HF5 := hd ((HF4.out.set (j := 10) (.int .i64 (n1 : Int))).keepO (by omega) hK)
  have HR5 := hd ((HR4.out.other (p := ⟨N + 1 + 1, 10, none⟩) (by show N + 1 + 1 ≠ N; omega) (.int .i64 (n1 : Int))).keepO (by omega) hK)
  have HB5 : Hid (Below N w w5) := (HB4.out.setCell (p := ⟨N + 1 + 1, 10, none⟩) (by show N ≤ N + 1 + 1; omega) (.int .i64 (n1 : Int))).trans (hK.below (by omega) (by have := HR4.out.lt; simp [World.setCell]; omega))
  clear hr hK hcx hPx HP4 HF4 HR4 HB4 f1 g1
  have f2 := HF5.out.frozen 11
  have g2 := HF5.out.cell 11 _ rfl
  go_wp2_with fail
  refine Calls.mono (pen_small (N + 1) (4 :: s) a2 b2 _ (HP5.out.setO (p := ⟨N + 1 + 1, 11, none⟩) (by show N + 1 < N + 1 + 1; omega) _) hmL) ?_
  rintro e w6 ⟨hr, hK⟩
  obtain ⟨n3, a3, b3, rfl, hPx, hn3, hcx⟩ := psR_any hr
  have HC3 := hd hcx
  have HP6 := hd hPx
  have HF6 := hd ((HF5.out.set (j := 11) (.int .i64 (n2 : Int))).keepO (by omega) hK)
  have HR6 := hd ((HR5.out.other (p := ⟨N + 1 + 1, 11, none⟩) (by show N + 1 + 1 ≠ N; omega) (.int .i64 (n2 : Int))).keepO (by omega) hK)
  have HB6 : Hid (Below N w w6) := (HB5.out.setCell (p := ⟨N + 1 + 1, 11, none⟩) (by show N ≤ N + 1 + 1; omega) (.int .i64 (n2 : Int))).trans (hK.below (by omega) (by have := HR5.out.lt; simp [World.setCell]; omega))
  clear hr hK hcx hPx HP5 HF5 HR5 HB5 f2 g2
  have f3 := HF6.out.frozen 12
  have g3 := HF6.out.cell 12 _ rfl
  go_wp2_with fail
  refine Calls.mono (pen_small (N + 1) (4 :: s) a3 b3 _ (HP6.out.setO (p := ⟨N + 1 + 1, 12, none⟩) (by show N + 1 < N + 1 + 1; omega) _) hmL) ?_
  rintro e w7 ⟨hr, hK⟩
  obtain ⟨n4, a4, b4, rfl, hPx, hn4, hcx⟩ := psR_any hr
  have HC4 := hd hcx
  have HP7 := hd hPx
  have HF7 := hd ((HF6.out.set (j := 12) (.int .i64 (n3 : Int))).keepO (by omega) hK)
  have HR7 := hd ((HR6.out.other (p := ⟨N + 1 + 1, 12, none⟩) (by show N + 1 + 1 ≠ N; omega) (.int .i64 (n3 : Int))).keepO (by omega) hK)
  have HB7 : Hid (Below N w w7) := (HB6.out.setCell (p := ⟨N + 1 + 1, 12, none⟩) (by show N ≤ N + 1 + 1; omega) (.int .i64 (n3 : Int))).trans (hK.below (by omega) (by have := HR6.out.lt; simp [World.setCell]; omega))
  clear hr hK hcx hPx HP6 HF6 HR6 HB6 f3 g3
  have f4 := HF7.out.frozen 13
  have g4 := HF7.out.cell 13 _ rfl
  have hw4 : IntKind.u32.wrap (n4 : Int) = (n4 : Int) := by rw [IntKind.wrap_u32]; omega
  have HRX := hd (HR7.out.other (p := ⟨N + 1 + 1, 13, none⟩) (by show N + 1 + 1 ≠ N; omega) (.int .u32 (n4 : Int)))
  have HBX : Hid (Below N w (w7.setCell ⟨N + 1 + 1, 13, none⟩ (.int .u32 (n4 : Int)))) := HB7.out.setCell (p := ⟨N + 1 + 1, 13, none⟩) (by show N ≤ N + 1 + 1; omega) _
  have hale : a4 ≤ (4 :: s).length := by obtain ⟨_, _, _, _, h⟩ := HP7.out; exact h
  have hP7 := HP7.out
  obtain ⟨v7, hBk, _⟩ := hP7
  have c1 := hBk.cell 1 _ rfl
  have c2 := hBk.cell 2 _ rfl
  have m0 := HF7.out.cell 0 _ rfl
  have m1 := HF7.out.cell 1 _ rfl
  have m2 := HF7.out.cell 2 _ rfl
  have m3 := HF7.out.cell 3 _ rfl
  have m4 := HF7.out.cell 4 _ rfl
  have m5 := HF7.out.cell 5 _ rfl
  have m6 := HF7.out.cell 6 _ rfl
  have m7 := HF7.out.cell 7 _ rfl
  have m8 := HF7.out.cell 8 _ rfl
  have m9 := HF7.out.cell 9 _ rfl
  have m10 := HF7.out.cell 10 _ rfl
  have m11 := HF7.out.cell 11 _ rfl
  have m12 := HF7.out.cell 12 _ rfl
  have y0 := HR7.out.cell 0 _ rfl
  have yz0 := HR7.out.frozen 0
  have y1 := HR7.out.cell 1 _ rfl
  have yz1 := HR7.out.frozen 1
  have y2 := HR7.out.cell 2 _ rfl
  have yz2 := HR7.out.frozen 2
  have y3 := HR7.out.cell 3 _ rfl
  have yz3 := HR7.out.frozen 3
  have y4 := HR7.out.cell 4 _ rfl
  have yz4 := HR7.out.frozen 4
  have y5 := HR7.out.cell 5 _ rfl
  have yz5 := HR7.out.frozen 5
  have y6 := HR7.out.cell 6 _ rfl
  have yz6 := HR7.out.frozen 6
  have y7 := HR7.out.cell 7 _ rfl
  have yz7 := HR7.out.frozen 7
  have y8 := HR7.out.cell 8 _ rfl
  have yz8 := HR7.out.frozen 8
  have y9 := HR7.out.cell 9 _ rfl
  have yz9 := HR7.out.frozen 9
  have y10 := HR7.out.cell 10 _ rfl
  have yz10 := HR7.out.frozen 10
  have y11 := HR7.out.cell 11 _ rfl
  have yz11 := HR7.out.frozen 11
  have y12 := HR7.out.cell 12 _ rfl
  have yz12 := HR7.out.frozen 12
  have y13 := HR7.out.cell 13 _ rfl
  have yz13 := HR7.out.frozen 13
  clear hBk
  cases b4 with
  | true =>
    have HNO : Hid (∀ f, ¬ Bdy (4 :: s) f) := fun f hf => by
      have := foot_reads hf HC1.out HC2.out HC3.out HC4.out
      cases this.1
    go_wp2_with fail
    refine bodyPost_ret (results_cell2 rfl _ _ N 34 #[.int .i64 0, .int .u64 0, .int .i64 0, .string ⟨#[]⟩, .string ⟨#[]⟩, .int .u64 0, .int .i64 0, .int .i64 0, .int .i64 0, .string ⟨#[]⟩, .int .i64 0, .int .i64 0, .int .i64 0, .int .u32 0] (0, 0) _ rfl (setL_blk [.int .i64 0, .int .u64 0, .int .i64 0, .string ⟨#[]⟩, .string ⟨#[]⟩, .int .u64 0, .int .i64 0, .int .i64 0, .int .i64 0, .string ⟨#[]⟩, .int .i64 0, .int .i64 0, .int .i64 0, .int .u32 0] _ 0 [] [.int .i64 0, .int .u64 0, .int .i64 0, .string ⟨#[]⟩, .string ⟨#[]⟩, .int .u64 0, .int .i64 0, .int .i64 0, .int .i64 0, .string ⟨#[]⟩, .int .i64 0, .int .i64 0, .int .i64 0, .int .u32 0] rfl rfl HRX.out) Try.underlying34 rfl (by kernel_rfl)) rfl ?_
    refine ⟨.inr ⟨HNO.out, rfl⟩, ?_⟩
    have hNN := HN.out
    exact (setL_keepO (B := N) (O := N) [.int .i64 0, .int .u64 0, .int .i64 0, .string ⟨#[]⟩, .string ⟨#[]⟩, .int .u64 0, .int .i64 0, .int .i64 0, .int .i64 0, .string ⟨#[]⟩, .int .i64 0, .int .i64 0, .int .i64 0, .int .u32 0] _ w 0 (by omega) (KeepO.of_below (hNN ▸ HBX.out))).below (by omega) (Nat.le_refl _)
  | false =>
    have hfit : (4 :: s).drop a4 = [] → Bdy4 s n1 n2 n3 n4 := fun h0 => by
      obtain ⟨e4, d4, _⟩ := sm1_back HI.out.1 HC4.out
      subst e4
      obtain ⟨e3, d3, _⟩ := sm1_back HI.out.1 HC3.out
      subst e3
      obtain ⟨e2, d2, _⟩ := sm1_back HI.out.1 HC2.out
      subst e2
      obtain ⟨_, d1, _⟩ := sm1_back HI.out.1 HC1.out
      rw [h0, List.append_nil] at d4
      rw [d4] at d3
      rw [d3] at d2
      rw [d2] at d1
      exact d1
    have HFIT := hd hfit
    clear hfit
    by_cases hlt : a4 < L
    · have hlt' : (a4 : Int) < (L : Int) := by omega
      have HNO : Hid (∀ f, ¬ Bdy (4 :: s) f) := fun f hf => by
        have h := (foot_reads hf HC1.out HC2.out HC3.out HC4.out).2.1
        have := congrArg List.length h
        rw [List.length_drop, ← HLL.out] at this
        simp at this
        omega
      go_wp2_with fail
      refine bodyPost_ret (results_cell2 rfl _ _ N 34 #[.int .i64 0, .int .u64 0, .int .i64 0, .string ⟨#[]⟩, .string ⟨#[]⟩, .int .u64 0, .int .i64 0, .int .i64 0, .int .i64 0, .string ⟨#[]⟩, .int .i64 0, .int .i64 0, .int .i64 0, .int .u32 0] (0, 0) _ rfl (setL_blk [.int .i64 0, .int .u64 0, .int .i64 0, .string ⟨#[]⟩, .string ⟨#[]⟩, .int .u64 0, .int .i64 0, .int .i64 0, .int .i64 0, .string ⟨#[]⟩, .int .i64 0, .int .i64 0, .int .i64 0, .int .u32 0] _ 0 [] [.int .i64 0, .int .u64 0, .int .i64 0, .string ⟨#[]⟩, .string ⟨#[]⟩, .int .u64 0, .int .i64 0, .int .i64 0, .int .i64 0, .string ⟨#[]⟩, .int .i64 0, .int .i64 0, .int .i64 0, .int .u32 0] rfl rfl HRX.out) Try.underlying34 rfl (by kernel_rfl)) rfl ?_
      refine ⟨.inr ⟨HNO.out, rfl⟩, ?_⟩
      have hNN := HN.out
      exact (setL_keepO (B := N) (O := N) [.int .i64 0, .int .u64 0, .int .i64 0, .string ⟨#[]⟩, .string ⟨#[]⟩, .int .u64 0, .int .i64 0, .int .i64 0, .int .i64 0, .string ⟨#[]⟩, .int .i64 0, .int .i64 0, .int .i64 0, .int .u32 0] _ w 0 (by omega) (KeepO.of_below (hNN ▸ HBX.out))).below (by omega) (Nat.le_refl _)
    · have hlt' : ¬ (a4 : Int) < (L : Int) := by omega
      have HYES : Hid (rf (ffrQ ⟨(n1 : Int), (n2 : Int), (n3 : Int), n4⟩) = 0 → Bdy (4 :: s) (ffrQ ⟨(n1 : Int), (n2 : Int), (n3 : Int), n4⟩)) := fun hr =>
        foot_bdy (HFIT.out (List.drop_of_length_le (by rw [← HLL.out]; omega))) (by omega) hr
      have HNO : Hid (rf (ffrQ ⟨(n1 : Int), (n2 : Int), (n3 : Int), n4⟩) ≠ 0 → ∀ f, ¬ Bdy (4 :: s) f) := fun hr f hf => by
        have h := (foot_reads hf HC1.out HC2.out HC3.out HC4.out).2.2
        rw [h] at hf
        exact hr hf.1
      have HMAY := hd (may_foot (n1 : Int) (n2 : Int) (n3 : Int) n4)
      go_wp2_with fail
      refine Calls.mono (HMAY.out _) ?_
      rintro e w8 ⟨rfl, hb8⟩
      have hF8 := (HF7.out.set (j := 13) (.int .u32 (n4 : Int))).keep hb8
      have hR8 := HRX.out.keep hb8
      have HB8 := hd (HBX.out.trans (hb8.mono (by have := HBX.out.size; have := HN.out; omega)))
      have HR8 := hd hR8
      have u0 := hF8.cell 0 _ rfl
      have u1 := hF8.cell 1 _ rfl
      have u2 := hF8.cell 2 _ rfl
      have u3 := hF8.cell 3 _ rfl
      have u4 := hF8.cell 4 _ rfl
      have u5 := hF8.cell 5 _ rfl
      have u6 := hF8.cell 6 _ rfl
      have u7 := hF8.cell 7 _ rfl
      have u8 := hF8.cell 8 _ rfl
      have u9 := hF8.cell 9 _ rfl
      have u10 := hF8.cell 10 _ rfl
      have u11 := hF8.cell 11 _ rfl
      have u12 := hF8.cell 12 _ rfl
      have u13 := hF8.cell 13 _ rfl
      have v0 := hR8.cell 0 _ rfl
      have vz0 := hR8.frozen 0
      have v1 := hR8.cell 1 _ rfl
      have vz1 := hR8.frozen 1
      have v2 := hR8.cell 2 _ rfl
      have vz2 := hR8.frozen 2
      have v3 := hR8.cell 3 _ rfl
      have vz3 := hR8.frozen 3
      have v4 := hR8.cell 4 _ rfl
      have vz4 := hR8.frozen 4
      have v5 := hR8.cell 5 _ rfl
      have vz5 := hR8.frozen 5
      have v6 := hR8.cell 6 _ rfl
      have vz6 := hR8.frozen 6
      have v7 := hR8.cell 7 _ rfl
      have vz7 := hR8.frozen 7
      have v8 := hR8.cell 8 _ rfl
      have vz8 := hR8.frozen 8
      have v9 := hR8.cell 9 _ rfl
      have vz9 := hR8.frozen 9
      have v10 := hR8.cell 10 _ rfl
      have vz10 := hR8.frozen 10
      have v11 := hR8.cell 11 _ rfl
      have vz11 := hR8.frozen 11
      have v12 := hR8.cell 12 _ rfl
      have vz12 := hR8.frozen 12
      have v13 := hR8.cell 13 _ rfl
      have vz13 := hR8.frozen 13
      clear hF8 hR8 hb8 HMAY
      by_cases hrf : rf (ffrQ ⟨(n1 : Int), (n2 : Int), (n3 : Int), n4⟩) = 0
      · have HY := hd (HYES.out hrf)
        rw [hrf]
        clear hrf
        go_wp2_with fail
        refine bodyPost_ret (results_cell2 rfl _ _ N 34 #[.int .i64 4, .int .u64 0, .int .i64 0, .string ⟨#[]⟩, .string ⟨#[]⟩, .int .u64 0, .int .i64 0, .int .i64 0, .int .i64 0, .string ⟨#[]⟩, .int .i64 (n1 : Int), .int .i64 (n2 : Int), .int .i64 (n3 : Int), .int .u32 (n4 : Int)] (0, 0) _ rfl (setL_blk [.int .i64 4, .int .u64 0, .int .i64 0, .string ⟨#[]⟩, .string ⟨#[]⟩, .int .u64 0, .int .i64 0, .int .i64 0, .int .i64 0, .string ⟨#[]⟩, .int .i64 (n1 : Int), .int .i64 (n2 : Int), .int .i64 (n3 : Int), .int .u32 (n4 : Int)] _ 0 [] [.int .i64 0, .int .u64 0, .int .i64 0, .string ⟨#[]⟩, .string ⟨#[]⟩, .int .u64 0, .int .i64 0, .int .i64 0, .int .i64 0, .string ⟨#[]⟩, .int .i64 0, .int .i64 0, .int .i64 0, .int .u32 0] rfl rfl HR8.out) Try.underlying34 rfl (by kernel_rfl)) rfl ?_
        refine ⟨.inl ⟨_, HY.out, rfl⟩, ?_⟩
        have hNN := HN.out
        exact (setL_keepO (B := N) (O := N) [.int .i64 4, .int .u64 0, .int .i64 0, .string ⟨#[]⟩, .string ⟨#[]⟩, .int .u64 0, .int .i64 0, .int .i64 0, .int .i64 0, .string ⟨#[]⟩, .int .i64 (n1 : Int), .int .i64 (n2 : Int), .int .i64 (n3 : Int), .int .u32 (n4 : Int)] _ w 0 (by omega) (KeepO.of_below (hNN ▸ HB8.out))).below (by omega) (Nat.le_refl _)
      · have HY := hd (HNO.out hrf)
        have hne : (((rf (ffrQ ⟨(n1 : Int), (n2 : Int), (n3 : Int), n4⟩) : Nat) : Int) != 0) = true := by rw [bne_iff_ne]; intro q; exact hrf (by exact_mod_cast q)
        generalize rf (ffrQ ⟨(n1 : Int), (n2 : Int), (n3 : Int), n4⟩) = er at *
        clear hrf
        go_wp2_with fail
        refine bodyPost_ret (results_cell2 rfl _ _ N 34 #[.int .i64 0, .int .u64 0, .int .i64 0, .string ⟨#[]⟩, .string ⟨#[]⟩, .int .u64 0, .int .i64 0, .int .i64 0, .int .i64 0, .string ⟨#[]⟩, .int .i64 0, .int .i64 0, .int .i64 0, .int .u32 0] (0, 0) _ rfl (setL_blk [.int .i64 0, .int .u64 0, .int .i64 0, .string ⟨#[]⟩, .string ⟨#[]⟩, .int .u64 0, .int .i64 0, .int .i64 0, .int .i64 0, .string ⟨#[]⟩, .int .i64 0, .int .i64 0, .int .i64 0, .int .u32 0] _ 0 [] [.int .i64 0, .int .u64 0, .int .i64 0, .string ⟨#[]⟩, .string ⟨#[]⟩, .int .u64 0, .int .i64 0, .int .i64 0, .int .i64 0, .string ⟨#[]⟩, .int .i64 0, .int .i64 0, .int .i64 0, .int .u32 0] rfl rfl HR8.out) Try.underlying34 rfl (by kernel_rfl)) rfl ?_
        refine ⟨.inr ⟨HY.out, rfl⟩, ?_⟩
        have hNN := HN.out
        exact (setL_keepO (B := N) (O := N) [.int .i64 0, .int .u64 0, .int .i64 0, .string ⟨#[]⟩, .string ⟨#[]⟩, .int .u64 0, .int .i64 0, .int .i64 0, .int .i64 0, .string ⟨#[]⟩, .int .i64 0, .int .i64 0, .int .i64 0, .int .u32 0] _ w 0 (by omega) (KeepO.of_below (hNN ▸ HB8.out))).below (by omega) (Nat.le_refl _)
end Vt
end Go.Proofs.Ytnjhbidialngmaa
