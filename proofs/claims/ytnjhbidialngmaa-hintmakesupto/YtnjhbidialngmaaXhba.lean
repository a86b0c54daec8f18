/-
  THE REFERENCE OF LAYER 4: opened of a pointer's body.
-/
import Derived.Test.YtnjhbidialngmaaXhaz
namespace Go.Proofs.Ytnjhbidialngmaa
open Go.RowKit
namespace Vt
theorem hint_facts {s : List Nat} {f : Fr} (hf : Bdy (3 :: s) f) : s = vrt f.p.lsn ++ (f.p.kind.toNat :: (vrt f.p.at_.toNat ++ (vrt f.p.len.toNat ++ bl f.p.key))) ∧ f = ⟨3, zr, f.p, ze⟩ ∧ f.p.lsn < 18446744073709551616 ∧ (f.p.kind = 1 ∨ f.p.kind = 2) ∧ (0 ≤ f.p.at_ ∧ f.p.at_ ≤ 4194304) ∧ (0 ≤ f.p.len ∧ f.p.len ≤ 4194304) := by
  rcases hf.kind with ⟨_, e, _⟩ | ⟨_, e, _⟩ | ⟨_, e, h⟩ | ⟨_, e, _⟩
  · injection e with e; cases e
  · injection e with e; cases e
  · injection e with _ e
    exact ⟨e, h⟩
  · injection e with e; cases e
theorem byte_at {x : Nat} (h : x < 256) : wrap64 (((⟨#[UInt8.ofNat x]⟩ : ByteArray)[0]'(by show 0 < 1; decide)).toNat : Int) = (x : Int) := by
  show wrap64 (((UInt8.ofNat x).toNat : Nat) : Int) = _
  have e : (UInt8.ofNat x).toNat = x := by rw [UInt8.toNat_ofNat']; omega
  rw [e]
  unfold wrap64
  omega
theorem hint_reads {s : List Nat} {f : Fr} (hf : Bdy (3 :: s) f) {n a x n2 a2 n3 a3 : Nat} {bad b2 b3 : Bool} (h0 : (bad = false ∧ (dec ((3 :: s).drop 1)).2.2 = 0 ∧ n = (dec ((3 :: s).drop 1)).1 ∧ a = 1 + (dec ((3 :: s).drop 1)).2.1) ∨ (bad = true ∧ (dec ((3 :: s).drop 1)).2.2 ≠ 0)) (hx : (3 :: s).drop a = x :: (3 :: s).drop (a + 1)) (h2 : Sm1 (3 :: s) (a + 1) bad n2 a2 b2) (h3 : Sm1 (3 :: s) a2 b2 n3 a3 b3) :
    b3 = false ∧ f = hfrQ ⟨n, (x : Int), (n2 : Int), (n3 : Int), str ((3 :: s).drop a3)⟩ := by
  obtain ⟨e, ef, hl, hk, ha, hn⟩ := hint_facts hf
  obtain ⟨q1, q2, q3⟩ := dec_front hl e
  rcases h0 with ⟨g1, _, g3, g4⟩ | ⟨_, g2⟩
  · have h5 : (3 :: s).drop a = s.drop (dec s).2.1 := by rw [g4, Nat.add_comm]; rfl
    rw [hx, q3] at h5
    injection h5 with h6 h7
    obtain ⟨r1, r2, r3⟩ := sm1_front h2 (by omega) h7
    obtain ⟨t1, t2, t3⟩ := sm1_front h3 (by omega) r3
    refine ⟨by rw [t1, r1, g1], ?_⟩
    have g3' : n = f.p.lsn := by rw [g3]; exact q2
    rw [t3, str_bl, g3', h6, r2, t2, ef]
    unfold hfrQ
    have e1 : ((f.p.kind.toNat : Nat) : Int) = f.p.kind := by omega
    have e2 : ((f.p.at_.toNat : Nat) : Int) = f.p.at_ := by omega
    have e3 : ((f.p.len.toNat : Nat) : Int) = f.p.len := by omega
    simp only [e1, e2, e3]
  · exact absurd q1 g2
attribute [local go_sem] Oper.semAt_some
set_option maxRecDepth 100000 in
set_option maxHeartbeats 2000000 in
theorem opened_hint (b off c : Nat) (s : List Nat) (w : World) (hI : IsB w (.slice (some ⟨b, off, none⟩) (3 :: s).length c) (3 :: s)) (hm : (3 :: s).length ≤ 4194304) :
    Calls Try.prog 87 #[.slice (some ⟨b, off, none⟩) (3 :: s).length c] w fun e w' => opR (3 :: s) e ∧ Below w.heap.size w w' := by
  have hmx : Try.prog.follows .mixedOrders = true := by kernel_rfl
  have r0 := hI.row 0 (by simp)
  rw [Nat.add_zero] at r0
  have r0' : w.cell? ⟨b, off, none⟩ = some (.int .u8 3) := r0
  have hbw : b < w.heap.size := lt_of_cell r0'
  have HI := hd hI
  clear r0 hI
  obtain ⟨L, hL⟩ : ∃ L, L = (3 :: s).length := ⟨_, rfl⟩
  have hL1 : 1 ≤ L := by rw [hL]; simp
  have hL0 : ((L : Int) == 0) = false := by rw [beq_eq_false_iff_ne]; omega
  rw [← hL] at hm HI ⊢
  have HLL := hd hL
  clear hL
  go_enter Try.func87, Try.ntmps87
  go_wp2_with fail
  have HLow : Hid (Low (.slice (some ⟨b, off, none⟩) L c) w.heap.size) := low_some hbw
  have hmL : (3 :: s).length ≤ 4194304 := by rw [← HLL.out]; exact hm
  have h1L : 1 ≤ (3 :: s).length := by simp
  refine Calls.mono (pen_number (w.heap.size + 1) (3 :: s) 1 false _ (pn_start w _ _ _ _ HI.out HLow.out h1L) hmL) ?_
  rintro e w4 ⟨hr, hK⟩
  have hF := (fr_start w _ _ [.int .i64 3, .int .u64 0, .int .i64 0, .string ⟨#[]⟩, .string ⟨#[]⟩, .int .u64 0, .int .i64 0, .int .i64 0, .int .i64 0, .string ⟨#[]⟩, .int .i64 0, .int .i64 0, .int .i64 0, .int .u32 0]).keepO (by omega) hK
  have hR := (rs_start w _ _ [.int .i64 0, .int .u64 0, .int .i64 0, .string ⟨#[]⟩, .string ⟨#[]⟩, .int .u64 0, .int .i64 0, .int .i64 0, .int .i64 0, .string ⟨#[]⟩, .int .i64 0, .int .i64 0, .int .i64 0, .int .u32 0]).keepO (by omega) hK
  have hBw := (st_below w _ _ _).trans (hK.below (by omega) (st_below w _ _ _).size)
  obtain ⟨N, hN⟩ : ∃ N, N = w.heap.size := ⟨_, rfl⟩
  rw [← hN] at hr hF hR hBw ⊢
  have HN := hd hN
  have HBW := hd hBw
  have HF := hd hF
  have HR := hd hR
  clear hK hN hBw hF hR
  obtain ⟨n, a, bad, rfl, hP, hcase⟩ := pnR_any hr
  have HCS := hd hcase
  have HP := hd hP
  have f1 := HF.out.frozen 5
  have g1 := HF.out.cell 5 _ rfl
  have hale : a ≤ (3 :: s).length := by obtain ⟨_, _, _, _, h⟩ := hP; exact h
  clear hr hcase hP
  have nb1 : ¬ N + 1 = N + 1 + 1 := by omega
  have nb2 : ¬ N + 1 + 1 = N + 1 := by omega
  have nb3 : ¬ N = N + 1 + 1 := by omega
  have nb4 : ¬ N + 1 + 1 = N := by omega
  go_wp2_with fail
  have HRST := hd (pen_rest (N + 1) (3 :: s) a bad 1 _ (HP.out.setO (p := ⟨N + 1 + 1, 5, none⟩) (by show N + 1 < N + 1 + 1; omega) (.int .u64 (n : Int))) hmL)
  by_cases hne : a < (3 :: s).length
  · have hrs : rsN (3 :: s) a 1 = 1 := by unfold rsN; rw [if_neg (by omega)]; rfl
    obtain ⟨x, hx⟩ : ∃ x, x = (3 :: s).getD a 0 := ⟨_, rfl⟩
    have hdx : (3 :: s).drop a = x :: (3 :: s).drop (a + 1) := by rw [hx, List.getD_eq_getElem?_getD, List.getElem?_eq_getElem hne]; exact List.drop_eq_getElem_cons hne
    have hxb : x < 256 := by rw [hx]; exact getD_lt HI.out.1 a
    rw [hrs, hdx] at HRST
    have hst : str ((x :: (3 :: s).drop (a + 1)).take 1) = ⟨#[UInt8.ofNat x]⟩ := rfl
    rw [hst] at HRST
    have HDX := hd hdx
    clear hst hrs hx hdx
    refine Calls.mono HRST.out ?_
    rintro e w5 ⟨rfl, hP5, hK5⟩
    have HF5 := hd ((HF.out.set (j := 5) (.int .u64 (n : Int))).keepO (by omega) hK5)
    have HR5 := hd ((HR.out.other (p := ⟨N + 1 + 1, 5, none⟩) (by show N + 1 + 1 ≠ N; omega) (.int .u64 (n : Int))).keepO (by omega) hK5)
    have HB5 : Hid (Below N w w5) := (HBW.out.setCell (p := ⟨N + 1 + 1, 5, none⟩) (by show N ≤ N + 1 + 1; omega) (.int .u64 (n : Int))).trans (hK5.below (by omega) (by have := HR.out.lt; simp [World.setCell]; omega))
    have HP5 := hd hP5
    have f2 := HF5.out.frozen 6
    have g2 := HF5.out.cell 6 _ rfl
    clear hP5 hK5 HRST HP HF HR HBW f1 g1
    go_wp2_with fail
    rw [byte_at hxb]
    refine Calls.mono (pen_small (N + 1) (3 :: s) (a + 1) bad _ (HP5.out.setO (p := ⟨N + 1 + 1, 6, none⟩) (by show N + 1 < N + 1 + 1; omega) _) hmL) ?_
    rintro e w6 ⟨hr, hK⟩
    obtain ⟨n2, a2, b2, rfl, hPx, hn2, hcx⟩ := psR_any hr
    have HC2 := hd hcx
    have HP6 := hd hPx
    have HF6 := hd ((HF5.out.set (j := 6) (.int .i64 (x : Int))).keepO (by omega) hK)
    have HR6 := hd ((HR5.out.other (p := ⟨N + 1 + 1, 6, none⟩) (by show N + 1 + 1 ≠ N; omega) (.int .i64 (x : Int))).keepO (by omega) hK)
    have HB6 : Hid (Below N w w6) := (HB5.out.setCell (p := ⟨N + 1 + 1, 6, none⟩) (by show N ≤ N + 1 + 1; omega) (.int .i64 (x : Int))).trans (hK.below (by omega) (by have := HR5.out.lt; simp [World.setCell]; omega))
    have f3 := HF6.out.frozen 7
    have g3 := HF6.out.cell 7 _ rfl
    clear hr hK hcx hPx HP5 HF5 HR5 HB5 f2 g2
    go_wp2_with fail
    refine Calls.mono (pen_small (N + 1) (3 :: s) a2 b2 _ (HP6.out.setO (p := ⟨N + 1 + 1, 7, none⟩) (by show N + 1 < N + 1 + 1; omega) _) hmL) ?_
    rintro e w7 ⟨hr, hK⟩
    obtain ⟨n3, a3, b3, rfl, hPx, hn3, hcx⟩ := psR_any hr
    have HC3 := hd hcx
    have HP7 := hd hPx
    have HF7 := hd ((HF6.out.set (j := 7) (.int .i64 (n2 : Int))).keepO (by omega) hK)
    have HR7 := hd ((HR6.out.other (p := ⟨N + 1 + 1, 7, none⟩) (by show N + 1 + 1 ≠ N; omega) (.int .i64 (n2 : Int))).keepO (by omega) hK)
    have HB7 : Hid (Below N w w7) := (HB6.out.setCell (p := ⟨N + 1 + 1, 7, none⟩) (by show N ≤ N + 1 + 1; omega) (.int .i64 (n2 : Int))).trans (hK.below (by omega) (by have := HR6.out.lt; simp [World.setCell]; omega))
    have f4 := HF7.out.frozen 8
    have g4 := HF7.out.cell 8 _ rfl
    clear hr hK hcx hPx HP6 HF6 HR6 HB6 f3 g3
    go_wp2_with fail
    refine Calls.mono (pen_rest (N + 1) (3 :: s) a3 b3 (-1) _ (HP7.out.setO (p := ⟨N + 1 + 1, 8, none⟩) (by show N + 1 < N + 1 + 1; omega) _) hmL) ?_
    rintro e w8 ⟨rfl, hP8, hK8⟩
    rw [rsN_all] at hP8 ⊢
    have HF8 := hd ((HF7.out.set (j := 8) (.int .i64 (n3 : Int))).keepO (by omega) hK8)
    have HR8 := hd ((HR7.out.other (p := ⟨N + 1 + 1, 8, none⟩) (by show N + 1 + 1 ≠ N; omega) (.int .i64 (n3 : Int))).keepO (by omega) hK8)
    have HB8 : Hid (Below N w w8) := (HB7.out.setCell (p := ⟨N + 1 + 1, 8, none⟩) (by show N ≤ N + 1 + 1; omega) (.int .i64 (n3 : Int))).trans (hK8.below (by omega) (by have := HR7.out.lt; simp [World.setCell]; omega))
    obtain ⟨key, hkey⟩ : ∃ key, key = str (((3 :: s).drop a3).take ((3 :: s).length - a3)) := ⟨_, rfl⟩
    rw [← hkey]
    have HKEY : Hid (key = str ((3 :: s).drop a3)) := hd (by rw [hkey, List.take_of_length_le (by rw [List.length_drop]; omega)])
    obtain ⟨A, hA⟩ : ∃ A, A = a3 + ((3 :: s).length - a3) := ⟨_, rfl⟩
    rw [← hA] at hP8
    have hAL : ¬ (A : Int) < (L : Int) := by rw [hA, HLL.out]; omega
    have HRX := hd (HR8.out.other (p := ⟨N + 1 + 1, 9, none⟩) (by show N + 1 + 1 ≠ N; omega) (.string key))
    have HBX : Hid (Below N w (w8.setCell ⟨N + 1 + 1, 9, none⟩ (.string key))) := HB8.out.setCell (p := ⟨N + 1 + 1, 9, none⟩) (by show N ≤ N + 1 + 1; omega) _
    have f5 := HF8.out.frozen 9
    have g5 := HF8.out.cell 9 _ rfl
    obtain ⟨v8, hBk, _⟩ := hP8
    have c1 := hBk.cell 1 _ rfl
    have c2 := hBk.cell 2 _ rfl
    have m0 := HF8.out.cell 0 _ rfl
    have m1 := HF8.out.cell 1 _ rfl
    have m2 := HF8.out.cell 2 _ rfl
    have m3 := HF8.out.cell 3 _ rfl
    have m4 := HF8.out.cell 4 _ rfl
    have m5 := HF8.out.cell 5 _ rfl
    have m6 := HF8.out.cell 6 _ rfl
    have m7 := HF8.out.cell 7 _ rfl
    have m8 := HF8.out.cell 8 _ rfl
    have m10 := HF8.out.cell 10 _ rfl
    have m11 := HF8.out.cell 11 _ rfl
    have m12 := HF8.out.cell 12 _ rfl
    have m13 := HF8.out.cell 13 _ rfl
    have y0 := HR8.out.cell 0 _ rfl
    have yz0 := HR8.out.frozen 0
    have y1 := HR8.out.cell 1 _ rfl
    have yz1 := HR8.out.frozen 1
    have y2 := HR8.out.cell 2 _ rfl
    have yz2 := HR8.out.frozen 2
    have y3 := HR8.out.cell 3 _ rfl
    have yz3 := HR8.out.frozen 3
    have y4 := HR8.out.cell 4 _ rfl
    have yz4 := HR8.out.frozen 4
    have y5 := HR8.out.cell 5 _ rfl
    have yz5 := HR8.out.frozen 5
    have y6 := HR8.out.cell 6 _ rfl
    have yz6 := HR8.out.frozen 6
    have y7 := HR8.out.cell 7 _ rfl
    have yz7 := HR8.out.frozen 7
    have y8 := HR8.out.cell 8 _ rfl
    have yz8 := HR8.out.frozen 8
    have y9 := HR8.out.cell 9 _ rfl
    have yz9 := HR8.out.frozen 9
    have y10 := HR8.out.cell 10 _ rfl
    have yz10 := HR8.out.frozen 10
    have y11 := HR8.out.cell 11 _ rfl
    have yz11 := HR8.out.frozen 11
    have y12 := HR8.out.cell 12 _ rfl
    have yz12 := HR8.out.frozen 12
    have y13 := HR8.out.cell 13 _ rfl
    have yz13 := HR8.out.frozen 13
    have HRD : Hid (∀ f, Bdy (3 :: s) f → b3 = false ∧ f = hfrQ ⟨n, (x : Int), (n2 : Int), (n3 : Int), key⟩) := fun f hf => by
      rw [HKEY.out]
      exact hint_reads hf HCS.out HDX.out HC2.out HC3.out
    clear hkey hA hK8 HP7 HF7 HR7 HB7 f4 g4 hBk
    cases b3 with
    | true =>
      have HNO : Hid (∀ f, ¬ Bdy (3 :: s) f) := fun f hf => by cases (HRD.out f hf).1
      go_wp2_with fail
      refine bodyPost_ret (results_cell2 rfl _ _ N 34 #[.int .i64 0, .int .u64 0, .int .i64 0, .string ⟨#[]⟩, .string ⟨#[]⟩, .int .u64 0, .int .i64 0, .int .i64 0, .int .i64 0, .string ⟨#[]⟩, .int .i64 0, .int .i64 0, .int .i64 0, .int .u32 0] (0, 0) _ rfl (setL_blk [.int .i64 0, .int .u64 0, .int .i64 0, .string ⟨#[]⟩, .string ⟨#[]⟩, .int .u64 0, .int .i64 0, .int .i64 0, .int .i64 0, .string ⟨#[]⟩, .int .i64 0, .int .i64 0, .int .i64 0, .int .u32 0] _ 0 [] [.int .i64 0, .int .u64 0, .int .i64 0, .string ⟨#[]⟩, .string ⟨#[]⟩, .int .u64 0, .int .i64 0, .int .i64 0, .int .i64 0, .string ⟨#[]⟩, .int .i64 0, .int .i64 0, .int .i64 0, .int .u32 0] rfl rfl HRX.out) Try.underlying34 rfl (by kernel_rfl)) rfl ?_
      refine ⟨.inr ⟨HNO.out, rfl⟩, ?_⟩
      have hNN := HN.out
      exact (setL_keepO (B := N) (O := N) [.int .i64 0, .int .u64 0, .int .i64 0, .string ⟨#[]⟩, .string ⟨#[]⟩, .int .u64 0, .int .i64 0, .int .i64 0, .int .i64 0, .string ⟨#[]⟩, .int .i64 0, .int .i64 0, .int .i64 0, .int .u32 0] _ w 0 (by omega) (KeepO.of_below (hNN ▸ HBX.out))).below (by omega) (Nat.le_refl _)
    | false =>
      have HYES : Hid (rf (hfrQ ⟨n, (x : Int), (n2 : Int), (n3 : Int), key⟩) = 0 → Bdy (3 :: s) (hfrQ ⟨n, (x : Int), (n2 : Int), (n3 : Int), key⟩)) := fun hr => by
        obtain ⟨e3, d3, _⟩ := sm1_back HI.out.1 HC3.out
        subst e3
        obtain ⟨e2, d2, _⟩ := sm1_back HI.out.1 HC2.out
        subst e2
        obtain ⟨q1, q2, q3⟩ : (dec s).2.2 = 0 ∧ n = (dec s).1 ∧ a = 1 + (dec s).2.1 := by
          rcases HCS.out with ⟨_, h⟩ | ⟨h, _⟩
          · exact h
          · cases h
        have hbs : Byt s := fun y hy => HI.out.1 y (List.mem_cons_of_mem _ hy)
        obtain ⟨r1, r2, _⟩ := dec_split hbs q1
        have h5 : (3 :: s).drop a = s.drop (dec s).2.1 := by rw [q3, Nat.add_comm]; rfl
        rw [← h5, HDX.out, d2, d3] at r1
        rw [HKEY.out] at hr ⊢
        rw [← q2] at r1 r2
        exact hint_bdy (byt_drop HI.out.1 _) r1 r2 hr
      have HNO : Hid (rf (hfrQ ⟨n, (x : Int), (n2 : Int), (n3 : Int), key⟩) ≠ 0 → ∀ f, ¬ Bdy (3 :: s) f) := fun hr f hf => by
        have h := (HRD.out f hf).2
        rw [h] at hf
        exact hr hf.1
      have HMAY := hd (may_hint n (x : Int) (n2 : Int) (n3 : Int) key)
      go_wp2_with fail
      refine Calls.mono (HMAY.out _) ?_
      rintro e w9 ⟨rfl, hb9⟩
      have hF9 := (HF8.out.set (j := 9) (.string key)).keep hb9
      have hR9 := HRX.out.keep hb9
      have HB9 := hd (HBX.out.trans (hb9.mono (by have := HBX.out.size; have := HN.out; omega)))
      have HR9 := hd hR9
      have u0 := hF9.cell 0 _ rfl
      have u1 := hF9.cell 1 _ rfl
      have u2 := hF9.cell 2 _ rfl
      have u3 := hF9.cell 3 _ rfl
      have u4 := hF9.cell 4 _ rfl
      have u5 := hF9.cell 5 _ rfl
      have u6 := hF9.cell 6 _ rfl
      have u7 := hF9.cell 7 _ rfl
      have u8 := hF9.cell 8 _ rfl
      have u9 := hF9.cell 9 _ rfl
      have u10 := hF9.cell 10 _ rfl
      have u11 := hF9.cell 11 _ rfl
      have u12 := hF9.cell 12 _ rfl
      have u13 := hF9.cell 13 _ rfl
      have v0 := hR9.cell 0 _ rfl
      have vz0 := hR9.frozen 0
      have v1 := hR9.cell 1 _ rfl
      have vz1 := hR9.frozen 1
      have v2 := hR9.cell 2 _ rfl
      have vz2 := hR9.frozen 2
      have v3 := hR9.cell 3 _ rfl
      have vz3 := hR9.frozen 3
      have v4 := hR9.cell 4 _ rfl
      have vz4 := hR9.frozen 4
      have v5 := hR9.cell 5 _ rfl
      have vz5 := hR9.frozen 5
      have v6 := hR9.cell 6 _ rfl
      have vz6 := hR9.frozen 6
      have v7 := hR9.cell 7 _ rfl
      have vz7 := hR9.frozen 7
      have v8 := hR9.cell 8 _ rfl
      have vz8 := hR9.frozen 8
      have v9 := hR9.cell 9 _ rfl
      have vz9 := hR9.frozen 9
      have v10 := hR9.cell 10 _ rfl
      have vz10 := hR9.frozen 10
      have v11 := hR9.cell 11 _ rfl
      have vz11 := hR9.frozen 11
      have v12 := hR9.cell 12 _ rfl
      have vz12 := hR9.frozen 12
      have v13 := hR9.cell 13 _ rfl
      have vz13 := hR9.frozen 13
      clear hF9 hR9 hb9 HMAY
      by_cases hrf : rf (hfrQ ⟨n, (x : Int), (n2 : Int), (n3 : Int), key⟩) = 0
      · have HY := hd (HYES.out hrf)
        rw [hrf]
        clear hrf
        go_wp2_with fail
        refine bodyPost_ret (results_cell2 rfl _ _ N 34 #[.int .i64 3, .int .u64 0, .int .i64 0, .string ⟨#[]⟩, .string ⟨#[]⟩, .int .u64 (n : Int), .int .i64 (x : Int), .int .i64 (n2 : Int), .int .i64 (n3 : Int), .string key, .int .i64 0, .int .i64 0, .int .i64 0, .int .u32 0] (0, 0) _ rfl (setL_blk [.int .i64 3, .int .u64 0, .int .i64 0, .string ⟨#[]⟩, .string ⟨#[]⟩, .int .u64 (n : Int), .int .i64 (x : Int), .int .i64 (n2 : Int), .int .i64 (n3 : Int), .string key, .int .i64 0, .int .i64 0, .int .i64 0, .int .u32 0] _ 0 [] [.int .i64 0, .int .u64 0, .int .i64 0, .string ⟨#[]⟩, .string ⟨#[]⟩, .int .u64 0, .int .i64 0, .int .i64 0, .int .i64 0, .string ⟨#[]⟩, .int .i64 0, .int .i64 0, .int .i64 0, .int .u32 0] rfl rfl HR9.out) Try.underlying34 rfl (by kernel_rfl)) rfl ?_
        refine ⟨.inl ⟨_, HY.out, rfl⟩, ?_⟩
        have hNN := HN.out
        exact (setL_keepO (B := N) (O := N) [.int .i64 3, .int .u64 0, .int .i64 0, .string ⟨#[]⟩, .string ⟨#[]⟩, .int .u64 (n : Int), .int .i64 (x : Int), .int .i64 (n2 : Int), .int .i64 (n3 : Int), .string key, .int .i64 0, .int .i64 0, .int .i64 0, .int .u32 0] _ w 0 (by omega) (KeepO.of_below (hNN ▸ HB9.out))).below (by omega) (Nat.le_refl _)
      · have HY := hd (HNO.out hrf)
        have hne2 : (((rf (hfrQ ⟨n, (x : Int), (n2 : Int), (n3 : Int), key⟩) : Nat) : Int) != 0) = true := by rw [bne_iff_ne]; intro q; exact hrf (by exact_mod_cast q)
        generalize rf (hfrQ ⟨n, (x : Int), (n2 : Int), (n3 : Int), key⟩) = er at *
        clear hrf
        go_wp2_with fail
        refine bodyPost_ret (results_cell2 rfl _ _ N 34 #[.int .i64 0, .int .u64 0, .int .i64 0, .string ⟨#[]⟩, .string ⟨#[]⟩, .int .u64 0, .int .i64 0, .int .i64 0, .int .i64 0, .string ⟨#[]⟩, .int .i64 0, .int .i64 0, .int .i64 0, .int .u32 0] (0, 0) _ rfl (setL_blk [.int .i64 0, .int .u64 0, .int .i64 0, .string ⟨#[]⟩, .string ⟨#[]⟩, .int .u64 0, .int .i64 0, .int .i64 0, .int .i64 0, .string ⟨#[]⟩, .int .i64 0, .int .i64 0, .int .i64 0, .int .u32 0] _ 0 [] [.int .i64 0, .int .u64 0, .int .i64 0, .string ⟨#[]⟩, .string ⟨#[]⟩, .int .u64 0, .int .i64 0, .int .i64 0, .int .i64 0, .string ⟨#[]⟩, .int .i64 0, .int .i64 0, .int .i64 0, .int .u32 0] rfl rfl HR9.out) Try.underlying34 rfl (by kernel_rfl)) rfl ?_
        refine ⟨.inr ⟨HY.out, rfl⟩, ?_⟩
        have hNN := HN.out
        exact (setL_keepO (B := N) (O := N) [.int .i64 0, .int .u64 0, .int .i64 0, .string ⟨#[]⟩, .string ⟨#[]⟩, .int .u64 0, .int .i64 0, .int .i64 0, .int .i64 0, .string ⟨#[]⟩, .int .i64 0, .int .i64 0, .int .i64 0, .int .u32 0] _ w 0 (by omega) (KeepO.of_below (hNN ▸ HB9.out))).below (by omega) (Nat.le_refl _)
  · have hrs : rsN (3 :: s) a 1 = 0 := by unfold rsN; rw [if_pos (.inr (by omega))]; omega
    rw [hrs] at HRST
    have hst : str (((3 :: s).drop a).take 0) = ⟨#[]⟩ := rfl
    rw [hst] at HRST
    clear hrs hst
    refine Calls.mono HRST.out ?_
    rintro e w5 ⟨rfl, hP5, hK5⟩
    have HR5 := hd ((HR.out.other (p := ⟨N + 1 + 1, 5, none⟩) (by show N + 1 + 1 ≠ N; omega) (.int .u64 (n : Int))).keepO (by omega) hK5)
    have HB5 : Hid (Below N w w5) := (HBW.out.setCell (p := ⟨N + 1 + 1, 5, none⟩) (by show N ≤ N + 1 + 1; omega) (.int .u64 (n : Int))).trans (hK5.below (by omega) (by have := HR.out.lt; simp [World.setCell]; omega))
    have y0 := HR5.out.cell 0 _ rfl
    have yz0 := HR5.out.frozen 0
    have y1 := HR5.out.cell 1 _ rfl
    have yz1 := HR5.out.frozen 1
    have y2 := HR5.out.cell 2 _ rfl
    have yz2 := HR5.out.frozen 2
    have y3 := HR5.out.cell 3 _ rfl
    have yz3 := HR5.out.frozen 3
    have y4 := HR5.out.cell 4 _ rfl
    have yz4 := HR5.out.frozen 4
    have y5 := HR5.out.cell 5 _ rfl
    have yz5 := HR5.out.frozen 5
    have y6 := HR5.out.cell 6 _ rfl
    have yz6 := HR5.out.frozen 6
    have y7 := HR5.out.cell 7 _ rfl
    have yz7 := HR5.out.frozen 7
    have y8 := HR5.out.cell 8 _ rfl
    have yz8 := HR5.out.frozen 8
    have y9 := HR5.out.cell 9 _ rfl
    have yz9 := HR5.out.frozen 9
    have y10 := HR5.out.cell 10 _ rfl
    have yz10 := HR5.out.frozen 10
    have y11 := HR5.out.cell 11 _ rfl
    have yz11 := HR5.out.frozen 11
    have y12 := HR5.out.cell 12 _ rfl
    have yz12 := HR5.out.frozen 12
    have y13 := HR5.out.cell 13 _ rfl
    have yz13 := HR5.out.frozen 13
    have HNO : Hid (∀ f, ¬ Bdy (3 :: s) f) := fun f hf => by
      obtain ⟨e, ef, hl, _⟩ := hint_facts hf
      obtain ⟨q1, q2, q3⟩ := dec_front hl e
      rcases HCS.out with ⟨_, h2, h3, h4⟩ | ⟨_, h2⟩
      · have h5 : (3 :: s).drop a = s.drop (dec s).2.1 := by rw [h4, Nat.add_comm]; rfl
        rw [List.drop_of_length_le (by omega), q3] at h5
        cases h5
      · exact h2 q1
    clear hP5 hK5 HRST HP HF HR HBW f1 g1
    go_wp2_with fail
    refine bodyPost_ret (results_cell2 rfl _ _ N 34 #[.int .i64 0, .int .u64 0, .int .i64 0, .string ⟨#[]⟩, .string ⟨#[]⟩, .int .u64 0, .int .i64 0, .int .i64 0, .int .i64 0, .string ⟨#[]⟩, .int .i64 0, .int .i64 0, .int .i64 0, .int .u32 0] (0, 0) _ rfl (setL_blk [.int .i64 0, .int .u64 0, .int .i64 0, .string ⟨#[]⟩, .string ⟨#[]⟩, .int .u64 0, .int .i64 0, .int .i64 0, .int .i64 0, .string ⟨#[]⟩, .int .i64 0, .int .i64 0, .int .i64 0, .int .u32 0] _ 0 [] [.int .i64 0, .int .u64 0, .int .i64 0, .string ⟨#[]⟩, .string ⟨#[]⟩, .int .u64 0, .int .i64 0, .int .i64 0, .int .i64 0, .string ⟨#[]⟩, .int .i64 0, .int .i64 0, .int .i64 0, .int .u32 0] rfl rfl HR5.out) Try.underlying34 rfl (by kernel_rfl)) rfl ?_
    refine ⟨.inr ⟨HNO.out, rfl⟩, ?_⟩
    have hNN := HN.out
    exact (setL_keepO (B := N) (O := N) [.int .i64 0, .int .u64 0, .int .i64 0, .string ⟨#[]⟩, .string ⟨#[]⟩, .int .u64 0, .int .i64 0, .int .i64 0, .int .i64 0, .string ⟨#[]⟩, .int .i64 0, .int .i64 0, .int .i64 0, .int .u32 0] _ w 0 (by omega) (KeepO.of_below (hNN ▸ HB5.out))).below (by omega) (Nat.le_refl _)
end Vt
end Go.Proofs.Ytnjhbidialngmaa
