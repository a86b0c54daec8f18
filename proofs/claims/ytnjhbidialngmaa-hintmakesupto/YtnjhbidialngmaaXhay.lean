/-
  THE REFERENCE OF LAYER 4: opened of a Put's body.
-/
import Derived.Test.YtnjhbidialngmaaXhax
namespace Go.Proofs.Ytnjhbidialngmaa
open Go.RowKit
namespace Vt
theorem psR_any {B : Nat} {l : List Nat} {at_ : Nat} {bad : Bool} {e : Ending} {w' : World} (h : psR B l at_ bad e w') : ∃ (n a : Nat) (bad' : Bool), e = .returned (.int .i64 (n : Int)) ∧ PN w' B l a bad' ∧ n ≤ 4294967295 ∧ ((bad' = bad ∧ ((dec (l.drop at_)).2.2 = 0 ∧ (dec (l.drop at_)).1 ≤ 4294967295) ∧ n = (dec (l.drop at_)).1 ∧ a = at_ + (dec (l.drop at_)).2.1) ∨ (bad' = true ∧ ¬ ((dec (l.drop at_)).2.2 = 0 ∧ (dec (l.drop at_)).1 ≤ 4294967295))) := by
  rcases h with ⟨h0, rfl, hP⟩ | ⟨h0, n, a, hn, rfl, hP⟩
  · exact ⟨_, _, bad, rfl, hP, h0.2, .inl ⟨rfl, h0, rfl, rfl⟩⟩
  · exact ⟨_, _, true, rfl, hP, hn, .inr ⟨rfl, h0⟩⟩
theorem put_facts {s : List Nat} {f : Fr} (hf : Bdy (1 :: s) f) : (dec s).2.2 = 0 ∧ (dec s).1 = f.r.lsn ∧ (dec (s.drop (dec s).2.1)).2.2 = 0 ∧ (dec (s.drop (dec s).2.1)).1 = f.r.key.size ∧ (dec (s.drop (dec s).2.1)).1 ≤ 64 ∧ (s.drop (dec s).2.1).drop (dec (s.drop (dec s).2.1)).2.1 = bl f.r.key ++ bl f.r.val ∧ f = ⟨1, ⟨f.r.lsn, 1, f.r.key, f.r.val⟩, zp, ze⟩ := by
  rcases hf.kind with ⟨_, e, ef, hl, hk⟩ | ⟨_, e, _⟩ | ⟨_, e, _⟩ | ⟨_, e, _⟩
  · injection e with _ e
    obtain ⟨q1, q2, q3⟩ := dec_front hl e
    obtain ⟨q4, q5, q6⟩ := dec_front (n := f.r.key.size) (by omega) q3
    exact ⟨q1, q2, q4, q5, by omega, q6, ef⟩
  · injection e with e; cases e
  · injection e with e; cases e
  · injection e with e; cases e
attribute [local go_sem] Oper.semAt_some
set_option maxRecDepth 100000 in
set_option maxHeartbeats 2000000 in
theorem opened_put (b off c : Nat) (s : List Nat) (w : World) (hI : IsB w (.slice (some ⟨b, off, none⟩) (1 :: s).length c) (1 :: s)) (hm : (1 :: s).length ≤ 4194304) :
    Calls Try.prog 87 #[.slice (some ⟨b, off, none⟩) (1 :: s).length c] w fun e w' => opR (1 :: s) e ∧ Below w.heap.size w w' := by
  have hmx : Try.prog.follows .mixedOrders = true := by kernel_rfl
  have r0 := hI.row 0 (by simp)
  rw [Nat.add_zero] at r0
  have r0' : w.cell? ⟨b, off, none⟩ = some (.int .u8 1) := r0
  have hbw : b < w.heap.size := lt_of_cell r0'
  have HI := hd hI
  clear r0 hI
  obtain ⟨L, hL⟩ : ∃ L, L = (1 :: s).length := ⟨_, rfl⟩
  have hL1 : 1 ≤ L := by rw [hL]; simp
  have hL0 : ((L : Int) == 0) = false := by rw [beq_eq_false_iff_ne]; omega
  rw [← hL] at hm HI ⊢
  have HLL := hd hL
  clear hL
  go_enter Try.func87, Try.ntmps87
  go_wp2_with fail
  have HLow : Hid (Low (.slice (some ⟨b, off, none⟩) L c) w.heap.size) := low_some hbw
  have hmL : (1 :: s).length ≤ 4194304 := by rw [← HLL.out]; exact hm
  have h1L : 1 ≤ (1 :: s).length := by simp
  refine Calls.mono (pen_number (w.heap.size + 1) (1 :: s) 1 false _ (pn_start w _ _ _ _ HI.out HLow.out h1L) hmL) ?_
  rintro e w4 ⟨hr, hK⟩
  have hF := (fr_start w _ _ [.int .i64 1, .int .u64 0, .int .i64 1, .string ⟨#[]⟩, .string ⟨#[]⟩, .int .u64 0, .int .i64 0, .int .i64 0, .int .i64 0, .string ⟨#[]⟩, .int .i64 0, .int .i64 0, .int .i64 0, .int .u32 0]).keepO (by omega) hK
  have hR := (rs_start w _ _ [.int .i64 0, .int .u64 0, .int .i64 0, .string ⟨#[]⟩, .string ⟨#[]⟩, .int .u64 0, .int .i64 0, .int .i64 0, .int .i64 0, .string ⟨#[]⟩, .int .i64 0, .int .i64 0, .int .i64 0, .int .u32 0]).keepO (by omega) hK
  have hBw := (st_below w _ _ _).trans (hK.below (by omega) (st_below w _ _ _).size)
  obtain ⟨N, hN⟩ : ∃ N, N = w.heap.size := ⟨_, rfl⟩
  rw [← hN] at hr hF hR hBw ⊢
  have HN := hd hN
  have HBW := hd hBw
  have HF := hd hF
  have HR := hd hR
  clear hK hN hBw hF hR
  obtain ⟨n, a, bad, rfl, hP, hcase⟩ := pnR_any hr
  have HCS := hd hcase
  have HP := hd hP
  have f1 := HF.out.frozen 1
  have g1 := HF.out.cell 1 _ rfl
  clear hr hcase hP
  go_wp2_with fail
  refine Calls.mono (pen_small (N + 1) (1 :: s) a bad _ (HP.out.setO (p := ⟨N + 1 + 1, 1, none⟩) (by show N + 1 < N + 1 + 1; omega) _) hmL) ?_
  rintro e w5 ⟨hr5, hK5⟩
  obtain ⟨n2, a2, bad2, rfl, hP5, hn2, hcase2⟩ := psR_any hr5
  have HCS2 := hd hcase2
  have hF5 := (HF.out.set (j := 1) (.int .u64 (n : Int))).keepO (by omega) hK5
  have hR5 := (HR.out.other (p := ⟨N + 1 + 1, 1, none⟩) (by show N + 1 + 1 ≠ N; omega) (.int .u64 (n : Int))).keepO (by omega) hK5
  have hB5 : Below N w w5 := (HBW.out.setCell (p := ⟨N + 1 + 1, 1, none⟩) (by show N ≤ N + 1 + 1; omega) (.int .u64 (n : Int))).trans (hK5.below (by omega) (by have := HR.out.lt; simp [World.setCell]; omega))
  have HP5 := hd hP5
  have HF5 := hd hF5
  have HR5 := hd hR5
  have HB5 := hd hB5
  have hale : a2 ≤ (1 :: s).length := by obtain ⟨_, _, _, _, h⟩ := hP5; exact h
  obtain ⟨v5, hBk, _⟩ := hP5
  have c1 := hBk.cell 1 _ rfl
  have c2 := hBk.cell 2 _ rfl
  have y0 := hR5.cell 0 _ rfl
  have yz0 := hR5.frozen 0
  have y1 := hR5.cell 1 _ rfl
  have yz1 := hR5.frozen 1
  have y2 := hR5.cell 2 _ rfl
  have yz2 := hR5.frozen 2
  have y3 := hR5.cell 3 _ rfl
  have yz3 := hR5.frozen 3
  have y4 := hR5.cell 4 _ rfl
  have yz4 := hR5.frozen 4
  have y5 := hR5.cell 5 _ rfl
  have yz5 := hR5.frozen 5
  have y6 := hR5.cell 6 _ rfl
  have yz6 := hR5.frozen 6
  have y7 := hR5.cell 7 _ rfl
  have yz7 := hR5.frozen 7
  have y8 := hR5.cell 8 _ rfl
  have yz8 := hR5.frozen 8
  have y9 := hR5.cell 9 _ rfl
  have yz9 := hR5.frozen 9
  have y10 := hR5.cell 10 _ rfl
  have yz10 := hR5.frozen 10
  have y11 := hR5.cell 11 _ rfl
  have yz11 := hR5.frozen 11
  have y12 := hR5.cell 12 _ rfl
  have yz12 := hR5.frozen 12
  have y13 := hR5.cell 13 _ rfl
  have yz13 := hR5.frozen 13
  clear hF5 hR5 hB5 hK5 HP HF HR HBW f1 g1 hBk hr5 hcase2
  have nb1 : ¬ N + 1 = N + 1 + 1 := by omega
  have nb2 : ¬ N + 1 + 1 = N + 1 := by omega
  have nb3 : ¬ N = N + 1 + 1 := by omega
  have nb4 : ¬ N + 1 + 1 = N := by omega
  have hLa : a2 ≤ L := by rw [HLL.out]; exact hale
  have hls : ((L : Int) - (a2 : Int)) = ((L - a2 : Nat) : Int) := by omega
  cases bad2 with
  | true =>
    have HNO : Hid (∀ f, ¬ Bdy (1 :: s) f) := fun f hf => by
      obtain ⟨q1, q2, q3, q4, q5, q6, q7⟩ := put_facts hf
      rcases HCS2.out with ⟨h1, h2, h3, h4⟩ | ⟨_, h0⟩
      · rcases HCS.out with ⟨h5, _⟩ | ⟨_, h5⟩
        · rw [h5] at h1; cases h1
        · exact h5 q1
      · rcases HCS.out with ⟨_, _, _, h8⟩ | ⟨_, h5⟩
        · rw [h8] at h0
          apply h0
          have e : (1 :: s).drop (1 + (dec ((1 :: s).drop 1)).2.1) = s.drop (dec s).2.1 := by rw [Nat.add_comm]; rfl
          rw [e]
          exact ⟨q3, by omega⟩
        · exact h5 q1
    clear hls
    go_wp2_with fail
    refine bodyPost_ret (results_cell2 rfl _ _ N 34 #[.int .i64 0, .int .u64 0, .int .i64 0, .string ⟨#[]⟩, .string ⟨#[]⟩, .int .u64 0, .int .i64 0, .int .i64 0, .int .i64 0, .string ⟨#[]⟩, .int .i64 0, .int .i64 0, .int .i64 0, .int .u32 0] (0, 0) _ rfl (setL_blk [.int .i64 0, .int .u64 0, .int .i64 0, .string ⟨#[]⟩, .string ⟨#[]⟩, .int .u64 0, .int .i64 0, .int .i64 0, .int .i64 0, .string ⟨#[]⟩, .int .i64 0, .int .i64 0, .int .i64 0, .int .u32 0] _ 0 [] [.int .i64 0, .int .u64 0, .int .i64 0, .string ⟨#[]⟩, .string ⟨#[]⟩, .int .u64 0, .int .i64 0, .int .i64 0, .int .i64 0, .string ⟨#[]⟩, .int .i64 0, .int .i64 0, .int .i64 0, .int .u32 0] rfl rfl HR5.out) Try.underlying34 rfl (by kernel_rfl)) rfl ?_
    refine ⟨.inr ⟨HNO.out, rfl⟩, ?_⟩
    have hNN := HN.out
    exact (setL_keepO (B := N) (O := N) [.int .i64 0, .int .u64 0, .int .i64 0, .string ⟨#[]⟩, .string ⟨#[]⟩, .int .u64 0, .int .i64 0, .int .i64 0, .int .i64 0, .string ⟨#[]⟩, .int .i64 0, .int .i64 0, .int .i64 0, .int .u32 0] _ w 0 (by omega) (KeepO.of_below (hNN ▸ HB5.out))).below (by omega) (Nat.le_refl _)
  | false =>
    obtain ⟨hd0, hnE, haE, hd1, hd2, hn2E, ha2E⟩ : (dec s).2.2 = 0 ∧ n = (dec s).1 ∧ a = 1 + (dec s).2.1 ∧ (dec (s.drop (dec s).2.1)).2.2 = 0 ∧ (dec (s.drop (dec s).2.1)).1 ≤ 4294967295 ∧ n2 = (dec (s.drop (dec s).2.1)).1 ∧ a2 = 1 + (dec s).2.1 + (dec (s.drop (dec s).2.1)).2.1 := by
      rcases HCS2.out with ⟨h1, h2, h3, h4⟩ | ⟨h, _⟩
      · rcases HCS.out with ⟨h5, h6, h7, h8⟩ | ⟨h5, _⟩
        · have e : (1 :: s).drop (1 + (dec ((1 :: s).drop 1)).2.1) = s.drop (dec s).2.1 := by rw [Nat.add_comm]; rfl
          rw [h8, e] at h2 h3 h4
          exact ⟨h6, h7, h8, h2.1, h2.2, h3, h4⟩
        · rw [h5] at h1; cases h1
      · cases h
    have hbs : Byt s := fun x hx => HI.out.1 x (List.mem_cons_of_mem _ hx)
    obtain ⟨d1, d2, d3⟩ := dec_split hbs hd0
    obtain ⟨d4, _, d6⟩ := dec_split (byt_drop hbs (dec s).2.1) hd1
    obtain ⟨t, ht⟩ : ∃ t, t = (s.drop (dec s).2.1).drop (dec (s.drop (dec s).2.1)).2.1 := ⟨_, rfl⟩
    have htd : (1 :: s).drop a2 = t := by rw [ht, ha2E, List.drop_drop, show 1 + (dec s).2.1 + (dec (s.drop (dec s).2.1)).2.1 = ((dec s).2.1 + (dec (s.drop (dec s).2.1)).2.1) + 1 by omega, List.drop_succ_cons]
    have htl : t.length = L - a2 := by rw [← htd, List.length_drop, HLL.out]
    have htb : Byt t := by rw [ht]; exact byt_drop (byt_drop hbs _) _
    have hse : s = vrt n ++ (vrt n2 ++ t) := by rw [hnE, hn2E, ht, ← d4]; exact d1
    have hPF : ∀ f, Bdy (1 :: s) f → n = f.r.lsn ∧ n2 = f.r.key.size ∧ t = bl f.r.key ++ bl f.r.val ∧ f = ⟨1, ⟨f.r.lsn, 1, f.r.key, f.r.val⟩, zp, ze⟩ := fun f hf => by
      obtain ⟨q1, q2, q3, q4, q5, q6, q7⟩ := put_facts hf
      exact ⟨by rw [hnE]; exact q2, by rw [hn2E]; exact q4, by rw [ht]; exact q6, q7⟩
    have HPF := hd hPF
    have HSE := hd hse
    have HTB := hd htb
    have HTD := hd htd
    have HTL := hd htl
    have hnl : n < 18446744073709551616 := by rw [hnE]; exact d2
    obtain ⟨R, hRr⟩ : ∃ R, R = L - a2 := ⟨_, rfl⟩
    rw [← hRr] at hls
    have HRr := hd hRr
    clear hd0 hnE haE hd1 hd2 hn2E ha2E hbs d1 d2 d3 d4 d6 ht htd htl htb hse hPF hRr
    by_cases hgt : R < n2
    · have hgt' : (n2 : Int) > (R : Int) := by omega
      have HNO : Hid (∀ f, ¬ Bdy (1 :: s) f) := fun f hf => by
        obtain ⟨_, q2, q3, _⟩ := HPF.out f hf
        have := congrArg List.length q3
        rw [List.length_append, bl_len, HTL.out, ← HRr.out] at this
        omega
      go_wp2_with fail
      refine bodyPost_ret (results_cell2 rfl _ _ N 34 #[.int .i64 0, .int .u64 0, .int .i64 0, .string ⟨#[]⟩, .string ⟨#[]⟩, .int .u64 0, .int .i64 0, .int .i64 0, .int .i64 0, .string ⟨#[]⟩, .int .i64 0, .int .i64 0, .int .i64 0, .int .u32 0] (0, 0) _ rfl (setL_blk [.int .i64 0, .int .u64 0, .int .i64 0, .string ⟨#[]⟩, .string ⟨#[]⟩, .int .u64 0, .int .i64 0, .int .i64 0, .int .i64 0, .string ⟨#[]⟩, .int .i64 0, .int .i64 0, .int .i64 0, .int .u32 0] _ 0 [] [.int .i64 0, .int .u64 0, .int .i64 0, .string ⟨#[]⟩, .string ⟨#[]⟩, .int .u64 0, .int .i64 0, .int .i64 0, .int .i64 0, .string ⟨#[]⟩, .int .i64 0, .int .i64 0, .int .i64 0, .int .u32 0] rfl rfl HR5.out) Try.underlying34 rfl (by kernel_rfl)) rfl ?_
      refine ⟨.inr ⟨HNO.out, rfl⟩, ?_⟩
      have hNN := HN.out
      exact (setL_keepO (B := N) (O := N) [.int .i64 0, .int .u64 0, .int .i64 0, .string ⟨#[]⟩, .string ⟨#[]⟩, .int .u64 0, .int .i64 0, .int .i64 0, .int .i64 0, .string ⟨#[]⟩, .int .i64 0, .int .i64 0, .int .i64 0, .int .u32 0] _ w 0 (by omega) (KeepO.of_below (hNN ▸ HB5.out))).below (by omega) (Nat.le_refl _)
    · have hgt' : ¬ (n2 : Int) > (R : Int) := by omega
      have hrs : rsN (1 :: s) a2 (n2 : Int) = n2 := by unfold rsN; rw [if_neg (by have := HRr.out; have := HLL.out; omega), Int.toNat_natCast]
      have HRST := hd (pen_rest (N + 1) (1 :: s) a2 false (n2 : Int) w5 HP5.out hmL)
      rw [hrs, HTD.out] at HRST
      have f3 := HF5.out.frozen 3
      have g3 := HF5.out.cell 3 _ rfl
      clear hrs
      go_wp2_with fail
      refine Calls.mono HRST.out ?_
      rintro e w6 ⟨rfl, hP6, hK6⟩
      obtain ⟨key, hkey⟩ : ∃ key, key = str (t.take n2) := ⟨_, rfl⟩
      rw [← hkey]
      have HKEY := hd hkey
      have hF6 := HF5.out.keepO (by omega) hK6
      have hR6 := HR5.out.keepO (by omega) hK6
      have hB6 : Below N w w6 := HB5.out.trans (hK6.below (by omega) (by have := HR5.out.lt; omega))
      have HP6 := hd hP6
      have HF6 := hd hF6
      have HR6 := hd hR6
      have HB6 := hd hB6
      have f4 := hF6.frozen 3
      have g4 := hF6.cell 3 _ rfl
      clear hkey hP6 hK6 hF6 hR6 hB6 HRST f3 g3 c1 c2 HP5 HF5 HR5 HB5 y0 yz0 y1 yz1 y2 yz2 y3 yz3 y4 yz4 y5 yz5 y6 yz6 y7 yz7 y8 yz8 y9 yz9 y10 yz10 y11 yz11 y12 yz12 y13 yz13
      go_wp2_with fail
      refine Calls.mono (pen_rest (N + 1) (1 :: s) (a2 + n2) false (-1) _ (HP6.out.setO (p := ⟨N + 1 + 1, 3, none⟩) (by show N + 1 < N + 1 + 1; omega) _) hmL) ?_
      rintro e w7 ⟨rfl, hP7, hK7⟩
      rw [rsN_all] at hP7 ⊢
      have hF7 := (HF6.out.set (j := 3) (.string key)).keepO (by omega) hK7
      have hR7 := (HR6.out.other (p := ⟨N + 1 + 1, 3, none⟩) (by show N + 1 + 1 ≠ N; omega) (.string key)).keepO (by omega) hK7
      have hB7 : Below N w w7 := (HB6.out.setCell (p := ⟨N + 1 + 1, 3, none⟩) (by show N ≤ N + 1 + 1; omega) (.string key)).trans (hK7.below (by omega) (by have := HR6.out.lt; simp [World.setCell]; omega))
      obtain ⟨val, hval⟩ : ∃ val, val = str (((1 :: s).drop (a2 + n2)).take ((1 :: s).length - (a2 + n2))) := ⟨_, rfl⟩
      rw [← hval]
      have HVAL : Hid (val = str (t.drop n2)) := hd (by rw [hval, ← List.drop_drop, HTD.out, List.take_of_length_le (by rw [List.length_drop, HTL.out, HLL.out]; omega)])
      obtain ⟨A, hA⟩ : ∃ A, A = a2 + n2 + ((1 :: s).length - (a2 + n2)) := ⟨_, rfl⟩
      rw [← hA] at hP7
      have hAL : ¬ (A : Int) < (L : Int) := by rw [hA, HLL.out]; omega
      have HF7 := hd hF7
      have HRX := hd (hR7.other (p := ⟨N + 1 + 1, 4, none⟩) (by show N + 1 + 1 ≠ N; omega) (.string val))
      have HBX : Hid (Below N w (w7.setCell ⟨N + 1 + 1, 4, none⟩ (.string val))) := hB7.setCell (p := ⟨N + 1 + 1, 4, none⟩) (by show N ≤ N + 1 + 1; omega) _
      have f5 := hF7.frozen 4
      have g5 := hF7.cell 4 _ rfl
      obtain ⟨v7, hBk7, _⟩ := hP7
      have c1 := hBk7.cell 1 _ rfl
      have c2 := hBk7.cell 2 _ rfl
      have m0 := hF7.cell 0 _ rfl
      have m1 := hF7.cell 1 _ rfl
      have m2 := hF7.cell 2 _ rfl
      have m3 := hF7.cell 3 _ rfl
      have m5 := hF7.cell 5 _ rfl
      have m6 := hF7.cell 6 _ rfl
      have m7 := hF7.cell 7 _ rfl
      have m8 := hF7.cell 8 _ rfl
      have m9 := hF7.cell 9 _ rfl
      have m10 := hF7.cell 10 _ rfl
      have m11 := hF7.cell 11 _ rfl
      have m12 := hF7.cell 12 _ rfl
      have m13 := hF7.cell 13 _ rfl
      have HYES : Hid (rf (ofR ⟨n, 1, key, val⟩) = 0 → Bdy (1 :: s) (ofR ⟨n, 1, key, val⟩)) := fun hr => by
        rw [HKEY.out, HVAL.out] at hr ⊢
        exact put_bdy HTB.out HSE.out (by rw [HTL.out]; have := HRr.out; omega) hnl hr
      have HNO : Hid (rf (ofR ⟨n, 1, key, val⟩) ≠ 0 → ∀ f, ¬ Bdy (1 :: s) f) := fun hr f hf => by
        obtain ⟨q1, q2, q3, q4⟩ := HPF.out f hf
        have h0 := hf.1
        apply hr
        rw [q4] at h0
        rw [HKEY.out, HVAL.out, q1, q3, q2, ← bl_len, List.take_left, List.drop_left, str_bl, str_bl]
        exact h0
      have HMAY := hd (r4_may ⟨n, 1, key, val⟩)
      simp only [fv, ofR, zp, ze] at HMAY
      clear hval hA hF7 hR7 hB7 hK7 HP6 HF6 HR6 HB6 f4 g4 hBk7
      go_wp2_with fail
      refine Calls.mono (HMAY.out _) ?_
      rintro e w8 ⟨rfl, hb8⟩
      have hF8 := (HF7.out.set (j := 4) (.string val)).keep hb8
      have hR8 := HRX.out.keep hb8
      have HB8 := hd (HBX.out.trans (hb8.mono (by have := HBX.out.size; have := HN.out; omega)))
      have HR8 := hd hR8
      have u0 := hF8.cell 0 _ rfl
      have u1 := hF8.cell 1 _ rfl
      have u2 := hF8.cell 2 _ rfl
      have u3 := hF8.cell 3 _ rfl
      have u4 := hF8.cell 4 _ rfl
      have u5 := hF8.cell 5 _ rfl
      have u6 := hF8.cell 6 _ rfl
      have u7 := hF8.cell 7 _ rfl
      have u8 := hF8.cell 8 _ rfl
      have u9 := hF8.cell 9 _ rfl
      have u10 := hF8.cell 10 _ rfl
      have u11 := hF8.cell 11 _ rfl
      have u12 := hF8.cell 12 _ rfl
      have u13 := hF8.cell 13 _ rfl
      have v0 := hR8.cell 0 _ rfl
      have vz0 := hR8.frozen 0
      have v1 := hR8.cell 1 _ rfl
      have vz1 := hR8.frozen 1
      have v2 := hR8.cell 2 _ rfl
      have vz2 := hR8.frozen 2
      have v3 := hR8.cell 3 _ rfl
      have vz3 := hR8.frozen 3
      have v4 := hR8.cell 4 _ rfl
      have vz4 := hR8.frozen 4
      have v5 := hR8.cell 5 _ rfl
      have vz5 := hR8.frozen 5
      have v6 := hR8.cell 6 _ rfl
      have vz6 := hR8.frozen 6
      have v7 := hR8.cell 7 _ rfl
      have vz7 := hR8.frozen 7
      have v8 := hR8.cell 8 _ rfl
      have vz8 := hR8.frozen 8
      have v9 := hR8.cell 9 _ rfl
      have vz9 := hR8.frozen 9
      have v10 := hR8.cell 10 _ rfl
      have vz10 := hR8.frozen 10
      have v11 := hR8.cell 11 _ rfl
      have vz11 := hR8.frozen 11
      have v12 := hR8.cell 12 _ rfl
      have vz12 := hR8.frozen 12
      have v13 := hR8.cell 13 _ rfl
      have vz13 := hR8.frozen 13
      clear hF8 hR8 hb8 HMAY
      by_cases hrf : rf (ofR ⟨n, 1, key, val⟩) = 0
      · have HY := hd (HYES.out hrf)
        have hrf' : rf ⟨1, ⟨n, 1, key, val⟩, ⟨0, 0, 0, 0, ByteArray.empty⟩, ⟨0, 0, 0, 0⟩⟩ = 0 := hrf
        rw [hrf']
        clear hrf hrf'
        go_wp2_with fail
        refine bodyPost_ret (results_cell2 rfl _ _ N 34 #[.int .i64 1, .int .u64 (n : Int), .int .i64 1, .string key, .string val, .int .u64 0, .int .i64 0, .int .i64 0, .int .i64 0, .string ⟨#[]⟩, .int .i64 0, .int .i64 0, .int .i64 0, .int .u32 0] (0, 0) _ rfl (setL_blk [.int .i64 1, .int .u64 (n : Int), .int .i64 1, .string key, .string val, .int .u64 0, .int .i64 0, .int .i64 0, .int .i64 0, .string ⟨#[]⟩, .int .i64 0, .int .i64 0, .int .i64 0, .int .u32 0] _ 0 [] [.int .i64 0, .int .u64 0, .int .i64 0, .string ⟨#[]⟩, .string ⟨#[]⟩, .int .u64 0, .int .i64 0, .int .i64 0, .int .i64 0, .string ⟨#[]⟩, .int .i64 0, .int .i64 0, .int .i64 0, .int .u32 0] rfl rfl HR8.out) Try.underlying34 rfl (by kernel_rfl)) rfl ?_
        refine ⟨.inl ⟨_, HY.out, rfl⟩, ?_⟩
        have hNN := HN.out
        exact (setL_keepO (B := N) (O := N) [.int .i64 1, .int .u64 (n : Int), .int .i64 1, .string key, .string val, .int .u64 0, .int .i64 0, .int .i64 0, .int .i64 0, .string ⟨#[]⟩, .int .i64 0, .int .i64 0, .int .i64 0, .int .u32 0] _ w 0 (by omega) (KeepO.of_below (hNN ▸ HB8.out))).below (by omega) (Nat.le_refl _)
      · have HY := hd (HNO.out hrf)
        have hne : (((rf ⟨1, ⟨n, 1, key, val⟩, ⟨0, 0, 0, 0, ByteArray.empty⟩, ⟨0, 0, 0, 0⟩⟩ : Nat) : Int) != 0) = true := by rw [bne_iff_ne]; intro q; exact hrf (by exact_mod_cast q)
        generalize rf ⟨1, ⟨n, 1, key, val⟩, ⟨0, 0, 0, 0, ByteArray.empty⟩, ⟨0, 0, 0, 0⟩⟩ = er at *
        clear hrf
        go_wp2_with fail
        refine bodyPost_ret (results_cell2 rfl _ _ N 34 #[.int .i64 0, .int .u64 0, .int .i64 0, .string ⟨#[]⟩, .string ⟨#[]⟩, .int .u64 0, .int .i64 0, .int .i64 0, .int .i64 0, .string ⟨#[]⟩, .int .i64 0, .int .i64 0, .int .i64 0, .int .u32 0] (0, 0) _ rfl (setL_blk [.int .i64 0, .int .u64 0, .int .i64 0, .string ⟨#[]⟩, .string ⟨#[]⟩, .int .u64 0, .int .i64 0, .int .i64 0, .int .i64 0, .string ⟨#[]⟩, .int .i64 0, .int .i64 0, .int .i64 0, .int .u32 0] _ 0 [] [.int .i64 0, .int .u64 0, .int .i64 0, .string ⟨#[]⟩, .string ⟨#[]⟩, .int .u64 0, .int .i64 0, .int .i64 0, .int .i64 0, .string ⟨#[]⟩, .int .i64 0, .int .i64 0, .int .i64 0, .int .u32 0] rfl rfl HR8.out) Try.underlying34 rfl (by kernel_rfl)) rfl ?_
        refine ⟨.inr ⟨HY.out, rfl⟩, ?_⟩
        have hNN := HN.out
        exact (setL_keepO (B := N) (O := N) [.int .i64 0, .int .u64 0, .int .i64 0, .string ⟨#[]⟩, .string ⟨#[]⟩, .int .u64 0, .int .i64 0, .int .i64 0, .int .i64 0, .string ⟨#[]⟩, .int .i64 0, .int .i64 0, .int .i64 0, .int .u32 0] _ w 0 (by omega) (KeepO.of_below (hNN ▸ HB8.out))).below (by omega) (Nat.le_refl _)
end Vt
end Go.Proofs.Ytnjhbidialngmaa
