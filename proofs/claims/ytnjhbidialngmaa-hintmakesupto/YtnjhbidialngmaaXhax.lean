/-
  THE REFERENCE OF LAYER 4: opened: what a body is of.
-/
import Derived.Test.YtnjhbidialngmaaXhau
import Derived.Test.YtnjhbidialngmaaXhaw
import Derived.Test.YtnjhbidialngmaaXhah
namespace Go.Proofs.Ytnjhbidialngmaa
open Go.RowKit
namespace Vt
/-- what opened answers -/
def opR (l : List Nat) (e : Ending) : Prop := (∃ f, Bdy l f ∧ e = .returned (.tuple #[.agg (fv f), .bool true])) ∨ ((∀ f, ¬ Bdy l f) ∧ e = .returned (.tuple #[.agg (fv zf), .bool false]))
theorem PN.setO {w : World} {B : Nat} {l : List Nat} {a : Nat} {bad : Bool} (h : PN w B l a bad) {p : Addr} (hp : B < p.block) (u : Value) : PN (w.setCell p u) B l a bad := by
  obtain ⟨v, h1, h2, h3, h4⟩ := h
  exact ⟨v, h1.other (by omega) u, h2.setO (fun b off n c e => by have := (h3 _ _ _ e).1; simp only at this; omega) u, h3, h4⟩
/-- either way: a number, a place, a flag -/
theorem pnR_any {B : Nat} {l : List Nat} {at_ : Nat} {e : Ending} {w' : World} (h : pnR B l at_ false e w') : ∃ (n a : Nat) (bad : Bool), e = .returned (.int .u64 (n : Int)) ∧ PN w' B l a bad ∧ ((bad = false ∧ (dec (l.drop at_)).2.2 = 0 ∧ n = (dec (l.drop at_)).1 ∧ a = at_ + (dec (l.drop at_)).2.1) ∨ (bad = true ∧ (dec (l.drop at_)).2.2 ≠ 0)) := by
  rcases h with ⟨h0, rfl, hP⟩ | ⟨h0, n, a, hn, rfl, hP⟩
  · exact ⟨_, _, false, rfl, hP, .inl ⟨rfl, h0, rfl, rfl⟩⟩
  · exact ⟨_, _, true, rfl, hP, .inr ⟨rfl, h0⟩⟩
theorem rsN_all (l : List Nat) (a : Nat) : rsN l a (-1) = l.length - a := by unfold rsN; rw [if_pos (.inl (by decide))]
theorem st_below (w : World) (A B C : Obj) : Below w.heap.size w (((w.alloc A).alloc B).alloc C) := (((Below.refl _ w).alloc (Nat.le_refl _) A).alloc (by simp) B).alloc (by simp; omega) C
theorem pn_start (w : World) (A C : Obj) (v : Value) (l : List Nat) (hI : IsB w v l) (hL : Low v w.heap.size) (h1 : 1 ≤ l.length) : PN (((w.alloc A).alloc (.cells #[v, .int .i64 1, .bool false] 145)).alloc C) (w.heap.size + 1) l 1 false := by
  have hb := Blk.new (w.alloc A) 145 [v, .int .i64 1, .bool false]
  rw [World.size_alloc] at hb
  exact ⟨v, hb.alloc _, hI.below (st_below w A _ C), fun a n c e => by have := hL a n c e; exact ⟨by omega, this.2⟩, h1⟩
theorem fr_start (w : World) (A B : Obj) (cs : List Value) : Blk (((w.alloc A).alloc B).alloc (.cells cs.toArray 34)) (w.heap.size + 1 + 1) 34 cs := by
  have hb := Blk.new ((w.alloc A).alloc B) 34 cs
  rw [World.size_alloc, World.size_alloc] at hb
  exact hb
theorem rs_start (w : World) (B C : Obj) (cs : List Value) : Blk (((w.alloc (.cells cs.toArray 34)).alloc B).alloc C) w.heap.size 34 cs := ((Blk.new w 34 cs).alloc _).alloc _
attribute [local go_sem] Oper.semAt_some
set_option maxRecDepth 100000 in
set_option maxHeartbeats 2000000 in
theorem opened_del (b off c : Nat) (s : List Nat) (w : World) (hI : IsB w (.slice (some ⟨b, off, none⟩) (2 :: s).length c) (2 :: s)) (hm : (2 :: s).length ≤ 4194304) :
    Calls Try.prog 87 #[.slice (some ⟨b, off, none⟩) (2 :: s).length c] w fun e w' => opR (2 :: s) e ∧ Below w.heap.size w w' := by
  have hmx : Try.prog.follows .mixedOrders = true := by kernel_rfl
  have r0 := hI.row 0 (by simp)
  rw [Nat.add_zero] at r0
  have r0' : w.cell? ⟨b, off, none⟩ = some (.int .u8 2) := r0
  have hbw : b < w.heap.size := lt_of_cell r0'
  have HI := hd hI
  clear r0 hI
  obtain ⟨L, hL⟩ : ∃ L, L = (2 :: s).length := ⟨_, rfl⟩
  have hL1 : 1 ≤ L := by rw [hL]; simp
  have hL0 : ((L : Int) == 0) = false := by rw [beq_eq_false_iff_ne]; omega
  rw [← hL] at hm HI ⊢
  have HLL := hd hL
  clear hL
  go_enter Try.func87, Try.ntmps87
  go_wp2_with fail
  have HLow : Hid (Low (.slice (some ⟨b, off, none⟩) L c) w.heap.size) := low_some hbw
  have hmL : (2 :: s).length ≤ 4194304 := by rw [← HLL.out]; exact hm
  have h1L : 1 ≤ (2 :: s).length := by simp
  refine Calls.mono (pen_number (w.heap.size + 1) (2 :: s) 1 false _ (pn_start w _ _ _ _ HI.out HLow.out h1L) hmL) ?_
  rintro e w4 ⟨hr, hK⟩
  have hF := (fr_start w _ _ [.int .i64 2, .int .u64 0, .int .i64 2, .string ⟨#[]⟩, .string ⟨#[]⟩, .int .u64 0, .int .i64 0, .int .i64 0, .int .i64 0, .string ⟨#[]⟩, .int .i64 0, .int .i64 0, .int .i64 0, .int .u32 0]).keepO (by omega) hK
  have hR := (rs_start w _ _ [.int .i64 0, .int .u64 0, .int .i64 0, .string ⟨#[]⟩, .string ⟨#[]⟩, .int .u64 0, .int .i64 0, .int .i64 0, .int .i64 0, .string ⟨#[]⟩, .int .i64 0, .int .i64 0, .int .i64 0, .int .u32 0]).keepO (by omega) hK
  have hBw := (st_below w _ _ _).trans (hK.below (by omega) (st_below w _ _ _).size)
  obtain ⟨N, hN⟩ : ∃ N, N = w.heap.size := ⟨_, rfl⟩
  rw [← hN] at hr hF hR hBw ⊢
  have HN := hd hN
  have HBW := hd hBw
  have HF := hd hF
  have HR := hd hR
  clear hK hN hBw hF hR
  obtain ⟨n, a, bad, rfl, hP, hcase⟩ := pnR_any hr
  have HCS := hd hcase
  have HP := hd hP
  have f1 := HF.out.frozen 1
  have g1 := HF.out.cell 1 _ rfl
  clear hr hcase hP
  go_wp2_with fail
  refine Calls.mono (pen_rest (N + 1) (2 :: s) a bad (-1) _ (HP.out.setO (p := ⟨N + 1 + 1, 1, none⟩) (by show N + 1 < N + 1 + 1; omega) _) hmL) ?_
  rintro e w5 ⟨rfl, hP5, hK5⟩
  rw [rsN_all] at hP5 ⊢
  have hF5 := (HF.out.set (j := 1) (.int .u64 (n : Int))).keepO (by omega) hK5
  have hR5 := (HR.out.other (p := ⟨N + 1 + 1, 1, none⟩) (by show N + 1 + 1 ≠ N; omega) (.int .u64 (n : Int))).keepO (by omega) hK5
  have hB5 : Below N w w5 := (HBW.out.setCell (p := ⟨N + 1 + 1, 1, none⟩) (by show N ≤ N + 1 + 1; omega) (.int .u64 (n : Int))).trans (hK5.below (by omega) (by have := HR.out.lt; simp [World.setCell]; omega))
  obtain ⟨key, hkey⟩ : ∃ key, key = str (((2 :: s).drop a).take ((2 :: s).length - a)) := ⟨_, rfl⟩
  rw [← hkey]
  have HKEY := hd hkey
  obtain ⟨A, hA⟩ : ∃ A, A = a + ((2 :: s).length - a) := ⟨_, rfl⟩
  rw [← hA] at hP5
  have HA := hd hA
  have HP5 := hd hP5
  have HF5 := hd hF5
  have HR5 := hd hR5
  have HB5 := hd hB5
  have f3 := hF5.frozen 3
  have g3 := hF5.cell 3 _ rfl
  obtain ⟨v5, hBk, _⟩ := hP5
  have c1 := hBk.cell 1 _ rfl
  have c2 := hBk.cell 2 _ rfl
  have m0 := hF5.cell 0 _ rfl
  have m1 := hF5.cell 1 _ rfl
  have m2 := hF5.cell 2 _ rfl
  have m4 := hF5.cell 4 _ rfl
  have m5 := hF5.cell 5 _ rfl
  have m6 := hF5.cell 6 _ rfl
  have m7 := hF5.cell 7 _ rfl
  have m8 := hF5.cell 8 _ rfl
  have m9 := hF5.cell 9 _ rfl
  have m10 := hF5.cell 10 _ rfl
  have m11 := hF5.cell 11 _ rfl
  have m12 := hF5.cell 12 _ rfl
  have m13 := hF5.cell 13 _ rfl
  clear hkey hA hF5 hR5 hB5 hK5 HP HF HR HBW f1 g1 hBk
  have nb1 : ¬ N + 1 = N + 1 + 1 := by omega
  have nb2 : ¬ N + 1 + 1 = N + 1 := by omega
  have hRx := HR5.out.other (p := ⟨N + 1 + 1, 3, none⟩) (by show N + 1 + 1 ≠ N; omega) (.string key)
  have y0 := HR5.out.cell 0 _ rfl
  have yz0 := HR5.out.frozen 0
  have y1 := HR5.out.cell 1 _ rfl
  have yz1 := HR5.out.frozen 1
  have y2 := HR5.out.cell 2 _ rfl
  have yz2 := HR5.out.frozen 2
  have y3 := HR5.out.cell 3 _ rfl
  have yz3 := HR5.out.frozen 3
  have y4 := HR5.out.cell 4 _ rfl
  have yz4 := HR5.out.frozen 4
  have y5 := HR5.out.cell 5 _ rfl
  have yz5 := HR5.out.frozen 5
  have y6 := HR5.out.cell 6 _ rfl
  have yz6 := HR5.out.frozen 6
  have y7 := HR5.out.cell 7 _ rfl
  have yz7 := HR5.out.frozen 7
  have y8 := HR5.out.cell 8 _ rfl
  have yz8 := HR5.out.frozen 8
  have y9 := HR5.out.cell 9 _ rfl
  have yz9 := HR5.out.frozen 9
  have y10 := HR5.out.cell 10 _ rfl
  have yz10 := HR5.out.frozen 10
  have y11 := HR5.out.cell 11 _ rfl
  have yz11 := HR5.out.frozen 11
  have y12 := HR5.out.cell 12 _ rfl
  have yz12 := HR5.out.frozen 12
  have y13 := HR5.out.cell 13 _ rfl
  have yz13 := HR5.out.frozen 13
  have nb3 : ¬ N = N + 1 + 1 := by omega
  have nb4 : ¬ N + 1 + 1 = N := by omega
  have HRX := hd hRx
  have HBX : Hid (Below N w (w5.setCell ⟨N + 1 + 1, 3, none⟩ (.string key))) := HB5.out.setCell (p := ⟨N + 1 + 1, 3, none⟩) (by show N ≤ N + 1 + 1; omega) _
  clear hRx
  cases bad with
  | true =>
    have HNO : Hid (∀ f, ¬ Bdy (2 :: s) f) := by
      rcases HCS.out with ⟨h, _⟩ | ⟨_, h0⟩
      · cases h
      · intro f hf
        rcases hf.kind with ⟨_, e, _⟩ | ⟨_, e, _, hl⟩ | ⟨_, e, _⟩ | ⟨_, e, _⟩
        · injection e with e; cases e
        · injection e with _ e
          exact h0 (dec_front hl e).1
        · injection e with e; cases e
        · injection e with e; cases e
    go_wp2_with fail
    refine bodyPost_ret (results_cell2 rfl _ _ N 34 #[.int .i64 0, .int .u64 0, .int .i64 0, .string ⟨#[]⟩, .string ⟨#[]⟩, .int .u64 0, .int .i64 0, .int .i64 0, .int .i64 0, .string ⟨#[]⟩, .int .i64 0, .int .i64 0, .int .i64 0, .int .u32 0] (0, 0) _ rfl (setL_blk [.int .i64 0, .int .u64 0, .int .i64 0, .string ⟨#[]⟩, .string ⟨#[]⟩, .int .u64 0, .int .i64 0, .int .i64 0, .int .i64 0, .string ⟨#[]⟩, .int .i64 0, .int .i64 0, .int .i64 0, .int .u32 0] _ 0 [] [.int .i64 0, .int .u64 0, .int .i64 0, .string ⟨#[]⟩, .string ⟨#[]⟩, .int .u64 0, .int .i64 0, .int .i64 0, .int .i64 0, .string ⟨#[]⟩, .int .i64 0, .int .i64 0, .int .i64 0, .int .u32 0] rfl rfl HRX.out) Try.underlying34 rfl (by kernel_rfl)) rfl ?_
    refine ⟨.inr ⟨HNO.out, rfl⟩, ?_⟩
    have hNN := HN.out
    exact (setL_keepO (B := N) (O := N) [.int .i64 0, .int .u64 0, .int .i64 0, .string ⟨#[]⟩, .string ⟨#[]⟩, .int .u64 0, .int .i64 0, .int .i64 0, .int .i64 0, .string ⟨#[]⟩, .int .i64 0, .int .i64 0, .int .i64 0, .int .u32 0] _ w 0 (by omega) (KeepO.of_below (hNN ▸ HBX.out))).below (by omega) (Nat.le_refl _)
  | false =>
    have hAL : ¬ (A : Int) < (L : Int) := by have := HA.out; have := HLL.out; omega
    obtain ⟨hd0, hnE, haE⟩ : (dec s).2.2 = 0 ∧ n = (dec s).1 ∧ a = 1 + (dec s).2.1 := by
      rcases HCS.out with ⟨_, h⟩ | ⟨h, _⟩
      · exact h
      · cases h
    have hbs : Byt s := fun x hx => HI.out.1 x (List.mem_cons_of_mem _ hx)
    obtain ⟨d1, d2, d3⟩ := dec_split hbs hd0
    have hkE : key = str (s.drop (dec s).2.1) := by
      rw [HKEY.out, haE, show 1 + (dec s).2.1 = (dec s).2.1 + 1 by omega, List.drop_succ_cons, List.length_cons, List.take_of_length_le (by rw [List.length_drop]; omega)]
    have HYES : Hid (rf (ofR ⟨n, 2, key, ByteArray.empty⟩) = 0 → Bdy (2 :: s) (ofR ⟨n, 2, key, ByteArray.empty⟩)) := fun hr => by
      rw [hnE, hkE] at hr ⊢
      exact del_bdy (byt_drop hbs _) d1 d2 hr
    have HNO : Hid (rf (ofR ⟨n, 2, key, ByteArray.empty⟩) ≠ 0 → ∀ f, ¬ Bdy (2 :: s) f) := fun hr f hf => by
      have h0 := hf.1
      rcases hf.kind with ⟨_, e, _⟩ | ⟨_, e, ef, hl⟩ | ⟨_, e, _⟩ | ⟨_, e, _⟩
      · injection e with e; cases e
      · injection e with _ e
        obtain ⟨_, q2, q3⟩ := dec_front hl e
        apply hr
        rw [hnE, hkE, q2, q3, str_bl]
        rw [ef] at h0
        exact h0
      · injection e with e; cases e
      · injection e with e; cases e
    have HMAY := hd (r4_may ⟨n, 2, key, ByteArray.empty⟩)
    simp only [fv, ofR, zp, ze] at HMAY
    clear hd0 hnE haE hbs d1 d2 d3 hkE
    go_wp2_with fail
    refine Calls.mono (HMAY.out _) ?_
    rintro e w6 ⟨rfl, hb6⟩
    have hF6 := (HF5.out.set (j := 3) (.string key)).keep hb6
    have hR6 := HRX.out.keep hb6
    have HB6 := hd (HBX.out.trans (hb6.mono (by have := HBX.out.size; have := HN.out; omega)))
    have HR6 := hd hR6
    have u0 := hF6.cell 0 _ rfl
    have u1 := hF6.cell 1 _ rfl
    have u2 := hF6.cell 2 _ rfl
    have u3 := hF6.cell 3 _ rfl
    have u4 := hF6.cell 4 _ rfl
    have u5 := hF6.cell 5 _ rfl
    have u6 := hF6.cell 6 _ rfl
    have u7 := hF6.cell 7 _ rfl
    have u8 := hF6.cell 8 _ rfl
    have u9 := hF6.cell 9 _ rfl
    have u10 := hF6.cell 10 _ rfl
    have u11 := hF6.cell 11 _ rfl
    have u12 := hF6.cell 12 _ rfl
    have u13 := hF6.cell 13 _ rfl
    have v0 := hR6.cell 0 _ rfl
    have vz0 := hR6.frozen 0
    have v1 := hR6.cell 1 _ rfl
    have vz1 := hR6.frozen 1
    have v2 := hR6.cell 2 _ rfl
    have vz2 := hR6.frozen 2
    have v3 := hR6.cell 3 _ rfl
    have vz3 := hR6.frozen 3
    have v4 := hR6.cell 4 _ rfl
    have vz4 := hR6.frozen 4
    have v5 := hR6.cell 5 _ rfl
    have vz5 := hR6.frozen 5
    have v6 := hR6.cell 6 _ rfl
    have vz6 := hR6.frozen 6
    have v7 := hR6.cell 7 _ rfl
    have vz7 := hR6.frozen 7
    have v8 := hR6.cell 8 _ rfl
    have vz8 := hR6.frozen 8
    have v9 := hR6.cell 9 _ rfl
    have vz9 := hR6.frozen 9
    have v10 := hR6.cell 10 _ rfl
    have vz10 := hR6.frozen 10
    have v11 := hR6.cell 11 _ rfl
    have vz11 := hR6.frozen 11
    have v12 := hR6.cell 12 _ rfl
    have vz12 := hR6.frozen 12
    have v13 := hR6.cell 13 _ rfl
    have vz13 := hR6.frozen 13
    clear hF6 hR6 hb6 HMAY
    by_cases hrf : rf (ofR ⟨n, 2, key, ByteArray.empty⟩) = 0
    · have HY := hd (HYES.out hrf)
      have hrf' : rf ⟨2, ⟨n, 2, key, ByteArray.empty⟩, ⟨0, 0, 0, 0, ByteArray.empty⟩, ⟨0, 0, 0, 0⟩⟩ = 0 := hrf
      rw [hrf']
      clear hrf hrf'
      go_wp2_with fail
      refine bodyPost_ret (results_cell2 rfl _ _ N 34 #[.int .i64 2, .int .u64 (n : Int), .int .i64 2, .string key, .string ⟨#[]⟩, .int .u64 0, .int .i64 0, .int .i64 0, .int .i64 0, .string ⟨#[]⟩, .int .i64 0, .int .i64 0, .int .i64 0, .int .u32 0] (0, 0) _ rfl (setL_blk [.int .i64 2, .int .u64 (n : Int), .int .i64 2, .string key, .string ⟨#[]⟩, .int .u64 0, .int .i64 0, .int .i64 0, .int .i64 0, .string ⟨#[]⟩, .int .i64 0, .int .i64 0, .int .i64 0, .int .u32 0] _ 0 [] [.int .i64 0, .int .u64 0, .int .i64 0, .string ⟨#[]⟩, .string ⟨#[]⟩, .int .u64 0, .int .i64 0, .int .i64 0, .int .i64 0, .string ⟨#[]⟩, .int .i64 0, .int .i64 0, .int .i64 0, .int .u32 0] rfl rfl HR6.out) Try.underlying34 rfl (by kernel_rfl)) rfl ?_
      refine ⟨.inl ⟨_, HY.out, rfl⟩, ?_⟩
      have hNN := HN.out
      exact (setL_keepO (B := N) (O := N) [.int .i64 2, .int .u64 (n : Int), .int .i64 2, .string key, .string ⟨#[]⟩, .int .u64 0, .int .i64 0, .int .i64 0, .int .i64 0, .string ⟨#[]⟩, .int .i64 0, .int .i64 0, .int .i64 0, .int .u32 0] _ w 0 (by omega) (KeepO.of_below (hNN ▸ HB6.out))).below (by omega) (Nat.le_refl _)
    · have HY := hd (HNO.out hrf)
      have hne : (((rf ⟨2, ⟨n, 2, key, ByteArray.empty⟩, ⟨0, 0, 0, 0, ByteArray.empty⟩, ⟨0, 0, 0, 0⟩⟩ : Nat) : Int) != 0) = true := by rw [bne_iff_ne]; intro q; exact hrf (by exact_mod_cast q)
      generalize rf ⟨2, ⟨n, 2, key, ByteArray.empty⟩, ⟨0, 0, 0, 0, ByteArray.empty⟩, ⟨0, 0, 0, 0⟩⟩ = er at *
      clear hrf
      go_wp2_with fail
      refine bodyPost_ret (results_cell2 rfl _ _ N 34 #[.int .i64 0, .int .u64 0, .int .i64 0, .string ⟨#[]⟩, .string ⟨#[]⟩, .int .u64 0, .int .i64 0, .int .i64 0, .int .i64 0, .string ⟨#[]⟩, .int .i64 0, .int .i64 0, .int .i64 0, .int .u32 0] (0, 0) _ rfl (setL_blk [.int .i64 0, .int .u64 0, .int .i64 0, .string ⟨#[]⟩, .string ⟨#[]⟩, .int .u64 0, .int .i64 0, .int .i64 0, .int .i64 0, .string ⟨#[]⟩, .int .i64 0, .int .i64 0, .int .i64 0, .int .u32 0] _ 0 [] [.int .i64 0, .int .u64 0, .int .i64 0, .string ⟨#[]⟩, .string ⟨#[]⟩, .int .u64 0, .int .i64 0, .int .i64 0, .int .i64 0, .string ⟨#[]⟩, .int .i64 0, .int .i64 0, .int .i64 0, .int .u32 0] rfl rfl HR6.out) Try.underlying34 rfl (by kernel_rfl)) rfl ?_
      refine ⟨.inr ⟨HY.out, rfl⟩, ?_⟩
      have hNN := HN.out
      exact (setL_keepO (B := N) (O := N) [.int .i64 0, .int .u64 0, .int .i64 0, .string ⟨#[]⟩, .string ⟨#[]⟩, .int .u64 0, .int .i64 0, .int .i64 0, .int .i64 0, .string ⟨#[]⟩, .int .i64 0, .int .i64 0, .int .i64 0, .int .u32 0] _ w 0 (by omega) (KeepO.of_below (hNN ▸ HB6.out))).below (by omega) (Nat.le_refl _)
end Vt
end Go.Proofs.Ytnjhbidialngmaa
