/-
  scan.Frames: its iterator ranges over located's and yields within: its contract by SeqX.
-/
import Derived.Test.YtifjjoobbegpoaaMhbr
import Derived.Test.YtifjjoobbegpoaaMhbi
namespace Go.Proofs.Ytifjjoobbegpoaa
open Go.RowKit Go.Shelf
namespace Vt
attribute [local go_sem] Oper.semAt_some
/-- 'scan.Frames(b)': b is boxed; the function value captures the box. -/
theorem frames_is (a : Option Addr) (len cap : Nat) (w : World) :
    Calls Try.prog 87 #[.slice a len cap] w fun e w' => e = .returned (.func (.func 108) #[] #[.pointer (some ⟨w.heap.size, 0, none⟩)]) ∧ w' = w.alloc (.cells #[.slice a len cap] 22) := by
  go_enter Try.func87, Try.ntmps87
  go_wp2
  go_ret
  exact ⟨rfl, rfl⟩
/-- a frame's cells -/
def frv (f : Fr) : List Value := [.int .i64 f.kind, .int .u64 (f.r.lsn : Int), .int .i64 f.r.kind, .string f.r.key, .string f.r.val, .int .u64 (f.p.lsn : Int), .int .i64 f.p.kind, .int .i64 f.p.at_, .int .i64 f.p.len, .string f.p.key, .int .i64 f.e.count, .int .i64 f.e.bytes, .int .i64 f.e.frames, .int .u32 (f.e.sum : Int)]
abbrev enc2 {B : Nat} (x : PL B) : Array Value := #[.int .i64 (x.1.1 : Int), .agg (frv x.1.2.2).toArray]
set_option maxRecDepth 100000 in
set_option maxHeartbeats 2000000 in
theorem frames_seq (K0 : Nat → Prop) (Bs : Nat) (sv : Value) (zs : List Nat) (w : World) (hBl : Bs < w.heap.size) (hK0 : ∀ k, K0 k → k < w.heap.size)
    (hc : w.cell? ⟨Bs, 0, none⟩ = some sv) (hI : IsB w sv zs) (hlow : ∀ b off c, zs ≠ [] → sv = .slice (some ⟨b, off, none⟩) zs.length c → K0 b) :
    SeqX Try.prog 108 #[.pointer (some ⟨Bs, 0, none⟩)] (enc2 (B := zs.length)) K0 (fun ys => ys.map Subtype.val = locs 0 zs) (fun pre => pre.map Subtype.val <+: locs 0 zs) zs.length w := by
  intro lr J Jx W hW hJ hJx hY h0
  obtain ⟨a, c, rfl⟩ := hI.shape
  have hc' := (hW.cell (p := ⟨Bs, 0, none⟩) hBl).trans hc
  have HI := hd (hI.below hW)
  have HLO := hd hlow
  have HK0 : Hid (∀ k, K0 k → k < W.heap.size) := fun k hk => Nat.lt_of_lt_of_le (hK0 k hk) hW.size
  have HY := hd hY
  have HJ0 := hd h0
  have HJ := hd hJ
  have HJX := hd hJx
  have hBW : Bs < W.heap.size := Nat.lt_of_lt_of_le hBl hW.size
  have n1 : ¬ Bs = W.heap.size := by omega
  have n2 : ¬ W.heap.size = Bs := by omega
  have hcA : ∀ o, (W.alloc o).cell? ⟨Bs, 0, none⟩ = some (.slice a zs.length c) := fun o => (((Below.refl _ W).alloc (Nat.le_refl _) o).cell (p := ⟨Bs, 0, none⟩) hBW).trans hc'
  clear hI hlow hK0 hY h0 hJ hJx hc hW hBl
  refine (callsIn_wide (n := 8)).1 ?_
  refine callsIn_of_wp_marks Try.func108 rfl trivial (Code.wpIn_mono bodyPostF_M ?_) rfl
  simp only [Try.ntmps108, List.size_toArray, List.length_cons, List.length_nil, Nat.reduceAdd, Nat.reduceSub, Array.replicate_succ, Array.replicate_zero, List.push_toArray, List.append_toArray, List.nil_append, List.cons_append]
  gi_wp2
  refine ⟨trivial, CallsIn.mono (callsIn_wide.2 (located_is _ _ _ _ _)) ?_⟩
  rintro e w4 ⟨rfl, hw4⟩
  obtain ⟨N, hN⟩ : ∃ N, N = W.heap.size := ⟨_, rfl⟩
  have hs4 : w4.heap.size = N + 3 := by rw [hw4, hN]; simp
  have hB4 : Hid (Below W.heap.size W w4) := by rw [hw4]; exact (((Below.refl _ _).alloc (Nat.le_refl _) _).alloc (by simp) _).alloc (by simp; omega) _
  have BY4 : Hid (Boxed w4 N 163 (.func (.yield lr) #[] #[])) := by rw [hw4, hN]; exact ((Boxed.new W 163 _).alloc _).alloc _
  have BB4 : Hid (Boxed w4 (N + 1) 22 (.slice a zs.length c)) := by
    have := Boxed.new (W.alloc (.cells #[.func (.yield lr) #[] #[]] 163)) 22 (.slice a zs.length c)
    rw [World.size_alloc, ← hN] at this
    rw [hw4]; exact this.alloc _
  have BF4 : Hid (Boxed w4 (N + 2) 3 (.int .i64 0)) := by
    have := Boxed.new ((W.alloc (.cells #[.func (.yield lr) #[] #[]] 163)).alloc (.cells #[.slice a zs.length c] 22)) 3 (.int .i64 0)
    rw [World.size_alloc, World.size_alloc, ← hN] at this
    rw [hw4]; exact this
  simp only [World.size_alloc]
  rw [← hN] at hB4 ⊢
  have HN := hd hN
  have HX : Hid (J [] (fun k => k = N ∨ k = N + 1) w4) := HJ.out [] _ _ W w4 HJ0.out (Turned.of_below (hN ▸ hB4.out)) (fun k hk => Or.inr (by omega))
  have hseq := located_stops 7 (by omega) zs.length (fun k => K0 k ∨ (k = N ∨ k = N + 1)) (N + 1) (N + 1 + 1) (.slice a zs.length c) 0 zs w4 (Nat.le_refl _) (Or.inr (Or.inr rfl)) (by omega) (by omega) (fun k hk => by rcases hk with hk | hk; have := HK0.out k hk; omega; omega) BB4.out.cell BF4.out.cell (HI.out.below (hN ▸ hB4.out)) (fun b off c' hne e => Or.inl (HLO.out b off c' hne e))
  have hfrm : frm zs.length 0 = 0 := by unfold frm; simp
  rw [hfrm, List.drop_zero] at hseq
  have HSQ := hd hseq
  have hSlt : ∀ V : World, N + 3 ≤ V.heap.size → ∀ k, (K0 k ∨ (k = N ∨ k = N + 1)) → k < V.heap.size   := fun V hV k hk => by rcases hk with hk | hk; have := HK0.out k hk; omega; omega
  have HSL := hd hSlt
  clear hseq hfrm hw4 hN hcA hc' n1 n2 hBW hSlt
  gi_wp2
  refine wpIn_rangeFunc_ownH rfl (by omega) (gf := 43) (lb := #[.pointer (some ⟨N + 1, 0, none⟩), .pointer (some ⟨N + 1 + 1, 0, none⟩)]) rfl trivial (enters_of Try.func43 (by kernel_rfl) rfl) HSQ.out keepS_t (keepS_b (HSL.out _ (by omega))) (Below.refl _ _) (fun _ => rfl)
    (fun (pre : List (PL zs.length)) (V : World) => J pre (fun k => k = N ∨ k = N + 1) V ∧ Boxed V N 163 (.func (.yield lr) #[] #[]) ∧ w4.heap.size ≤ V.heap.size)
    (fun cd (pre : List (PL zs.length)) (V : World) => cd = .ret ∧ Jx pre (fun k => k = N ∨ k = N + 1) V)
    (fun s V V' row hs hg hr => ⟨HJ.out.turn hs.1 (Turned.of_grown hg (fun r e => ⟨by have := (hr r e).1; have := HN.out; omega, (hr r e).2⟩)), Boxed.keptO hs.2.1 hg (fun r e => (hr r e).2), Nat.le_trans hs.2.2 hg.size⟩)
    (fun cd s V V' row hs hg hr => ⟨hs.1, HJX.out.turn hs.2 (Turned.of_grown hg (fun r e => ⟨by have := (hr r e).1; have := HN.out; omega, (hr r e).2⟩))⟩)
    ⟨HX.out, BY4.out, Nat.le_refl _⟩
    (fun (x : PL zs.length) a' V => ∃ Bx, N + 3 ≤ Bx ∧ Blk V Bx 43 (lcv x.1) ∧ a' = { tmps := #[.func (.yield lr) #[] #[], Value.pointer (some { block := Bs, off := 0 }), Value.pointer (some { block := N, off := 0 }), Value.pointer (some { block := Bx, off := 0 }), Value.slice a zs.length c, Value.func (Fn.func 43) #[] #[Value.pointer (some { block := N + 1, off := 0 }), Value.pointer (some { block := N + 1 + 1, off := 0 })], .agg (lcv x.1).toArray, undef, undef, undef, undef, undef, undef, undef], defers := [] })
    (fun x a' _ V V' row hs hg hr => by
      obtain ⟨Bx, h1, h2, h3⟩ := hs
      refine ⟨Bx, h1, h2.grown hg (fun e => ?_), h3⟩
      obtain ⟨o, ho, hc⟩ := (hr Bx e.symm).2
      have h2' : V.heap[Bx]? = _ := h2
      rw [h2'] at ho
      injection ho with ho
      rw [← ho] at hc
      cases hc)
    ?assign ?body ?done ?stop
  case assign =>
    rintro lk pre ⟨⟨x1, x2, k, ⟨rl, rk, rkey, rval⟩, ⟨pl, pk, pa, pn, pkey⟩, ⟨ec, eb, ef, es⟩⟩, hx⟩ V K ⟨h1, h2, h3⟩ hK
    simp only [encl, lcv]
    gi_wp2
    exact hK _ _ ((KeepsOthers.alloc _ _).from _) ((KeepS.refl _).alloc (HSL.out _ (by omega)) _) ⟨HJ.out.turn h1 (Turned.alloc _ _), h2.alloc _, by simp; omega⟩ ⟨V.heap.size, by omega, Blk.new V 43 (lcv (x1, x2, ⟨k, ⟨rl, rk, rkey, rval⟩, ⟨pl, pk, pa, pn, pkey⟩, ⟨ec, eb, ef, es⟩⟩)), rfl⟩
  case body =>
    rintro lk pre ⟨⟨x1, x2, k, ⟨rl, rk, rkey, rval⟩, ⟨pl, pk, pa, pn, pkey⟩, ⟨ec, eb, ef, es⟩⟩, hx⟩ a' V hlk _ ⟨hj, hby, hsz⟩ ⟨Bx, hBx, hblk, rfl⟩ hlen
    have hmx : Try.prog.follows .mixedOrders = true := by kernel_rfl
    have c0 := hblk.cell 0 _ rfl
    have c1 := hblk.cell 1 _ rfl
    have c2 := hblk.cell 2 _ rfl
    have c3 := hblk.cell 3 _ rfl
    have c4 := hblk.cell 4 _ rfl
    have c5 := hblk.cell 5 _ rfl
    have c6 := hblk.cell 6 _ rfl
    have c7 := hblk.cell 7 _ rfl
    have c8 := hblk.cell 8 _ rfl
    have c9 := hblk.cell 9 _ rfl
    have c10 := hblk.cell 10 _ rfl
    have c11 := hblk.cell 11 _ rfl
    have c12 := hblk.cell 12 _ rfl
    have c13 := hblk.cell 13 _ rfl
    have c14 := hblk.cell 14 _ rfl
    have cy := hby.cell
    have HY1 := YieldAt.any (m := 5) (HY.out pre ⟨(x1, x2, ⟨k, ⟨rl, rk, rkey, rval⟩, ⟨pl, pk, pa, pn, pkey⟩, ⟨ec, eb, ef, es⟩⟩), hx⟩ (fun k => k = N ∨ k = N + 1) V hj (fun k hk => ⟨by have := HN.out; omega, by omega⟩) hlen)
    obtain ⟨fn, tmps, assign, body, hy, hR⟩ := HY1
    simp only [enc2, frv] at hy
    have HR := hd hR
    have HBY := hd hby
    clear hR hby HY
    gi_wp2
    refine RoundIn.mono HR.out ?_
    rintro e W3 ⟨hkf, ⟨rfl, hJ3, hk3⟩ | ⟨rfl, hJx3⟩⟩
    · have HF := hd hkf
      have HJ3 := hd hJ3
      have HK3 := hd hk3
      clear hkf hJ3 hk3
      gi_wp2
      exact ⟨⟨HF.out.size, fun k o hk ho hc => HF.out.same k o (by have := HN.out; omega) ho hc⟩, HK3.out, HJ3.out, boxed_keepS HBY.out (Or.inr (Or.inl rfl)) HK3.out, Nat.le_trans hsz HF.out.size⟩
    · have HF := hd hkf
      have HJ3 := hd hJx3
      clear hkf hJx3
      gi_wp2
      exact ⟨⟨HF.out.size, fun k o hk ho hc => HF.out.same k o (by have := HN.out; omega) ho hc⟩, rfl, HJ3.out⟩
  case done =>
    rintro D ys V hD hys ⟨hj, hby, hsz⟩ hKD
    have HJD := hd hj
    have HKD := hd hKD
    have HYS := hd hys
    clear hj hKD hys
    gi_wp2
    refine ⟨by simp, .inl ⟨_, _, rfl, run_takeDeferred HKD.out, ?_⟩⟩
    refine ⟨_, results_none rfl _ _ _, ⟨_, rfl⟩, .inl ⟨ys, _, HYS.out, HJ.out.turn HJD.out (Turned.putObj _ HKD.out rfl (by have := HN.out; omega))⟩⟩
  case stop =>
    rintro D c2 pre V hD hp ⟨rfl, hj⟩ hKD
    have HJD := hd hj
    have HKD := hd hKD
    have HP := hd hp
    clear hj hKD hp
    gi_wp2
    refine ⟨by simp, .inl ⟨_, _, rfl, run_takeDeferred HKD.out, ?_⟩⟩
    refine ⟨_, results_none rfl _ _ _, ⟨_, rfl⟩, .inr ⟨pre, _, HP.out, HJX.out.turn HJD.out (Turned.putObj _ HKD.out rfl (by have := HN.out; omega))⟩⟩
end Vt
end Go.Proofs.Ytifjjoobbegpoaa
