/-
  THE REFERENCE OF LAYER 4: salvorref4.plain: escaped bytes as they were.
  THE REFERENCE OF LAYER 4: opened: what a body is of.
  THE REFERENCE OF LAYER 4: opened of a Put's body.
-/
import Derived.Test.YtlddogigbodilaaMac
import Derived.Test.YtlddogigbodilaaMay
import Derived.Test.YtlddogigbodilaaMad
import Derived.Test.YtlddogigbodilaaMab
import Derived.Test.YtlddogigbodilaaMba
import Derived.Test.YtlddogigbodilaaMaj
namespace Go.Proofs.Ytlddogigbodilaa
open Go.RowKit
namespace Vt
theorem fs_166 {r : List Nat} (h : (fs r).2.2 ≠ 0) (h0 : r.getD 0 0 = 166) : r.length = 1 ∨ (2 ≤ r.length ∧ 2 ≤ r.getD 1 0) := by
  match r with
  | [] => simp at h0
  | [x] => exact .inl rfl
  | x :: y :: t =>
    simp at h0
    subst h0
    refine .inr ⟨by simp, ?_⟩
    rcases Nat.lt_or_ge y 2 with hy | hy
    · exfalso
      apply h
      unfold fs
      have : y = 0 ∨ y = 1 := by omega
      rcases this with rfl | rfl <;> simp
    · simpa using hy
theorem getD_at {A B C l : List Nat} (h : l = A ++ (B ++ C)) {m : Nat} (hm : m < B.length) : l.getD (A.length + m) 0 = B.getD m 0 := by
  rw [h, List.getD_eq_getElem?_getD, List.getD_eq_getElem?_getD, List.getElem?_append_right (by omega), Nat.add_sub_cancel_left, List.getElem?_append_left hm]
theorem tok {l p r : List Nat} (h : l = wr p ++ r) {j : Nat} (hj : j < p.length) :
    (wr (p.take (j + 1))).length = (wr (p.take j)).length + (e1 (p.getD j 0)).length ∧ (wr (p.take (j + 1))).length ≤ l.length ∧ ∀ m, m < (e1 (p.getD j 0)).length → l.getD ((wr (p.take j)).length + m) 0 = (e1 (p.getD j 0)).getD m 0 := by
  have e0 : wr p = wr (p.take (j + 1)) ++ wr (p.drop (j + 1)) := by rw [← wr_append, List.take_append_drop]
  have e1' := wr_succ hj
  have e2 : l = wr (p.take j) ++ (e1 (p.getD j 0) ++ (wr (p.drop (j + 1)) ++ r)) := by
    rw [h, e0, e1']; simp [List.append_assoc]
  refine ⟨by rw [e1', List.length_append], ?_, fun m hm => getD_at e2 hm⟩
  have := congrArg List.length e2
  rw [e1']
  simp only [List.length_append] at this ⊢
  omega
theorem tok_end {l p r : List Nat} (h : l = wr p ++ r) (m : Nat) : l.getD ((wr p).length + m) 0 = r.getD m 0 := by
  rw [h, List.getD_eq_getElem?_getD, List.getD_eq_getElem?_getD, List.getElem?_append_right (by omega), Nat.add_sub_cancel_left]
theorem lit1 (ch : Nat) (h : ch < 256) (W : World) : IsB (W.alloc (.cells #[.int .u8 (ch : Int)] 5)) (.slice (some ⟨W.heap.size, 0, none⟩) 1 1) [ch] :=
  lit_isK .u8 256 W _ 5 [ch] 1 rfl rfl (by intro y hy; rw [List.mem_singleton] at hy; omega) (by simp [maxLen])
attribute [local go_sem] Oper.semAt_some
set_option maxRecDepth 100000 in
set_option maxHeartbeats 2000000 in
theorem r4_plain_row (b off c : Nat) (l p r : List Nat) (w : World) (hI : IsB w (.slice (some ⟨b, off, none⟩) l.length c) l) (hm : l.length ≤ 4194304) (hpr : l = Vt.wr p ++ r) (hr : r = [] ∨ r ≠ [] ∧ (fs r).2.2 ≠ 0) :
    Calls Try.prog 74 #[.slice (some ⟨b, off, none⟩) l.length c] w fun e w' => ((r = [] ∧ ∃ u, e = .returned (.tuple #[u, .bool true]) ∧ JB w' w.heap.size u p) ∨ (r ≠ [] ∧ e = .returned (.tuple #[.slice none 0 0, .bool false]))) ∧ Below w.heap.size w w' := by
  have HI := hd hI
  have HPR := hd hpr
  have hbl := hI.1
  have HBY := hd hbl
  have hll := congrArg List.length hpr
  rw [List.length_append] at hll
  have hpl := (wr_len p).1
  have HPB := hd (part_byt hpr hbl)
  have hpl2 : p.length ≤ l.length := by omega
  have HLL := hd hll
  clear hI hpr hbl hll hpl
  go_enter Try.func74, Try.ntmps74
  go_wp2_with fail
  go_loopw [4, 5] (fun v y wi => ∃ j : Nat, j ≤ p.length ∧ y = .int .i64 ((Vt.wr (p.take j)).length : Int) ∧ JB wi w.heap.size v (p.take j) ∧ Below w.heap.size w wi) (fun _ y _ => l.length - (intOf y).toNat)
  case atStart => exact ⟨0, by omega, rfl, jb_nil _ _, Below.refl _ _⟩
  case round =>
    obtain ⟨j, hj, rfl, hJ, hB⟩ := hrel
    have HB := hd hB
    have hsz := hB.size
    have HROW := hd ((HI.out.below hB).row)
    have hcap := (HI.out.below hB).cap
    have hq : (p.take j).length ≤ 4194304 := by rw [List.length_take]; omega
    obtain ⟨q, hqe⟩ : ∃ q, q = p.take j := ⟨_, rfl⟩
    have HQ := hd hqe
    rw [← hqe] at hJ hq
    have HJ : Hid (JB wr w.heap.size u4 q) := hJ
    clear hJ hB hqe
    by_cases hlt : j < p.length
    · obtain ⟨t1, t2, t3⟩ := tok HPR.out hlt
      have hcb : p.getD j 0 < 256 := getD_lt HPB.out j
      have htk : p.take (j + 1) = q ++ [p.getD j 0] := by rw [take_succ_getD hlt, HQ.out]
      have HTK := hd htk
      obtain ⟨i, hi⟩ : ∃ i, i = (Vt.wr (p.take j)).length := ⟨_, rfl⟩
      rw [← hi] at t1 t3 ⊢
      generalize p.getD j 0 = ch at *
      by_cases h7 : ch = 167
      · subst h7
        have z0 : l.getD i 0 = 166 := t3 0 (by decide)
        have z1 : l.getD (i + 1) 0 = 1 := t3 1 (by decide)
        have tl : (e1 167).length = 2 := rfl
        rw [tl] at t1
        have HLN := hd t1
        have il : i + 1 < l.length := by omega
        have c0 := HROW.out i (by omega)
        have c1 := HROW.out (i + 1) il
        rw [z0] at c0
        rw [z1] at c1
        have il1 : i < l.length := by omega
        have il2 : ((i : Int) + 1 == (l.length : Int)) = false := by simp; omega
        clear t1 t2 t3 hi z0 z1 tl htk
        have HLT := lit1 167 (by decide)
        go_wp2_with (at_builtin; refine wpList_append_jb _ rfl _ _ rfl w.heap.size u4 (.slice (some ⟨wr.heap.size, 0, none⟩) 1 1) q [167] rfl rfl (HJ.out.alloc _) (HLT wr) (q.length + 1) rfl _ rfl (by omega) (by rw [World.size_alloc]; omega) ?_; intro a2 cap2 w2 hJ2 hg2 hc2)
        have HJ2 := hd hJ2
        have HB2 := hd ((HJ.out.alloc _).grown (HB.out.alloc hsz _) (Nat.le_refl _) (by rw [World.size_alloc]; omega) hg2)
        clear hJ2 hg2
        go_roundw
        case rel => exact ⟨j + 1, by omega, by rw [HLN.out]; go_num, by rw [HTK.out]; exact HJ2.out, HB2.out⟩
        case measure => simp [intOf]; omega
      · by_cases h6 : ch = 166
        · subst h6
          have z0 : l.getD i 0 = 166 := t3 0 (by decide)
          have z1 : l.getD (i + 1) 0 = 0 := t3 1 (by decide)
          have tl : (e1 166).length = 2 := rfl
          rw [tl] at t1
          have HLN := hd t1
          have il : i + 1 < l.length := by omega
          have c0 := HROW.out i (by omega)
          have c1 := HROW.out (i + 1) il
          rw [z0] at c0
          rw [z1] at c1
          have il1 : i < l.length := by omega
          have il2 : ((i : Int) + 1 == (l.length : Int)) = false := by simp; omega
          clear t1 t2 t3 hi z0 z1 tl htk
          have HLT := lit1 166 (by decide)
          go_wp2_with (at_builtin; refine wpList_append_jb _ rfl _ _ rfl w.heap.size u4 (.slice (some ⟨wr.heap.size, 0, none⟩) 1 1) q [166] rfl rfl (HJ.out.alloc _) (HLT wr) (q.length + 1) rfl _ rfl (by omega) (by rw [World.size_alloc]; omega) ?_; intro a2 cap2 w2 hJ2 hg2 hc2)
          have HJ2 := hd hJ2
          have HB2 := hd ((HJ.out.alloc _).grown (HB.out.alloc hsz _) (Nat.le_refl _) (by rw [World.size_alloc]; omega) hg2)
          clear hJ2 hg2
          go_roundw
          case rel => exact ⟨j + 1, by omega, by rw [HLN.out]; go_num, by rw [HTK.out]; exact HJ2.out, HB2.out⟩
          case measure => simp [intOf]; omega
        · rw [e1_any h7 h6] at t1 t3
          have z0 : l.getD i 0 = ch := t3 0 (by simp)
          have HLN := hd t1
          have c0 := HROW.out i (by simp at t1; omega)
          rw [z0] at c0
          have il1 : i < l.length := by simp at t1; omega
          have b7 : ((ch : Int) == 167) = false := by simp; omega
          have b6 : ((ch : Int) != 166) = true := by simp; omega
          clear t1 t2 t3 hi z0 htk
          have HLT := lit1 ch hcb
          go_wp2_with (at_builtin; refine wpList_append_jb _ rfl _ _ rfl w.heap.size u4 (.slice (some ⟨wr.heap.size, 0, none⟩) 1 1) q [ch] rfl rfl (HJ.out.alloc _) (HLT wr) (q.length + 1) rfl _ rfl (by omega) (by rw [World.size_alloc]; omega) ?_; intro a2 cap2 w2 hJ2 hg2 hc2)
          have HJ2 := hd hJ2
          have HB2 := hd ((HJ.out.alloc _).grown (HB.out.alloc hsz _) (Nat.le_refl _) (by rw [World.size_alloc]; omega) hg2)
          clear hJ2 hg2
          go_roundw
          case rel => exact ⟨j + 1, by omega, by rw [HLN.out]; go_num, by rw [HTK.out]; exact HJ2.out, HB2.out⟩
          case measure => simp [intOf]; omega
    · have hje : j = p.length := by omega
      have hqp : q = p := by rw [HQ.out, hje, List.take_length]
      have hie : (Vt.wr (p.take j)).length = (Vt.wr p).length := by rw [hje, List.take_length]
      rw [hie]
      have hend := fun m => tok_end HPR.out m
      have hll := HLL.out
      obtain ⟨i, hi⟩ : ∃ i, i = (Vt.wr p).length := ⟨_, rfl⟩
      rw [← hi] at hend hll ⊢
      subst hqp
      clear hje hie hi HQ
      rcases hr with hr | ⟨hr1, hr2⟩
      · subst hr
        have hil : i = l.length := by simp at hll; omega
        subst hil
        clear hend hll
        go_wp2_with fail
        go_ret2
        exact ⟨⟨_, rfl, HJ.out⟩, HB.out⟩
      · have hrl : 1 ≤ r.length := by cases r with
          | nil => exact absurd rfl hr1
          | cons x y => simp
        have il : i < l.length := by omega
        have c0 := HROW.out i il
        have z0 := hend 0
        rw [Nat.add_zero] at z0
        rcases fs_err r with h0 | ⟨_, h0⟩ | ⟨_, h0⟩
        · exact absurd h0 hr2
        · rw [z0, h0] at c0
          have HR1 := hd hr1
          clear hend hll hr2 hr1 z0 h0
          go_wp2_with fail
          go_ret2
          exact ⟨.inr ⟨HR1.out, rfl⟩, HB.out⟩
        · rw [z0, h0] at c0
          have HR1 := hd hr1
          rcases fs_166 hr2 h0 with h1 | ⟨h1, h2⟩
          · have il2 : ((i : Int) + 1 == (l.length : Int)) = true := by simp; omega
            clear hend hll hr2 hr1 z0 h0 h1
            go_wp2_with fail
            go_ret2
            exact ⟨.inr ⟨HR1.out, rfl⟩, HB.out⟩
          · have il1 : i + 1 < l.length := by omega
            have il2 : ((i : Int) + 1 == (l.length : Int)) = false := by simp; omega
            have c1 := HROW.out (i + 1) il1
            rw [hend 1] at c1
            have hb2 : (r.getD 1 0 : Int) > 1 := by omega
            obtain ⟨y, hy⟩ : ∃ y, y = r.getD 1 0 := ⟨_, rfl⟩
            rw [← hy] at c1 hb2
            clear hend hll hr2 hr1 z0 h0 h1 h2 hy
            go_wp2_with fail
            go_ret2
            exact ⟨.inr ⟨HR1.out, rfl⟩, HB.out⟩
set_option maxRecDepth 100000 in
theorem r4_plain_nil (a : Option Addr) (c : Nat) (w : World) :
    Calls Try.prog 74 #[.slice a 0 c] w fun e w' => (∃ u, e = .returned (.tuple #[u, .bool true]) ∧ JB w' w.heap.size u []) ∧ Below w.heap.size w w' := by
  go_enter Try.func74, Try.ntmps74
  go_wp2_with fail
  go_loopw [4, 5] (fun v y wi => v = .slice none 0 0 ∧ y = .int .i64 0 ∧ wi = w) (fun _ _ _ => 0)
  case atStart => exact ⟨rfl, rfl, rfl⟩
  case round =>
    obtain ⟨rfl, rfl, rfl⟩ := hrel
    go_wp2_with fail
    go_ret2
    exact ⟨⟨_, rfl, jb_nil _ _⟩, Below.refl _ _⟩
/-- 'plain' of any bytes -/
theorem r4_plain (v : Value) (l : List Nat) (w : World) (hI : IsB w v l) (hm : l.length ≤ 4194304) :
    Calls Try.prog 74 #[v] w fun e w' => (((badB 0 l).1 = 0 ∧ ∃ u, e = .returned (.tuple #[u, .bool true]) ∧ JB w' w.heap.size u (plain l)) ∨ ((badB 0 l).1 ≠ 0 ∧ e = .returned (.tuple #[.slice none 0 0, .bool false]))) ∧ Below w.heap.size w w' := by
  have hI' := hI
  obtain ⟨_, _, ⟨rfl, a, c, rfl⟩ | ⟨b, off, c, rfl, _⟩⟩ := hI
  · refine (r4_plain_nil a c w).mono ?_
    rintro e w' ⟨h1, h2⟩
    exact ⟨.inl ⟨rfl, h1⟩, h2⟩
  · obtain ⟨p, r, hpr, hr⟩ := part l
    refine (r4_plain_row b off c l p r w hI' hm hpr hr).mono ?_
    rintro e w' ⟨⟨rfl, u, rfl, hJ⟩ | ⟨hr1, rfl⟩, hB⟩
    · rw [List.append_nil] at hpr
      refine ⟨.inl ⟨by rw [hpr, badB_wr], u, rfl, ?_⟩, hB⟩
      rw [hpr, plain_wr]; exact hJ
    · rcases hr with hr | ⟨_, hr2⟩
      · exact absurd hr hr1
      · refine ⟨.inr ⟨?_, rfl⟩, hB⟩
        rw [hpr, (part_bad hr1 hr2).2]
        exact hr2
end Vt
end Go.Proofs.Ytlddogigbodilaa
namespace Go.Proofs.Ytlddogigbodilaa
open Go.RowKit
namespace Vt
/-- what opened answers -/
def opR (l : List Nat) (e : Ending) : Prop := (∃ f, Bdy l f ∧ e = .returned (.tuple #[.agg (fv f), .bool true])) ∨ ((∀ f, ¬ Bdy l f) ∧ e = .returned (.tuple #[.agg (fv zf), .bool false]))
theorem PN.setO {w : World} {B : Nat} {l : List Nat} {a : Nat} {bad : Bool} (h : PN w B l a bad) {p : Addr} (hp : B < p.block) (u : Value) : PN (w.setCell p u) B l a bad := by
  obtain ⟨v, h1, h2, h3, h4⟩ := h
  exact ⟨v, h1.other (by omega) u, h2.setO (fun b off n c e => by have := (h3 _ _ _ e).1; simp only at this; omega) u, h3, h4⟩
/-- either way: a number, a place, a flag -/
theorem pnR_any {B : Nat} {l : List Nat} {at_ : Nat} {e : Ending} {w' : World} (h : pnR B l at_ false e w') : ∃ (n a : Nat) (bad : Bool), e = .returned (.int .u64 (n : Int)) ∧ PN w' B l a bad ∧ ((bad = false ∧ (dec (l.drop at_)).2.2 = 0 ∧ n = (dec (l.drop at_)).1 ∧ a = at_ + (dec (l.drop at_)).2.1) ∨ (bad = true ∧ (dec (l.drop at_)).2.2 ≠ 0)) := by
  rcases h with ⟨h0, rfl, hP⟩ | ⟨h0, n, a, hn, rfl, hP⟩
  · exact ⟨_, _, false, rfl, hP, .inl ⟨rfl, h0, rfl, rfl⟩⟩
  · exact ⟨_, _, true, rfl, hP, .inr ⟨rfl, h0⟩⟩
theorem rsN_all (l : List Nat) (a : Nat) : rsN l a (-1) = l.length - a := by unfold rsN; rw [if_pos (.inl (by decide))]
theorem st_below (w : World) (A B C : Obj) : Below w.heap.size w (((w.alloc A).alloc B).alloc C) := (((Below.refl _ w).alloc (Nat.le_refl _) A).alloc (by simp) B).alloc (by simp; omega) C
theorem pn_start (w : World) (A C : Obj) (v : Value) (l : List Nat) (hI : IsB w v l) (hL : Low v w.heap.size) (h1 : 1 ≤ l.length) : PN (((w.alloc A).alloc (.cells #[v, .int .i64 1, .bool false] 147)).alloc C) (w.heap.size + 1) l 1 false := by
  have hb := Blk.new (w.alloc A) 147 [v, .int .i64 1, .bool false]
  rw [World.size_alloc] at hb
  exact ⟨v, hb.alloc _, hI.below (st_below w A _ C), fun a n c e => by have := hL a n c e; exact ⟨by omega, this.2⟩, h1⟩
theorem fr_start (w : World) (A B : Obj) (cs : List Value) : Blk (((w.alloc A).alloc B).alloc (.cells cs.toArray 41)) (w.heap.size + 1 + 1) 41 cs := by
  have hb := Blk.new ((w.alloc A).alloc B) 41 cs
  rw [World.size_alloc, World.size_alloc] at hb
  exact hb
theorem rs_start (w : World) (B C : Obj) (cs : List Value) : Blk (((w.alloc (.cells cs.toArray 41)).alloc B).alloc C) w.heap.size 41 cs := ((Blk.new w 41 cs).alloc _).alloc _
attribute [local go_sem] Oper.semAt_some
set_option maxRecDepth 100000 in
set_option maxHeartbeats 2000000 in
theorem opened_del (b off c : Nat) (s : List Nat) (w : World) (hI : IsB w (.slice (some ⟨b, off, none⟩) (2 :: s).length c) (2 :: s)) (hm : (2 :: s).length ≤ 4194304) :
    Calls Try.prog 75 #[.slice (some ⟨b, off, none⟩) (2 :: s).length c] w fun e w' => opR (2 :: s) e ∧ Below w.heap.size w w' := by
  have hmx : Try.prog.follows .mixedOrders = true := by kernel_rfl
  have r0 := hI.row 0 (by simp)
  rw [Nat.add_zero] at r0
  have r0' : w.cell? ⟨b, off, none⟩ = some (.int .u8 2) := r0
  have hbw : b < w.heap.size := lt_of_cell r0'
  have HI := hd hI
  clear r0 hI
  obtain ⟨L, hL⟩ : ∃ L, L = (2 :: s).length := ⟨_, rfl⟩
  have hL1 : 1 ≤ L := by rw [hL]; simp
  have hL0 : ((L : Int) == 0) = false := by rw [beq_eq_false_iff_ne]; omega
  rw [← hL] at hm HI ⊢
  have HLL := hd hL
  clear hL
  go_enter Try.func75, Try.ntmps75
  go_wp2_with fail
  have HLow : Hid (Low (.slice (some ⟨b, off, none⟩) L c) w.heap.size) := low_some hbw
  have hmL : (2 :: s).length ≤ 4194304 := by rw [← HLL.out]; exact hm
  have h1L : 1 ≤ (2 :: s).length := by simp
  refine Calls.mono (pen_number (w.heap.size + 1) (2 :: s) 1 false _ (pn_start w _ _ _ _ HI.out HLow.out h1L) hmL) ?_
  rintro e w4 ⟨hr, hK⟩
  have hF := (fr_start w _ _ [.int .i64 2, .int .u64 0, .int .i64 2, .string ⟨#[]⟩, .string ⟨#[]⟩, .int .u64 0, .int .i64 0, .int .i64 0, .int .i64 0, .string ⟨#[]⟩, .int .i64 0, .int .i64 0, .int .i64 0, .int .u32 0]).keepO (by omega) hK
  have hR := (rs_start w _ _ [.int .i64 0, .int .u64 0, .int .i64 0, .string ⟨#[]⟩, .string ⟨#[]⟩, .int .u64 0, .int .i64 0, .int .i64 0, .int .i64 0, .string ⟨#[]⟩, .int .i64 0, .int .i64 0, .int .i64 0, .int .u32 0]).keepO (by omega) hK
  have hBw := (st_below w _ _ _).trans (hK.below (by omega) (st_below w _ _ _).size)
  obtain ⟨N, hN⟩ : ∃ N, N = w.heap.size := ⟨_, rfl⟩
  rw [← hN] at hr hF hR hBw ⊢
  have HN := hd hN
  have HBW := hd hBw
  have HF := hd hF
  have HR := hd hR
  clear hK hN hBw hF hR
  obtain ⟨n, a, bad, rfl, hP, hcase⟩ := pnR_any hr
  have HCS := hd hcase
  have HP := hd hP
  have f1 := HF.out.frozen 1
  have g1 := HF.out.cell 1 _ rfl
  clear hr hcase hP
  go_wp2_with fail
  refine Calls.mono (pen_rest (N + 1) (2 :: s) a bad (-1) _ (HP.out.setO (p := ⟨N + 1 + 1, 1, none⟩) (by show N + 1 < N + 1 + 1; omega) _) hmL) ?_
  rintro e w5 ⟨rfl, hP5, hK5⟩
  rw [rsN_all] at hP5 ⊢
  have hF5 := (HF.out.set (j := 1) (.int .u64 (n : Int))).keepO (by omega) hK5
  have hR5 := (HR.out.other (p := ⟨N + 1 + 1, 1, none⟩) (by show N + 1 + 1 ≠ N; omega) (.int .u64 (n : Int))).keepO (by omega) hK5
  have hB5 : Below N w w5 := (HBW.out.setCell (p := ⟨N + 1 + 1, 1, none⟩) (by show N ≤ N + 1 + 1; omega) (.int .u64 (n : Int))).trans (hK5.below (by omega) (by have := HR.out.lt; simp [World.setCell]; omega))
  obtain ⟨key, hkey⟩ : ∃ key, key = str (((2 :: s).drop a).take ((2 :: s).length - a)) := ⟨_, rfl⟩
  rw [← hkey]
  have HKEY := hd hkey
  obtain ⟨A, hA⟩ : ∃ A, A = a + ((2 :: s).length - a) := ⟨_, rfl⟩
  rw [← hA] at hP5
  have HA := hd hA
  have HP5 := hd hP5
  have HF5 := hd hF5
  have HR5 := hd hR5
  have HB5 := hd hB5
  have f3 := hF5.frozen 3
  have g3 := hF5.cell 3 _ rfl
  obtain ⟨v5, hBk, _⟩ := hP5
  have c1 := hBk.cell 1 _ rfl
  have c2 := hBk.cell 2 _ rfl
  have m0 := hF5.cell 0 _ rfl
  have m1 := hF5.cell 1 _ rfl
  have m2 := hF5.cell 2 _ rfl
  have m4 := hF5.cell 4 _ rfl
  have m5 := hF5.cell 5 _ rfl
  have m6 := hF5.cell 6 _ rfl
  have m7 := hF5.cell 7 _ rfl
  have m8 := hF5.cell 8 _ rfl
  have m9 := hF5.cell 9 _ rfl
  have m10 := hF5.cell 10 _ rfl
  have m11 := hF5.cell 11 _ rfl
  have m12 := hF5.cell 12 _ rfl
  have m13 := hF5.cell 13 _ rfl
  clear hkey hA hF5 hR5 hB5 hK5 HP HF HR HBW f1 g1 hBk
  have nb1 : ¬ N + 1 = N + 1 + 1 := by omega
  have nb2 : ¬ N + 1 + 1 = N + 1 := by omega
  have hRx := HR5.out.other (p := ⟨N + 1 + 1, 3, none⟩) (by show N + 1 + 1 ≠ N; omega) (.string key)
  have y0 := HR5.out.cell 0 _ rfl
  have yz0 := HR5.out.frozen 0
  have y1 := HR5.out.cell 1 _ rfl
  have yz1 := HR5.out.frozen 1
  have y2 := HR5.out.cell 2 _ rfl
  have yz2 := HR5.out.frozen 2
  have y3 := HR5.out.cell 3 _ rfl
  have yz3 := HR5.out.frozen 3
  have y4 := HR5.out.cell 4 _ rfl
  have yz4 := HR5.out.frozen 4
  have y5 := HR5.out.cell 5 _ rfl
  have yz5 := HR5.out.frozen 5
  have y6 := HR5.out.cell 6 _ rfl
  have yz6 := HR5.out.frozen 6
  have y7 := HR5.out.cell 7 _ rfl
  have yz7 := HR5.out.frozen 7
  have y8 := HR5.out.cell 8 _ rfl
  have yz8 := HR5.out.frozen 8
  have y9 := HR5.out.cell 9 _ rfl
  have yz9 := HR5.out.frozen 9
  have y10 := HR5.out.cell 10 _ rfl
  have yz10 := HR5.out.frozen 10
  have y11 := HR5.out.cell 11 _ rfl
  have yz11 := HR5.out.frozen 11
  have y12 := HR5.out.cell 12 _ rfl
  have yz12 := HR5.out.frozen 12
  have y13 := HR5.out.cell 13 _ rfl
  have yz13 := HR5.out.frozen 13
  have nb3 : ¬ N = N + 1 + 1 := by omega
  have nb4 : ¬ N + 1 + 1 = N := by omega
  have HRX := hd hRx
  have HBX : Hid (Below N w (w5.setCell ⟨N + 1 + 1, 3, none⟩ (.string key))) := HB5.out.setCell (p := ⟨N + 1 + 1, 3, none⟩) (by show N ≤ N + 1 + 1; omega) _
  clear hRx
  cases bad with
  | true =>
    have HNO : Hid (∀ f, ¬ Bdy (2 :: s) f) := by
      rcases HCS.out with ⟨h, _⟩ | ⟨_, h0⟩
      · cases h
      · intro f hf
        rcases hf.kind with ⟨_, e, _⟩ | ⟨_, e, _, hl⟩ | ⟨_, e, _⟩ | ⟨_, e, _⟩
        · injection e with e; cases e
        · injection e with _ e
          exact h0 (dec_front hl e).1
        · injection e with e; cases e
        · injection e with e; cases e
    go_wp2_with fail
    refine bodyPost_ret (results_cell2 rfl _ _ N 41 #[.int .i64 0, .int .u64 0, .int .i64 0, .string ⟨#[]⟩, .string ⟨#[]⟩, .int .u64 0, .int .i64 0, .int .i64 0, .int .i64 0, .string ⟨#[]⟩, .int .i64 0, .int .i64 0, .int .i64 0, .int .u32 0] (0, 0) _ rfl (setL_blk [.int .i64 0, .int .u64 0, .int .i64 0, .string ⟨#[]⟩, .string ⟨#[]⟩, .int .u64 0, .int .i64 0, .int .i64 0, .int .i64 0, .string ⟨#[]⟩, .int .i64 0, .int .i64 0, .int .i64 0, .int .u32 0] _ 0 [] [.int .i64 0, .int .u64 0, .int .i64 0, .string ⟨#[]⟩, .string ⟨#[]⟩, .int .u64 0, .int .i64 0, .int .i64 0, .int .i64 0, .string ⟨#[]⟩, .int .i64 0, .int .i64 0, .int .i64 0, .int .u32 0] rfl rfl HRX.out) Try.underlying41 rfl (by kernel_rfl)) rfl ?_
    refine ⟨.inr ⟨HNO.out, rfl⟩, ?_⟩
    have hNN := HN.out
    exact (setL_keepO (B := N) (O := N) [.int .i64 0, .int .u64 0, .int .i64 0, .string ⟨#[]⟩, .string ⟨#[]⟩, .int .u64 0, .int .i64 0, .int .i64 0, .int .i64 0, .string ⟨#[]⟩, .int .i64 0, .int .i64 0, .int .i64 0, .int .u32 0] _ w 0 (by omega) (KeepO.of_below (hNN ▸ HBX.out))).below (by omega) (Nat.le_refl _)
  | false =>
    have hAL : ¬ (A : Int) < (L : Int) := by have := HA.out; have := HLL.out; omega
    obtain ⟨hd0, hnE, haE⟩ : (dec s).2.2 = 0 ∧ n = (dec s).1 ∧ a = 1 + (dec s).2.1 := by
      rcases HCS.out with ⟨_, h⟩ | ⟨h, _⟩
      · exact h
      · cases h
    have hbs : Byt s := fun x hx => HI.out.1 x (List.mem_cons_of_mem _ hx)
    obtain ⟨d1, d2, d3⟩ := dec_split hbs hd0
    have hkE : key = str (s.drop (dec s).2.1) := by
      rw [HKEY.out, haE, show 1 + (dec s).2.1 = (dec s).2.1 + 1 by omega, List.drop_succ_cons, List.length_cons, List.take_of_length_le (by rw [List.length_drop]; omega)]
    have HYES : Hid (rf (ofR ⟨n, 2, key, ByteArray.empty⟩) = 0 → Bdy (2 :: s) (ofR ⟨n, 2, key, ByteArray.empty⟩)) := fun hr => by
      rw [hnE, hkE] at hr ⊢
      exact del_bdy (byt_drop hbs _) d1 d2 hr
    have HNO : Hid (rf (ofR ⟨n, 2, key, ByteArray.empty⟩) ≠ 0 → ∀ f, ¬ Bdy (2 :: s) f) := fun hr f hf => by
      have h0 := hf.1
      rcases hf.kind with ⟨_, e, _⟩ | ⟨_, e, ef, hl⟩ | ⟨_, e, _⟩ | ⟨_, e, _⟩
      · injection e with e; cases e
      · injection e with _ e
        obtain ⟨_, q2, q3⟩ := dec_front hl e
        apply hr
        rw [hnE, hkE, q2, q3, str_bl]
        rw [ef] at h0
        exact h0
      · injection e with e; cases e
      · injection e with e; cases e
    have HMAY := hd (r4_may ⟨n, 2, key, ByteArray.empty⟩)
    simp only [fv, ofR, zp, ze] at HMAY
    clear hd0 hnE haE hbs d1 d2 d3 hkE
    go_wp2_with fail
    refine Calls.mono (HMAY.out _) ?_
    rintro e w6 ⟨rfl, hb6⟩
    have hF6 := (HF5.out.set (j := 3) (.string key)).keep hb6
    have hR6 := HRX.out.keep hb6
    have HB6 := hd (HBX.out.trans (hb6.mono (by have := HBX.out.size; have := HN.out; omega)))
    have HR6 := hd hR6
    have u0 := hF6.cell 0 _ rfl
    have u1 := hF6.cell 1 _ rfl
    have u2 := hF6.cell 2 _ rfl
    have u3 := hF6.cell 3 _ rfl
    have u4 := hF6.cell 4 _ rfl
    have u5 := hF6.cell 5 _ rfl
    have u6 := hF6.cell 6 _ rfl
    have u7 := hF6.cell 7 _ rfl
    have u8 := hF6.cell 8 _ rfl
    have u9 := hF6.cell 9 _ rfl
    have u10 := hF6.cell 10 _ rfl
    have u11 := hF6.cell 11 _ rfl
    have u12 := hF6.cell 12 _ rfl
    have u13 := hF6.cell 13 _ rfl
    have v0 := hR6.cell 0 _ rfl
    have vz0 := hR6.frozen 0
    have v1 := hR6.cell 1 _ rfl
    have vz1 := hR6.frozen 1
    have v2 := hR6.cell 2 _ rfl
    have vz2 := hR6.frozen 2
    have v3 := hR6.cell 3 _ rfl
    have vz3 := hR6.frozen 3
    have v4 := hR6.cell 4 _ rfl
    have vz4 := hR6.frozen 4
    have v5 := hR6.cell 5 _ rfl
    have vz5 := hR6.frozen 5
    have v6 := hR6.cell 6 _ rfl
    have vz6 := hR6.frozen 6
    have v7 := hR6.cell 7 _ rfl
    have vz7 := hR6.frozen 7
    have v8 := hR6.cell 8 _ rfl
    have vz8 := hR6.frozen 8
    have v9 := hR6.cell 9 _ rfl
    have vz9 := hR6.frozen 9
    have v10 := hR6.cell 10 _ rfl
    have vz10 := hR6.frozen 10
    have v11 := hR6.cell 11 _ rfl
    have vz11 := hR6.frozen 11
    have v12 := hR6.cell 12 _ rfl
    have vz12 := hR6.frozen 12
    have v13 := hR6.cell 13 _ rfl
    have vz13 := hR6.frozen 13
    clear hF6 hR6 hb6 HMAY
    by_cases hrf : rf (ofR ⟨n, 2, key, ByteArray.empty⟩) = 0
    · have HY := hd (HYES.out hrf)
      have hrf' : rf ⟨2, ⟨n, 2, key, ByteArray.empty⟩, ⟨0, 0, 0, 0, ByteArray.empty⟩, ⟨0, 0, 0, 0⟩⟩ = 0 := hrf
      rw [hrf']
      clear hrf hrf'
      go_wp2_with fail
      refine bodyPost_ret (results_cell2 rfl _ _ N 41 #[.int .i64 2, .int .u64 (n : Int), .int .i64 2, .string key, .string ⟨#[]⟩, .int .u64 0, .int .i64 0, .int .i64 0, .int .i64 0, .string ⟨#[]⟩, .int .i64 0, .int .i64 0, .int .i64 0, .int .u32 0] (0, 0) _ rfl (setL_blk [.int .i64 2, .int .u64 (n : Int), .int .i64 2, .string key, .string ⟨#[]⟩, .int .u64 0, .int .i64 0, .int .i64 0, .int .i64 0, .string ⟨#[]⟩, .int .i64 0, .int .i64 0, .int .i64 0, .int .u32 0] _ 0 [] [.int .i64 0, .int .u64 0, .int .i64 0, .string ⟨#[]⟩, .string ⟨#[]⟩, .int .u64 0, .int .i64 0, .int .i64 0, .int .i64 0, .string ⟨#[]⟩, .int .i64 0, .int .i64 0, .int .i64 0, .int .u32 0] rfl rfl HR6.out) Try.underlying41 rfl (by kernel_rfl)) rfl ?_
      refine ⟨.inl ⟨_, HY.out, rfl⟩, ?_⟩
      have hNN := HN.out
      exact (setL_keepO (B := N) (O := N) [.int .i64 2, .int .u64 (n : Int), .int .i64 2, .string key, .string ⟨#[]⟩, .int .u64 0, .int .i64 0, .int .i64 0, .int .i64 0, .string ⟨#[]⟩, .int .i64 0, .int .i64 0, .int .i64 0, .int .u32 0] _ w 0 (by omega) (KeepO.of_below (hNN ▸ HB6.out))).below (by omega) (Nat.le_refl _)
    · have HY := hd (HNO.out hrf)
      have hne : (((rf ⟨2, ⟨n, 2, key, ByteArray.empty⟩, ⟨0, 0, 0, 0, ByteArray.empty⟩, ⟨0, 0, 0, 0⟩⟩ : Nat) : Int) != 0) = true := by rw [bne_iff_ne]; intro q; exact hrf (by exact_mod_cast q)
      generalize rf ⟨2, ⟨n, 2, key, ByteArray.empty⟩, ⟨0, 0, 0, 0, ByteArray.empty⟩, ⟨0, 0, 0, 0⟩⟩ = er at *
      clear hrf
      go_wp2_with fail
      refine bodyPost_ret (results_cell2 rfl _ _ N 41 #[.int .i64 0, .int .u64 0, .int .i64 0, .string ⟨#[]⟩, .string ⟨#[]⟩, .int .u64 0, .int .i64 0, .int .i64 0, .int .i64 0, .string ⟨#[]⟩, .int .i64 0, .int .i64 0, .int .i64 0, .int .u32 0] (0, 0) _ rfl (setL_blk [.int .i64 0, .int .u64 0, .int .i64 0, .string ⟨#[]⟩, .string ⟨#[]⟩, .int .u64 0, .int .i64 0, .int .i64 0, .int .i64 0, .string ⟨#[]⟩, .int .i64 0, .int .i64 0, .int .i64 0, .int .u32 0] _ 0 [] [.int .i64 0, .int .u64 0, .int .i64 0, .string ⟨#[]⟩, .string ⟨#[]⟩, .int .u64 0, .int .i64 0, .int .i64 0, .int .i64 0, .string ⟨#[]⟩, .int .i64 0, .int .i64 0, .int .i64 0, .int .u32 0] rfl rfl HR6.out) Try.underlying41 rfl (by kernel_rfl)) rfl ?_
      refine ⟨.inr ⟨HY.out, rfl⟩, ?_⟩
      have hNN := HN.out
      exact (setL_keepO (B := N) (O := N) [.int .i64 0, .int .u64 0, .int .i64 0, .string ⟨#[]⟩, .string ⟨#[]⟩, .int .u64 0, .int .i64 0, .int .i64 0, .int .i64 0, .string ⟨#[]⟩, .int .i64 0, .int .i64 0, .int .i64 0, .int .u32 0] _ w 0 (by omega) (KeepO.of_below (hNN ▸ HB6.out))).below (by omega) (Nat.le_refl _)
end Vt
end Go.Proofs.Ytlddogigbodilaa
namespace Go.Proofs.Ytlddogigbodilaa
open Go.RowKit
namespace Vt
theorem psR_any {B : Nat} {l : List Nat} {at_ : Nat} {bad : Bool} {e : Ending} {w' : World} (h : psR B l at_ bad e w') : ∃ (n a : Nat) (bad' : Bool), e = .returned (.int .i64 (n : Int)) ∧ PN w' B l a bad' ∧ n ≤ 4294967295 ∧ ((bad' = bad ∧ ((dec (l.drop at_)).2.2 = 0 ∧ (dec (l.drop at_)).1 ≤ 4294967295) ∧ n = (dec (l.drop at_)).1 ∧ a = at_ + (dec (l.drop at_)).2.1) ∨ (bad' = true ∧ ¬ ((dec (l.drop at_)).2.2 = 0 ∧ (dec (l.drop at_)).1 ≤ 4294967295))) := by
  rcases h with ⟨h0, rfl, hP⟩ | ⟨h0, n, a, hn, rfl, hP⟩
  · exact ⟨_, _, bad, rfl, hP, h0.2, .inl ⟨rfl, h0, rfl, rfl⟩⟩
  · exact ⟨_, _, true, rfl, hP, hn, .inr ⟨rfl, h0⟩⟩
theorem put_facts {s : List Nat} {f : Fr} (hf : Bdy (1 :: s) f) : (dec s).2.2 = 0 ∧ (dec s).1 = f.r.lsn ∧ (dec (s.drop (dec s).2.1)).2.2 = 0 ∧ (dec (s.drop (dec s).2.1)).1 = f.r.key.size ∧ (dec (s.drop (dec s).2.1)).1 ≤ 64 ∧ (s.drop (dec s).2.1).drop (dec (s.drop (dec s).2.1)).2.1 = bl f.r.key ++ bl f.r.val ∧ f = ⟨1, ⟨f.r.lsn, 1, f.r.key, f.r.val⟩, zp, ze⟩ := by
  rcases hf.kind with ⟨_, e, ef, hl, hk⟩ | ⟨_, e, _⟩ | ⟨_, e, _⟩ | ⟨_, e, _⟩
  · injection e with _ e
    obtain ⟨q1, q2, q3⟩ := dec_front hl e
    obtain ⟨q4, q5, q6⟩ := dec_front (n := f.r.key.size) (by omega) q3
    exact ⟨q1, q2, q4, q5, by omega, q6, ef⟩
  · injection e with e; cases e
  · injection e with e; cases e
  · injection e with e; cases e
attribute [local go_sem] Oper.semAt_some
set_option maxRecDepth 100000 in
set_option maxHeartbeats 2000000 in
theorem opened_put (b off c : Nat) (s : List Nat) (w : World) (hI : IsB w (.slice (some ⟨b, off, none⟩) (1 :: s).length c) (1 :: s)) (hm : (1 :: s).length ≤ 4194304) :
    Calls Try.prog 75 #[.slice (some ⟨b, off, none⟩) (1 :: s).length c] w fun e w' => opR (1 :: s) e ∧ Below w.heap.size w w' := by
  have hmx : Try.prog.follows .mixedOrders = true := by kernel_rfl
  have r0 := hI.row 0 (by simp)
  rw [Nat.add_zero] at r0
  have r0' : w.cell? ⟨b, off, none⟩ = some (.int .u8 1) := r0
  have hbw : b < w.heap.size := lt_of_cell r0'
  have HI := hd hI
  clear r0 hI
  obtain ⟨L, hL⟩ : ∃ L, L = (1 :: s).length := ⟨_, rfl⟩
  have hL1 : 1 ≤ L := by rw [hL]; simp
  have hL0 : ((L : Int) == 0) = false := by rw [beq_eq_false_iff_ne]; omega
  rw [← hL] at hm HI ⊢
  have HLL := hd hL
  clear hL
  go_enter Try.func75, Try.ntmps75
  go_wp2_with fail
  have HLow : Hid (Low (.slice (some ⟨b, off, none⟩) L c) w.heap.size) := low_some hbw
  have hmL : (1 :: s).length ≤ 4194304 := by rw [← HLL.out]; exact hm
  have h1L : 1 ≤ (1 :: s).length := by simp
  refine Calls.mono (pen_number (w.heap.size + 1) (1 :: s) 1 false _ (pn_start w _ _ _ _ HI.out HLow.out h1L) hmL) ?_
  rintro e w4 ⟨hr, hK⟩
  have hF := (fr_start w _ _ [.int .i64 1, .int .u64 0, .int .i64 1, .string ⟨#[]⟩, .string ⟨#[]⟩, .int .u64 0, .int .i64 0, .int .i64 0, .int .i64 0, .string ⟨#[]⟩, .int .i64 0, .int .i64 0, .int .i64 0, .int .u32 0]).keepO (by omega) hK
  have hR := (rs_start w _ _ [.int .i64 0, .int .u64 0, .int .i64 0, .string ⟨#[]⟩, .string ⟨#[]⟩, .int .u64 0, .int .i64 0, .int .i64 0, .int .i64 0, .string ⟨#[]⟩, .int .i64 0, .int .i64 0, .int .i64 0, .int .u32 0]).keepO (by omega) hK
  have hBw := (st_below w _ _ _).trans (hK.below (by omega) (st_below w _ _ _).size)
  obtain ⟨N, hN⟩ : ∃ N, N = w.heap.size := ⟨_, rfl⟩
  rw [← hN] at hr hF hR hBw ⊢
  have HN := hd hN
  have HBW := hd hBw
  have HF := hd hF
  have HR := hd hR
  clear hK hN hBw hF hR
  obtain ⟨n, a, bad, rfl, hP, hcase⟩ := pnR_any hr
  have HCS := hd hcase
  have HP := hd hP
  have f1 := HF.out.frozen 1
  have g1 := HF.out.cell 1 _ rfl
  clear hr hcase hP
  go_wp2_with fail
  refine Calls.mono (pen_small (N + 1) (1 :: s) a bad _ (HP.out.setO (p := ⟨N + 1 + 1, 1, none⟩) (by show N + 1 < N + 1 + 1; omega) _) hmL) ?_
  rintro e w5 ⟨hr5, hK5⟩
  obtain ⟨n2, a2, bad2, rfl, hP5, hn2, hcase2⟩ := psR_any hr5
  have HCS2 := hd hcase2
  have hF5 := (HF.out.set (j := 1) (.int .u64 (n : Int))).keepO (by omega) hK5
  have hR5 := (HR.out.other (p := ⟨N + 1 + 1, 1, none⟩) (by show N + 1 + 1 ≠ N; omega) (.int .u64 (n : Int))).keepO (by omega) hK5
  have hB5 : Below N w w5 := (HBW.out.setCell (p := ⟨N + 1 + 1, 1, none⟩) (by show N ≤ N + 1 + 1; omega) (.int .u64 (n : Int))).trans (hK5.below (by omega) (by have := HR.out.lt; simp [World.setCell]; omega))
  have HP5 := hd hP5
  have HF5 := hd hF5
  have HR5 := hd hR5
  have HB5 := hd hB5
  have hale : a2 ≤ (1 :: s).length := by obtain ⟨_, _, _, _, h⟩ := hP5; exact h
  obtain ⟨v5, hBk, _⟩ := hP5
  have c1 := hBk.cell 1 _ rfl
  have c2 := hBk.cell 2 _ rfl
  have y0 := hR5.cell 0 _ rfl
  have yz0 := hR5.frozen 0
  have y1 := hR5.cell 1 _ rfl
  have yz1 := hR5.frozen 1
  have y2 := hR5.cell 2 _ rfl
  have yz2 := hR5.frozen 2
  have y3 := hR5.cell 3 _ rfl
  have yz3 := hR5.frozen 3
  have y4 := hR5.cell 4 _ rfl
  have yz4 := hR5.frozen 4
  have y5 := hR5.cell 5 _ rfl
  have yz5 := hR5.frozen 5
  have y6 := hR5.cell 6 _ rfl
  have yz6 := hR5.frozen 6
  have y7 := hR5.cell 7 _ rfl
  have yz7 := hR5.frozen 7
  have y8 := hR5.cell 8 _ rfl
  have yz8 := hR5.frozen 8
  have y9 := hR5.cell 9 _ rfl
  have yz9 := hR5.frozen 9
  have y10 := hR5.cell 10 _ rfl
  have yz10 := hR5.frozen 10
  have y11 := hR5.cell 11 _ rfl
  have yz11 := hR5.frozen 11
  have y12 := hR5.cell 12 _ rfl
  have yz12 := hR5.frozen 12
  have y13 := hR5.cell 13 _ rfl
  have yz13 := hR5.frozen 13
  clear hF5 hR5 hB5 hK5 HP HF HR HBW f1 g1 hBk hr5 hcase2
  have nb1 : ¬ N + 1 = N + 1 + 1 := by omega
  have nb2 : ¬ N + 1 + 1 = N + 1 := by omega
  have nb3 : ¬ N = N + 1 + 1 := by omega
  have nb4 : ¬ N + 1 + 1 = N := by omega
  have hLa : a2 ≤ L := by rw [HLL.out]; exact hale
  have hls : ((L : Int) - (a2 : Int)) = ((L - a2 : Nat) : Int) := by omega
  cases bad2 with
  | true =>
    have HNO : Hid (∀ f, ¬ Bdy (1 :: s) f) := fun f hf => by
      obtain ⟨q1, q2, q3, q4, q5, q6, q7⟩ := put_facts hf
      rcases HCS2.out with ⟨h1, h2, h3, h4⟩ | ⟨_, h0⟩
      · rcases HCS.out with ⟨h5, _⟩ | ⟨_, h5⟩
        · rw [h5] at h1; cases h1
        · exact h5 q1
      · rcases HCS.out with ⟨_, _, _, h8⟩ | ⟨_, h5⟩
        · rw [h8] at h0
          apply h0
          have e : (1 :: s).drop (1 + (dec ((1 :: s).drop 1)).2.1) = s.drop (dec s).2.1 := by rw [Nat.add_comm]; rfl
          rw [e]
          exact ⟨q3, by omega⟩
        · exact h5 q1
    clear hls
    go_wp2_with fail
    refine bodyPost_ret (results_cell2 rfl _ _ N 41 #[.int .i64 0, .int .u64 0, .int .i64 0, .string ⟨#[]⟩, .string ⟨#[]⟩, .int .u64 0, .int .i64 0, .int .i64 0, .int .i64 0, .string ⟨#[]⟩, .int .i64 0, .int .i64 0, .int .i64 0, .int .u32 0] (0, 0) _ rfl (setL_blk [.int .i64 0, .int .u64 0, .int .i64 0, .string ⟨#[]⟩, .string ⟨#[]⟩, .int .u64 0, .int .i64 0, .int .i64 0, .int .i64 0, .string ⟨#[]⟩, .int .i64 0, .int .i64 0, .int .i64 0, .int .u32 0] _ 0 [] [.int .i64 0, .int .u64 0, .int .i64 0, .string ⟨#[]⟩, .string ⟨#[]⟩, .int .u64 0, .int .i64 0, .int .i64 0, .int .i64 0, .string ⟨#[]⟩, .int .i64 0, .int .i64 0, .int .i64 0, .int .u32 0] rfl rfl HR5.out) Try.underlying41 rfl (by kernel_rfl)) rfl ?_
    refine ⟨.inr ⟨HNO.out, rfl⟩, ?_⟩
    have hNN := HN.out
    exact (setL_keepO (B := N) (O := N) [.int .i64 0, .int .u64 0, .int .i64 0, .string ⟨#[]⟩, .string ⟨#[]⟩, .int .u64 0, .int .i64 0, .int .i64 0, .int .i64 0, .string ⟨#[]⟩, .int .i64 0, .int .i64 0, .int .i64 0, .int .u32 0] _ w 0 (by omega) (KeepO.of_below (hNN ▸ HB5.out))).below (by omega) (Nat.le_refl _)
  | false =>
    obtain ⟨hd0, hnE, haE, hd1, hd2, hn2E, ha2E⟩ : (dec s).2.2 = 0 ∧ n = (dec s).1 ∧ a = 1 + (dec s).2.1 ∧ (dec (s.drop (dec s).2.1)).2.2 = 0 ∧ (dec (s.drop (dec s).2.1)).1 ≤ 4294967295 ∧ n2 = (dec (s.drop (dec s).2.1)).1 ∧ a2 = 1 + (dec s).2.1 + (dec (s.drop (dec s).2.1)).2.1 := by
      rcases HCS2.out with ⟨h1, h2, h3, h4⟩ | ⟨h, _⟩
      · rcases HCS.out with ⟨h5, h6, h7, h8⟩ | ⟨h5, _⟩
        · have e : (1 :: s).drop (1 + (dec ((1 :: s).drop 1)).2.1) = s.drop (dec s).2.1 := by rw [Nat.add_comm]; rfl
          rw [h8, e] at h2 h3 h4
          exact ⟨h6, h7, h8, h2.1, h2.2, h3, h4⟩
        · rw [h5] at h1; cases h1
      · cases h
    have hbs : Byt s := fun x hx => HI.out.1 x (List.mem_cons_of_mem _ hx)
    obtain ⟨d1, d2, d3⟩ := dec_split hbs hd0
    obtain ⟨d4, _, d6⟩ := dec_split (byt_drop hbs (dec s).2.1) hd1
    obtain ⟨t, ht⟩ : ∃ t, t = (s.drop (dec s).2.1).drop (dec (s.drop (dec s).2.1)).2.1 := ⟨_, rfl⟩
    have htd : (1 :: s).drop a2 = t := by rw [ht, ha2E, List.drop_drop, show 1 + (dec s).2.1 + (dec (s.drop (dec s).2.1)).2.1 = ((dec s).2.1 + (dec (s.drop (dec s).2.1)).2.1) + 1 by omega, List.drop_succ_cons]
    have htl : t.length = L - a2 := by rw [← htd, List.length_drop, HLL.out]
    have htb : Byt t := by rw [ht]; exact byt_drop (byt_drop hbs _) _
    have hse : s = vrt n ++ (vrt n2 ++ t) := by rw [hnE, hn2E, ht, ← d4]; exact d1
    have hPF : ∀ f, Bdy (1 :: s) f → n = f.r.lsn ∧ n2 = f.r.key.size ∧ t = bl f.r.key ++ bl f.r.val ∧ f = ⟨1, ⟨f.r.lsn, 1, f.r.key, f.r.val⟩, zp, ze⟩ := fun f hf => by
      obtain ⟨q1, q2, q3, q4, q5, q6, q7⟩ := put_facts hf
      exact ⟨by rw [hnE]; exact q2, by rw [hn2E]; exact q4, by rw [ht]; exact q6, q7⟩
    have HPF := hd hPF
    have HSE := hd hse
    have HTB := hd htb
    have HTD := hd htd
    have HTL := hd htl
    have hnl : n < 18446744073709551616 := by rw [hnE]; exact d2
    obtain ⟨R, hRr⟩ : ∃ R, R = L - a2 := ⟨_, rfl⟩
    rw [← hRr] at hls
    have HRr := hd hRr
    clear hd0 hnE haE hd1 hd2 hn2E ha2E hbs d1 d2 d3 d4 d6 ht htd htl htb hse hPF hRr
    by_cases hgt : R < n2
    · have hgt' : (n2 : Int) > (R : Int) := by omega
      have HNO : Hid (∀ f, ¬ Bdy (1 :: s) f) := fun f hf => by
        obtain ⟨_, q2, q3, _⟩ := HPF.out f hf
        have := congrArg List.length q3
        rw [List.length_append, bl_len, HTL.out, ← HRr.out] at this
        omega
      go_wp2_with fail
      refine bodyPost_ret (results_cell2 rfl _ _ N 41 #[.int .i64 0, .int .u64 0, .int .i64 0, .string ⟨#[]⟩, .string ⟨#[]⟩, .int .u64 0, .int .i64 0, .int .i64 0, .int .i64 0, .string ⟨#[]⟩, .int .i64 0, .int .i64 0, .int .i64 0, .int .u32 0] (0, 0) _ rfl (setL_blk [.int .i64 0, .int .u64 0, .int .i64 0, .string ⟨#[]⟩, .string ⟨#[]⟩, .int .u64 0, .int .i64 0, .int .i64 0, .int .i64 0, .string ⟨#[]⟩, .int .i64 0, .int .i64 0, .int .i64 0, .int .u32 0] _ 0 [] [.int .i64 0, .int .u64 0, .int .i64 0, .string ⟨#[]⟩, .string ⟨#[]⟩, .int .u64 0, .int .i64 0, .int .i64 0, .int .i64 0, .string ⟨#[]⟩, .int .i64 0, .int .i64 0, .int .i64 0, .int .u32 0] rfl rfl HR5.out) Try.underlying41 rfl (by kernel_rfl)) rfl ?_
      refine ⟨.inr ⟨HNO.out, rfl⟩, ?_⟩
      have hNN := HN.out
      exact (setL_keepO (B := N) (O := N) [.int .i64 0, .int .u64 0, .int .i64 0, .string ⟨#[]⟩, .string ⟨#[]⟩, .int .u64 0, .int .i64 0, .int .i64 0, .int .i64 0, .string ⟨#[]⟩, .int .i64 0, .int .i64 0, .int .i64 0, .int .u32 0] _ w 0 (by omega) (KeepO.of_below (hNN ▸ HB5.out))).below (by omega) (Nat.le_refl _)
    · have hgt' : ¬ (n2 : Int) > (R : Int) := by omega
      have hrs : rsN (1 :: s) a2 (n2 : Int) = n2 := by unfold rsN; rw [if_neg (by have := HRr.out; have := HLL.out; omega), Int.toNat_natCast]
      have HRST := hd (pen_rest (N + 1) (1 :: s) a2 false (n2 : Int) w5 HP5.out hmL)
      rw [hrs, HTD.out] at HRST
      have f3 := HF5.out.frozen 3
      have g3 := HF5.out.cell 3 _ rfl
      clear hrs
      go_wp2_with fail
      refine Calls.mono HRST.out ?_
      rintro e w6 ⟨rfl, hP6, hK6⟩
      obtain ⟨key, hkey⟩ : ∃ key, key = str (t.take n2) := ⟨_, rfl⟩
      rw [← hkey]
      have HKEY := hd hkey
      have hF6 := HF5.out.keepO (by omega) hK6
      have hR6 := HR5.out.keepO (by omega) hK6
      have hB6 : Below N w w6 := HB5.out.trans (hK6.below (by omega) (by have := HR5.out.lt; omega))
      have HP6 := hd hP6
      have HF6 := hd hF6
      have HR6 := hd hR6
      have HB6 := hd hB6
      have f4 := hF6.frozen 3
      have g4 := hF6.cell 3 _ rfl
      clear hkey hP6 hK6 hF6 hR6 hB6 HRST f3 g3 c1 c2 HP5 HF5 HR5 HB5 y0 yz0 y1 yz1 y2 yz2 y3 yz3 y4 yz4 y5 yz5 y6 yz6 y7 yz7 y8 yz8 y9 yz9 y10 yz10 y11 yz11 y12 yz12 y13 yz13
      go_wp2_with fail
      refine Calls.mono (pen_rest (N + 1) (1 :: s) (a2 + n2) false (-1) _ (HP6.out.setO (p := ⟨N + 1 + 1, 3, none⟩) (by show N + 1 < N + 1 + 1; omega) _) hmL) ?_
      rintro e w7 ⟨rfl, hP7, hK7⟩
      rw [rsN_all] at hP7 ⊢
      have hF7 := (HF6.out.set (j := 3) (.string key)).keepO (by omega) hK7
      have hR7 := (HR6.out.other (p := ⟨N + 1 + 1, 3, none⟩) (by show N + 1 + 1 ≠ N; omega) (.string key)).keepO (by omega) hK7
      have hB7 : Below N w w7 := (HB6.out.setCell (p := ⟨N + 1 + 1, 3, none⟩) (by show N ≤ N + 1 + 1; omega) (.string key)).trans (hK7.below (by omega) (by have := HR6.out.lt; simp [World.setCell]; omega))
      obtain ⟨val, hval⟩ : ∃ val, val = str (((1 :: s).drop (a2 + n2)).take ((1 :: s).length - (a2 + n2))) := ⟨_, rfl⟩
      rw [← hval]
      have HVAL : Hid (val = str (t.drop n2)) := hd (by rw [hval, ← List.drop_drop, HTD.out, List.take_of_length_le (by rw [List.length_drop, HTL.out, HLL.out]; omega)])
      obtain ⟨A, hA⟩ : ∃ A, A = a2 + n2 + ((1 :: s).length - (a2 + n2)) := ⟨_, rfl⟩
      rw [← hA] at hP7
      have hAL : ¬ (A : Int) < (L : Int) := by rw [hA, HLL.out]; omega
      have HF7 := hd hF7
      have HRX := hd (hR7.other (p := ⟨N + 1 + 1, 4, none⟩) (by show N + 1 + 1 ≠ N; omega) (.string val))
      have HBX : Hid (Below N w (w7.setCell ⟨N + 1 + 1, 4, none⟩ (.string val))) := hB7.setCell (p := ⟨N + 1 + 1, 4, none⟩) (by show N ≤ N + 1 + 1; omega) _
      have f5 := hF7.frozen 4
      have g5 := hF7.cell 4 _ rfl
      obtain ⟨v7, hBk7, _⟩ := hP7
      have c1 := hBk7.cell 1 _ rfl
      have c2 := hBk7.cell 2 _ rfl
      have m0 := hF7.cell 0 _ rfl
      have m1 := hF7.cell 1 _ rfl
      have m2 := hF7.cell 2 _ rfl
      have m3 := hF7.cell 3 _ rfl
      have m5 := hF7.cell 5 _ rfl
      have m6 := hF7.cell 6 _ rfl
      have m7 := hF7.cell 7 _ rfl
      have m8 := hF7.cell 8 _ rfl
      have m9 := hF7.cell 9 _ rfl
      have m10 := hF7.cell 10 _ rfl
      have m11 := hF7.cell 11 _ rfl
      have m12 := hF7.cell 12 _ rfl
      have m13 := hF7.cell 13 _ rfl
      have HYES : Hid (rf (ofR ⟨n, 1, key, val⟩) = 0 → Bdy (1 :: s) (ofR ⟨n, 1, key, val⟩)) := fun hr => by
        rw [HKEY.out, HVAL.out] at hr ⊢
        exact put_bdy HTB.out HSE.out (by rw [HTL.out]; have := HRr.out; omega) hnl hr
      have HNO : Hid (rf (ofR ⟨n, 1, key, val⟩) ≠ 0 → ∀ f, ¬ Bdy (1 :: s) f) := fun hr f hf => by
        obtain ⟨q1, q2, q3, q4⟩ := HPF.out f hf
        have h0 := hf.1
        apply hr
        rw [q4] at h0
        rw [HKEY.out, HVAL.out, q1, q3, q2, ← bl_len, List.take_left, List.drop_left, str_bl, str_bl]
        exact h0
      have HMAY := hd (r4_may ⟨n, 1, key, val⟩)
      simp only [fv, ofR, zp, ze] at HMAY
      clear hval hA hF7 hR7 hB7 hK7 HP6 HF6 HR6 HB6 f4 g4 hBk7
      go_wp2_with fail
      refine Calls.mono (HMAY.out _) ?_
      rintro e w8 ⟨rfl, hb8⟩
      have hF8 := (HF7.out.set (j := 4) (.string val)).keep hb8
      have hR8 := HRX.out.keep hb8
      have HB8 := hd (HBX.out.trans (hb8.mono (by have := HBX.out.size; have := HN.out; omega)))
      have HR8 := hd hR8
      have u0 := hF8.cell 0 _ rfl
      have u1 := hF8.cell 1 _ rfl
      have u2 := hF8.cell 2 _ rfl
      have u3 := hF8.cell 3 _ rfl
      have u4 := hF8.cell 4 _ rfl
      have u5 := hF8.cell 5 _ rfl
      have u6 := hF8.cell 6 _ rfl
      have u7 := hF8.cell 7 _ rfl
      have u8 := hF8.cell 8 _ rfl
      have u9 := hF8.cell 9 _ rfl
      have u10 := hF8.cell 10 _ rfl
      have u11 := hF8.cell 11 _ rfl
      have u12 := hF8.cell 12 _ rfl
      have u13 := hF8.cell 13 _ rfl
      have v0 := hR8.cell 0 _ rfl
      have vz0 := hR8.frozen 0
      have v1 := hR8.cell 1 _ rfl
      have vz1 := hR8.frozen 1
      have v2 := hR8.cell 2 _ rfl
      have vz2 := hR8.frozen 2
      have v3 := hR8.cell 3 _ rfl
      have vz3 := hR8.frozen 3
      have v4 := hR8.cell 4 _ rfl
      have vz4 := hR8.frozen 4
      have v5 := hR8.cell 5 _ rfl
      have vz5 := hR8.frozen 5
      have v6 := hR8.cell 6 _ rfl
      have vz6 := hR8.frozen 6
      have v7 := hR8.cell 7 _ rfl
      have vz7 := hR8.frozen 7
      have v8 := hR8.cell 8 _ rfl
      have vz8 := hR8.frozen 8
      have v9 := hR8.cell 9 _ rfl
      have vz9 := hR8.frozen 9
      have v10 := hR8.cell 10 _ rfl
      have vz10 := hR8.frozen 10
      have v11 := hR8.cell 11 _ rfl
      have vz11 := hR8.frozen 11
      have v12 := hR8.cell 12 _ rfl
      have vz12 := hR8.frozen 12
      have v13 := hR8.cell 13 _ rfl
      have vz13 := hR8.frozen 13
      clear hF8 hR8 hb8 HMAY
      by_cases hrf : rf (ofR ⟨n, 1, key, val⟩) = 0
      · have HY := hd (HYES.out hrf)
        have hrf' : rf ⟨1, ⟨n, 1, key, val⟩, ⟨0, 0, 0, 0, ByteArray.empty⟩, ⟨0, 0, 0, 0⟩⟩ = 0 := hrf
        rw [hrf']
        clear hrf hrf'
        go_wp2_with fail
        refine bodyPost_ret (results_cell2 rfl _ _ N 41 #[.int .i64 1, .int .u64 (n : Int), .int .i64 1, .string key, .string val, .int .u64 0, .int .i64 0, .int .i64 0, .int .i64 0, .string ⟨#[]⟩, .int .i64 0, .int .i64 0, .int .i64 0, .int .u32 0] (0, 0) _ rfl (setL_blk [.int .i64 1, .int .u64 (n : Int), .int .i64 1, .string key, .string val, .int .u64 0, .int .i64 0, .int .i64 0, .int .i64 0, .string ⟨#[]⟩, .int .i64 0, .int .i64 0, .int .i64 0, .int .u32 0] _ 0 [] [.int .i64 0, .int .u64 0, .int .i64 0, .string ⟨#[]⟩, .string ⟨#[]⟩, .int .u64 0, .int .i64 0, .int .i64 0, .int .i64 0, .string ⟨#[]⟩, .int .i64 0, .int .i64 0, .int .i64 0, .int .u32 0] rfl rfl HR8.out) Try.underlying41 rfl (by kernel_rfl)) rfl ?_
        refine ⟨.inl ⟨_, HY.out, rfl⟩, ?_⟩
        have hNN := HN.out
        exact (setL_keepO (B := N) (O := N) [.int .i64 1, .int .u64 (n : Int), .int .i64 1, .string key, .string val, .int .u64 0, .int .i64 0, .int .i64 0, .int .i64 0, .string ⟨#[]⟩, .int .i64 0, .int .i64 0, .int .i64 0, .int .u32 0] _ w 0 (by omega) (KeepO.of_below (hNN ▸ HB8.out))).below (by omega) (Nat.le_refl _)
      · have HY := hd (HNO.out hrf)
        have hne : (((rf ⟨1, ⟨n, 1, key, val⟩, ⟨0, 0, 0, 0, ByteArray.empty⟩, ⟨0, 0, 0, 0⟩⟩ : Nat) : Int) != 0) = true := by rw [bne_iff_ne]; intro q; exact hrf (by exact_mod_cast q)
        generalize rf ⟨1, ⟨n, 1, key, val⟩, ⟨0, 0, 0, 0, ByteArray.empty⟩, ⟨0, 0, 0, 0⟩⟩ = er at *
        clear hrf
        go_wp2_with fail
        refine bodyPost_ret (results_cell2 rfl _ _ N 41 #[.int .i64 0, .int .u64 0, .int .i64 0, .string ⟨#[]⟩, .string ⟨#[]⟩, .int .u64 0, .int .i64 0, .int .i64 0, .int .i64 0, .string ⟨#[]⟩, .int .i64 0, .int .i64 0, .int .i64 0, .int .u32 0] (0, 0) _ rfl (setL_blk [.int .i64 0, .int .u64 0, .int .i64 0, .string ⟨#[]⟩, .string ⟨#[]⟩, .int .u64 0, .int .i64 0, .int .i64 0, .int .i64 0, .string ⟨#[]⟩, .int .i64 0, .int .i64 0, .int .i64 0, .int .u32 0] _ 0 [] [.int .i64 0, .int .u64 0, .int .i64 0, .string ⟨#[]⟩, .string ⟨#[]⟩, .int .u64 0, .int .i64 0, .int .i64 0, .int .i64 0, .string ⟨#[]⟩, .int .i64 0, .int .i64 0, .int .i64 0, .int .u32 0] rfl rfl HR8.out) Try.underlying41 rfl (by kernel_rfl)) rfl ?_
        refine ⟨.inr ⟨HY.out, rfl⟩, ?_⟩
        have hNN := HN.out
        exact (setL_keepO (B := N) (O := N) [.int .i64 0, .int .u64 0, .int .i64 0, .string ⟨#[]⟩, .string ⟨#[]⟩, .int .u64 0, .int .i64 0, .int .i64 0, .int .i64 0, .string ⟨#[]⟩, .int .i64 0, .int .i64 0, .int .i64 0, .int .u32 0] _ w 0 (by omega) (KeepO.of_below (hNN ▸ HB8.out))).below (by omega) (Nat.le_refl _)
end Vt
end Go.Proofs.Ytlddogigbodilaa
