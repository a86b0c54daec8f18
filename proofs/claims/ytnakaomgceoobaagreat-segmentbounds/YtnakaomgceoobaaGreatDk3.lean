/-
  THE WALK OF (*Disk).act.
-/
import Derived.Test.YtnakaomgceoobaaGreatDk2
import Derived.Test.YtnakaomgceoobaaGreatRg
namespace Go.Proofs.YtnakaomgceoobaaGreat
open Go.RowKit Go.Maps
namespace Dk
open Vt
set_option maxRecDepth 100000 in
theorem act_ref (w : World) (d : Value) (r : Nat) (F : Value) (hr : r ≠ 0) : Calls Tryz.prog 43 #[d, .int .i64 (r : Int), F] w fun e w' => e = .returned (.int .i64 (r : Int)) ∧ w' = w := by
  have h0 : ¬ ((r : Int) = 0) := by omega
  go_enter Tryz.func43, Tryz.ntmps43
  go_wp2_with fail
  go_ret
  exact ⟨rfl, rfl⟩
/-- what due leaves -/
def dueW (w : World) (d j n : Nat) : World := if n = 0 then w else w.setCell ⟨d, j, none⟩ (.int .i64 ((n - 1 : Nat) : Int))
theorem dueW_blk {w : World} {d j n : Nat} {T : TypeId} {cs : List Value} (h : Blk w d T cs) (hj : cs[j]? = some (.int .i64 (n : Int))) : Blk (dueW w d j n) d T (cs.set j (.int .i64 ((n - 1 : Nat) : Int))) := by
  unfold dueW
  split
  · rename_i e
    subst e
    have : cs.set j (.int .i64 ((0 - 1 : Nat) : Int)) = cs := by
      obtain ⟨hj1, hj2⟩ := List.getElem?_eq_some_iff.1 hj
      have e2 : Value.int .i64 ((0 - 1 : Nat) : Int) = cs[j] := hj2.symm
      rw [e2, List.set_getElem_self]
    rw [this]
    exact h
  · exact h.set _
theorem dueW_tr (w : World) (d j n : Nat) : Tr (fun b => b = d) w (dueW w d j n) := by
  unfold dueW
  split
  · exact Tr.refl _ _
  · exact Tr.set (p := ⟨d, j, none⟩) (O := fun b => b = d) rfl _
set_option maxRecDepth 100000 in
set_option maxHeartbeats 1000000 in
theorem act_is (w : World) (d m : Nat) (S : Ds) (ff : Nat) (caps : Array Value) (hb : Blk w d TD (cells S m)) (hg : Good S) (ha : S.acts < 4611686018427387904) (hcf : ∀ w, (callFunc ff caps).run Tryz.prog w = .ok (.enter ff caps) w) (Q : Nat → World → Prop)
    (hfail : S.brk ≠ 1 → S.fail = 1 → ∀ w1, Tr (fun b => b = d) w w1 → Blk w1 d TD (cells (tick S) m) → Q 74 w1)
    (hskip : S.brk = 1 → S.done = false → ∀ w1, Tr (fun b => b = d) w w1 → Blk w1 d TD (cells { tick S with down := true } m) → Q 75 w1)
    (hdo : (S.brk = 1 ∧ S.done = true ∨ S.brk ≠ 1 ∧ S.fail ≠ 1) → ∀ w1, Tr (fun b => b = d) w w1 → Blk w1 d TD (cells (tick S) m) → Calls Tryz.prog ff caps w1 fun e w2 => (∃ v, e = .returned v) ∧ (S.brk ≠ 1 → Q 0 w2) ∧ (S.brk = 1 → (∃ v, w2.cell? ⟨d, 4, none⟩ = some v) ∧ w2.frozen? ⟨d, 4, none⟩ = false ∧ Q 75 (w2.setCell ⟨d, 4, none⟩ (.bool true)))) :
    Calls Tryz.prog 43 #[.pointer (some ⟨d, 0, none⟩), .int .i64 0, .func (.func ff) #[] caps] w fun e w' => ∃ r : Nat, e = .returned (.int .i64 (r : Int)) ∧ Q r w' := by
  have hmx : Tryz.prog.follows .mixedOrders = true := by kernel_rfl
  have c3 := hb.cell 3 _ rfl
  have f3 := hb.frozen 3
  have b1 : Blk (w.setCell ⟨d, 3, none⟩ (.int .i64 ((S.acts : Int) + 1))).drew d TD ((cells S m).set 3 (.int .i64 ((S.acts : Int) + 1))) := hb.set _
  obtain ⟨fb, hfb⟩ : ∃ fb, decide (S.fail = 1) = fb := ⟨_, rfl⟩
  obtain ⟨bb, hbb⟩ : ∃ bb, decide (S.brk = 1) = bb := ⟨_, rfl⟩
  obtain ⟨SS, hS0, hS1, hS2⟩ : ∃ SS : Nat → World, SS 0 = (w.setCell ⟨d, 3, none⟩ (.int .i64 ((S.acts : Int) + 1))).drew ∧ SS 1 = dueW (SS 0) d 5 S.fail ∧ SS 2 = dueW (SS 1) d 6 S.brk := ⟨fun s => match s with | 0 => (w.setCell ⟨d, 3, none⟩ (.int .i64 ((S.acts : Int) + 1))).drew | 1 => dueW (w.setCell ⟨d, 3, none⟩ (.int .i64 ((S.acts : Int) + 1))).drew d 5 S.fail | _ => dueW (dueW (w.setCell ⟨d, 3, none⟩ (.int .i64 ((S.acts : Int) + 1))).drew d 5 S.fail) d 6 S.brk, rfl, rfl, rfl⟩
  rw [← hS0] at b1
  have b2 : Blk (SS 1) d TD (((cells S m).set 3 (.int .i64 ((S.acts : Int) + 1))).set 5 (.int .i64 ((S.fail - 1 : Nat) : Int))) := by rw [hS1]; exact dueW_blk b1 rfl
  have b3 : Blk (SS 2) d TD ((((cells S m).set 3 (.int .i64 ((S.acts : Int) + 1))).set 5 (.int .i64 ((S.fail - 1 : Nat) : Int))).set 6 (.int .i64 ((S.brk - 1 : Nat) : Int))) := by rw [hS2]; exact dueW_blk b2 rfl
  have HD1 : Hid (Calls Tryz.prog 67 #[.pointer (some ⟨d, 5, none⟩)] (SS 0) fun e w' => e = .returned (.bool fb) ∧ w' = SS 1) := by
    rw [hS1, ← hfb]; exact due_is (SS 0) d 5 S.fail (b1.cell 5 _ rfl) (b1.frozen 5) hg.fail
  have HD2 : Hid (Calls Tryz.prog 67 #[.pointer (some ⟨d, 6, none⟩)] (SS 1) fun e w' => e = .returned (.bool bb) ∧ w' = SS 2) := by
    rw [hS2, ← hbb]; exact due_is (SS 1) d 6 S.brk (b2.cell 6 _ rfl) (b2.frozen 6) hg.brk
  have ht3 : Tr (fun b => b = d) w (SS 2) := by
    rw [hS2, hS1, hS0]
    exact ((Tr.set (p := ⟨d, 3, none⟩) (O := fun b => b = d) rfl _).trans (Tr.drew (fun b => b = d) _) (fun x q => .inl q)).trans ((dueW_tr _ d 5 S.fail).trans (dueW_tr _ d 6 S.brk) (fun x q => .inl q)) (fun x q => .inl q)
  obtain ⟨w3, hw3⟩ : ∃ w3, SS 2 = w3 := ⟨_, rfl⟩
  have HW3 : Hid (SS [3, 7].length = w3) := hw3
  rw [hw3] at ht3
  have HT3 := hd ht3
  have b3' : Blk w3 d TD (cells (tick S) m) := by rw [← hw3]; exact b3
  have HB3 := hd b3'
  have c4 := b3'.cell 4 _ rfl
  have f4 := b3'.frozen 4
  have c7 := b3'.cell 7 _ rfl
  have HS0 := hd hS0
  have HFb := hd hfb
  have HBb := hd hbb
  have HFA := hd hfail
  have HSK := hd hskip
  have HDO := hd hdo
  clear hS0 hS1 hS2 hw3 ht3 b3' hfb hbb hfail hskip hdo b1 b2 b3 hb
  go_enter Tryz.func43, Tryz.ntmps43
  go_wp2_with fail
  --REGION
  refine region_chain (fun i => match i with
    | 0 => Value.pointer (some ⟨d, 0, none⟩)
    | 1 => Value.pointer (some ⟨d, 0, none⟩)
    | 2 => .pointer (some ⟨d, 5, none⟩)
    | 3 => .bool fb
    | 4 => Value.pointer (some ⟨d, 0, none⟩)
    | 5 => Value.pointer (some ⟨d, 0, none⟩)
    | 6 => .pointer (some ⟨d, 6, none⟩)
    | 7 => .bool bb
    | 8 => .bool fb
    | 9 => .bool bb
    | _ => undef) [3, 7] SS hmx (by kernel_rfl) (by kernel_rfl) (by kernel_rfl) (by kernel_rfl) HS0.out ?_ ?_ (by decide)
  · intro i o ho s a hsr hlo hhi hout haf hun
    have e0 := getq (show a.tmps.getD 0 undef = Value.pointer (some ⟨d, 0, none⟩) from hout 0 (notDst_spec (by kernel_rfl)))
    clear hout
    match i, ho, hlo, hhi, haf, hun with
    | 0, ho, hlo, hhi, haf, hun =>
      obtain rfl := Option.some.inj ho
      obtain rfl : s = 0 := by have := hhi 0 (by decide) (.inr (by kernel_rfl)); simp at hsr; omega
      refine step_c (w' := SS 0) rfl fun K hK => ?_
      simp only [List.getElem_toArray, List.getElem_cons_zero] at hK ⊢
      clear haf hlo hhi hun ho hsr
      go_simp
      exact hK
    | 1, ho, hlo, hhi, haf, hun =>
      obtain rfl := Option.some.inj ho
      have f0 := getq (show a.tmps.getD 19 undef = Value.pointer (some ⟨d, 0, none⟩) from haf ⟨0, .data⟩ (by simp) rfl 19 rfl)
      obtain rfl : s = 0 := by have := hhi 0 (by decide) (.inr (by kernel_rfl)); simp at hsr; omega
      refine step_c (w' := SS 0) rfl fun K hK => ?_
      simp only [List.getElem_toArray, List.getElem_cons_succ, List.getElem_cons_zero] at hK ⊢
      clear haf hlo hhi hun ho hsr
      go_simp
      exact hK
    | 2, ho, hlo, hhi, haf, hun =>
      obtain rfl := Option.some.inj ho
      have f1 := getq (show a.tmps.getD 20 undef = Value.pointer (some ⟨d, 0, none⟩) from haf ⟨1, .data⟩ (by simp) rfl 20 rfl)
      obtain rfl : s = 0 := by have := hhi 0 (by decide) (.inr (by kernel_rfl)); simp at hsr; omega
      refine step_c (w' := SS 0) rfl fun K hK => ?_
      simp only [List.getElem_toArray, List.getElem_cons_succ, List.getElem_cons_zero] at hK ⊢
      clear haf hlo hhi hun ho hsr
      go_simp
      exact hK
    | 3, ho, hlo, hhi, haf, hun =>
      obtain rfl := Option.some.inj ho
      have f2 := getq (show a.tmps.getD 21 undef = .pointer (some ⟨d, 5, none⟩) from haf ⟨2, .data⟩ (by simp) rfl 21 rfl)
      obtain rfl : s = 0 := by have := hhi 0 (by decide) (.inl (by kernel_rfl)); omega
      refine step_c (w' := SS 1) rfl fun K hK => ?_
      simp only [List.getElem_toArray, List.getElem_cons_succ, List.getElem_cons_zero] at hK ⊢
      clear haf hlo hhi hun ho hsr
      go_simp
      refine Calls.mono HD1.out ?_
      rintro e w1 ⟨rfl, rfl⟩
      exact hK
    | 4, ho, hlo, hhi, haf, hun =>
      obtain rfl := Option.some.inj ho
      refine step_c (w' := SS s) rfl fun K hK => ?_
      simp only [List.getElem_toArray, List.getElem_cons_succ, List.getElem_cons_zero] at hK ⊢
      clear haf hlo hhi hun ho hsr
      go_simp
      exact hK
    | 5, ho, hlo, hhi, haf, hun =>
      obtain rfl := Option.some.inj ho
      have f4 := getq (show a.tmps.getD 23 undef = Value.pointer (some ⟨d, 0, none⟩) from haf ⟨4, .data⟩ (by simp) rfl 23 rfl)
      refine step_c (w' := SS s) rfl fun K hK => ?_
      simp only [List.getElem_toArray, List.getElem_cons_succ, List.getElem_cons_zero] at hK ⊢
      clear haf hlo hhi hun ho hsr
      go_simp
      exact hK
    | 6, ho, hlo, hhi, haf, hun =>
      obtain rfl := Option.some.inj ho
      have f5 := getq (show a.tmps.getD 24 undef = Value.pointer (some ⟨d, 0, none⟩) from haf ⟨5, .data⟩ (by simp) rfl 24 rfl)
      refine step_c (w' := SS s) rfl fun K hK => ?_
      simp only [List.getElem_toArray, List.getElem_cons_succ, List.getElem_cons_zero] at hK ⊢
      clear haf hlo hhi hun ho hsr
      go_simp
      exact hK
    | 7, ho, hlo, hhi, haf, hun =>
      obtain rfl := Option.some.inj ho
      have f6 := getq (show a.tmps.getD 25 undef = .pointer (some ⟨d, 6, none⟩) from haf ⟨6, .data⟩ (by simp) rfl 25 rfl)
      obtain rfl : s = 1 := by have := hlo 0 (by decide) (by kernel_rfl); have := hhi 1 (by decide) (.inl (by kernel_rfl)); omega
      refine step_c (w' := SS 2) rfl fun K hK => ?_
      simp only [List.getElem_toArray, List.getElem_cons_succ, List.getElem_cons_zero] at hK ⊢
      clear haf hlo hhi hun ho hsr
      go_simp
      refine Calls.mono HD2.out ?_
      rintro e w1 ⟨rfl, rfl⟩
      exact hK
    | 8, ho, hlo, hhi, haf, hun =>
      obtain rfl := Option.some.inj ho
      have f3 := getq (show a.tmps.getD 22 undef = .bool fb from haf ⟨3, .data⟩ (by simp) rfl 22 rfl)
      obtain rfl : s = 2 := by have := hlo 1 (by decide) (by kernel_rfl); simp at hsr; omega
      refine step_c (w' := SS 2) rfl fun K hK => ?_
      simp only [List.getElem_toArray, List.getElem_cons_succ, List.getElem_cons_zero] at hK ⊢
      clear haf hlo hhi hun ho hsr
      go_simp
      exact hK
    | 9, ho, hlo, hhi, haf, hun =>
      obtain rfl := Option.some.inj ho
      have f7 := getq (show a.tmps.getD 26 undef = .bool bb from haf ⟨7, .data⟩ (by simp) rfl 26 rfl)
      obtain rfl : s = 2 := by have := hlo 1 (by decide) (by kernel_rfl); simp at hsr; omega
      refine step_c (w' := SS 2) rfl fun K hK => ?_
      simp only [List.getElem_toArray, List.getElem_cons_succ, List.getElem_cons_zero] at hK ⊢
      clear haf hlo hhi hun ho hsr
      go_simp
      exact hK
    | n + 10, ho, _, _, _, _ => simp at ho
  · intro aa hdf hsz hout hval
    have hat : aa.tmps = #[Value.pointer (some ⟨d, 0, none⟩), Value.int IntKind.i64 0, .func (.func ff) #[] caps, undef, undef, undef, Value.int IntKind.i64 0, .bool fb, .bool bb, Value.int IntKind.i64 0, Value.bool false, undef, Value.pointer (some ⟨d, 0, none⟩), Value.pointer (some ⟨d, 0, none⟩), Value.pointer (some ⟨d, 3, none⟩), Value.int IntKind.i64 ↑S.acts, Value.int IntKind.i64 (↑S.acts + 1), Value.pointer (some ⟨d, 0, none⟩), Value.pointer (some ⟨d, 3, none⟩), Value.pointer (some ⟨d, 0, none⟩), Value.pointer (some ⟨d, 0, none⟩), .pointer (some ⟨d, 5, none⟩), .bool fb, Value.pointer (some ⟨d, 0, none⟩), Value.pointer (some ⟨d, 0, none⟩), .pointer (some ⟨d, 6, none⟩), .bool bb, undef, undef, undef, undef, undef, undef, undef, undef, undef, undef, undef, undef, undef, undef, undef, undef, undef, undef, undef] := by
      refine arr_one (hsz.trans rfl) fun kk hkk => ?_
      match kk, hkk with
      | 0, _ => exact hout 0 (notDst_spec (by kernel_rfl))
      | 1, _ => exact hout 1 (notDst_spec (by kernel_rfl))
      | 2, _ => exact hout 2 (notDst_spec (by kernel_rfl))
      | 3, _ => exact hout 3 (notDst_spec (by kernel_rfl))
      | 4, _ => exact hout 4 (notDst_spec (by kernel_rfl))
      | 5, _ => exact hout 5 (notDst_spec (by kernel_rfl))
      | 6, _ => exact hout 6 (notDst_spec (by kernel_rfl))
      | 7, _ => exact hval 8 7 (by decide) rfl
      | 8, _ => exact hval 9 8 (by decide) rfl
      | 9, _ => exact hout 9 (notDst_spec (by kernel_rfl))
      | 10, _ => exact hout 10 (notDst_spec (by kernel_rfl))
      | 11, _ => exact hout 11 (notDst_spec (by kernel_rfl))
      | 12, _ => exact hout 12 (notDst_spec (by kernel_rfl))
      | 13, _ => exact hout 13 (notDst_spec (by kernel_rfl))
      | 14, _ => exact hout 14 (notDst_spec (by kernel_rfl))
      | 15, _ => exact hout 15 (notDst_spec (by kernel_rfl))
      | 16, _ => exact hout 16 (notDst_spec (by kernel_rfl))
      | 17, _ => exact hout 17 (notDst_spec (by kernel_rfl))
      | 18, _ => exact hout 18 (notDst_spec (by kernel_rfl))
      | 19, _ => exact hval 0 19 (by decide) rfl
      | 20, _ => exact hval 1 20 (by decide) rfl
      | 21, _ => exact hval 2 21 (by decide) rfl
      | 22, _ => exact hval 3 22 (by decide) rfl
      | 23, _ => exact hval 4 23 (by decide) rfl
      | 24, _ => exact hval 5 24 (by decide) rfl
      | 25, _ => exact hval 6 25 (by decide) rfl
      | 26, _ => exact hval 7 26 (by decide) rfl
      | 27, _ => exact hout 27 (notDst_spec (by kernel_rfl))
      | 28, _ => exact hout 28 (notDst_spec (by kernel_rfl))
      | 29, _ => exact hout 29 (notDst_spec (by kernel_rfl))
      | 30, _ => exact hout 30 (notDst_spec (by kernel_rfl))
      | 31, _ => exact hout 31 (notDst_spec (by kernel_rfl))
      | 32, _ => exact hout 32 (notDst_spec (by kernel_rfl))
      | 33, _ => exact hout 33 (notDst_spec (by kernel_rfl))
      | 34, _ => exact hout 34 (notDst_spec (by kernel_rfl))
      | 35, _ => exact hout 35 (notDst_spec (by kernel_rfl))
      | 36, _ => exact hout 36 (notDst_spec (by kernel_rfl))
      | 37, _ => exact hout 37 (notDst_spec (by kernel_rfl))
      | 38, _ => exact hout 38 (notDst_spec (by kernel_rfl))
      | 39, _ => exact hout 39 (notDst_spec (by kernel_rfl))
      | 40, _ => exact hout 40 (notDst_spec (by kernel_rfl))
      | 41, _ => exact hout 41 (notDst_spec (by kernel_rfl))
      | 42, _ => exact hout 42 (notDst_spec (by kernel_rfl))
      | 43, _ => exact hout 43 (notDst_spec (by kernel_rfl))
      | 44, _ => exact hout 44 (notDst_spec (by kernel_rfl))
      | 45, _ => exact hout 45 (notDst_spec (by kernel_rfl))
      | n + 46, h => exact absurd h (by simp)
    obtain ⟨tt, dd⟩ := aa
    simp only at hat hdf
    subst hat hdf
    clear hsz hout hval
    rw [HW3.out]
    clear HW3 HS0 HD1 HD2 c3 f3
    --TAIL
    cases bb
    · have hB : S.brk ≠ 1 := by simpa using HBb.out
      cases fb
      · have hF : S.fail ≠ 1 := by simpa using HFb.out
        have HC := hd (HDO.out (.inr ⟨hB, hF⟩) w3 HT3.out HB3.out)
        go_wp2_with fail
        refine Calls.mono HC.out ?_
        rintro e w4 ⟨⟨v, rfl⟩, hq, _⟩
        have HQ := hd (hq hB)
        clear hq
        go_wp2_with fail
        go_ret
        exact ⟨0, rfl, HQ.out⟩
      · have hF : S.fail = 1 := by simpa using HFb.out
        have HQ := hd (HFA.out hB hF w3 HT3.out HB3.out)
        go_wp2_with fail
        go_ret
        exact ⟨74, rfl, HQ.out⟩
    · have hB : S.brk = 1 := by simpa using HBb.out
      cases hdn : S.done
      · have HQ := hd (HSK.out hB hdn (w3.setCell ⟨d, 4, none⟩ (.bool true)) (HT3.out.trans (Tr.set (p := ⟨d, 4, none⟩) (O := fun b => b = d) rfl _) fun x q => .inl q) (HB3.out.set _))
        have c7' : w3.cell? ⟨d, 7, none⟩ = some (.bool false) := by rw [c7]; show some (Value.bool S.done) = _; rw [hdn]
        clear c7 hdn
        cases fb
        · go_wp2_with fail
          go_ret
          exact ⟨75, rfl, HQ.out⟩
        · go_wp2_with fail
          go_ret
          exact ⟨75, rfl, HQ.out⟩
      · have HC := hd (HDO.out (.inl ⟨hB, hdn⟩) w3 HT3.out HB3.out)
        have c7' : w3.cell? ⟨d, 7, none⟩ = some (.bool true) := by rw [c7]; show some (Value.bool S.done) = _; rw [hdn]
        clear c7 hdn
        cases fb
        · go_wp2_with fail
          refine Calls.mono HC.out ?_
          rintro e w4 ⟨⟨v, rfl⟩, _, hq⟩
          obtain ⟨⟨v4, d4⟩, g4, hq⟩ := hq hB
          have HQ := hd hq
          clear hq
          go_wp2_with fail
          go_ret
          exact ⟨75, rfl, HQ.out⟩
        · go_wp2_with fail
          refine Calls.mono HC.out ?_
          rintro e w4 ⟨⟨v, rfl⟩, _, hq⟩
          obtain ⟨⟨v4, d4⟩, g4, hq⟩ := hq hB
          have HQ := hd hq
          clear hq
          go_wp2_with fail
          go_ret
          exact ⟨75, rfl, HQ.out⟩
  --END
end Dk
end Go.Proofs.YtnakaomgceoobaaGreat
