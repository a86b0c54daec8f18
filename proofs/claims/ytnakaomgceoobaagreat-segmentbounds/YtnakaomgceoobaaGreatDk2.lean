/-
  THE WALKS OF isName, (*Disk).bar, (*Disk).find, due.
-/
import Derived.Test.YtnakaomgceoobaaGreatDk1
namespace Go.Proofs.YtnakaomgceoobaaGreat
open Go.RowKit Go.Maps
namespace Dk
open Vt
set_option maxRecDepth 100000 in
theorem isName_is (s : ByteArray) (w : World) : Calls Tryz.prog 26 #[.string s] w fun e w' => e = .returned (.bool (isNm s)) ∧ w' = w := by
  rcases Nat.lt_or_ge s.size 1 with h | h
  · have HN : Hid (isNm s = false) := by show isNm s = false; unfold isNm; simp; omega
    rw [HN.out]
    go_enter Tryz.func26, Tryz.ntmps26
    go_wp2
    go_ret
    exact ⟨rfl, rfl⟩
  · have HN : Hid (isNm s = decide ((s.size : Int) ≤ 60)) := by
      show isNm s = _
      unfold isNm
      rw [decide_eq_true h, Bool.true_and, decide_eq_decide]; omega
    rw [HN.out]
    go_enter Tryz.func26, Tryz.ntmps26
    go_wp2
    go_ret
    exact ⟨rfl, rfl⟩
set_option maxRecDepth 100000 in
theorem bar_is (w : World) (d : Nat) (O : Nat → Prop) (S : Ds) (b : Bool) (h : DK w d O S) : Calls Tryz.prog 66 #[.pointer (some ⟨d, 0, none⟩), .bool b] w fun e w' => e = .returned (.int .i64 (bar S b : Int)) ∧ w' = w := by
  obtain ⟨m, es, h⟩ := h
  have c4 := h.box.cell 4 _ rfl
  clear h
  unfold bar
  cases hd : S.down <;> cases b <;> rw [hd] at c4
  · go_enter Tryz.func66, Tryz.ntmps66
    go_wp2
    go_ret
    exact ⟨rfl, rfl⟩
  · go_enter Tryz.func66, Tryz.ntmps66
    go_wp2
    go_ret
    exact ⟨rfl, rfl⟩
  · go_enter Tryz.func66, Tryz.ntmps66
    go_wp2
    go_ret
    exact ⟨rfl, rfl⟩
  · go_enter Tryz.func66, Tryz.ntmps66
    go_wp2
    go_ret
    exact ⟨rfl, rfl⟩
theorem isNm_len {s : ByteArray} (h : isNm s = true) : s.size ≤ maxLen := by
  unfold isNm at h
  simp at h
  unfold maxLen
  omega
/-- what find answers -/
def fans (es : List En) (S : Ds) (s : ByteArray) (b : Bool) : Value := .tuple #[ptrV (if look S s b = 0 then (fnd es s).map En.blk else none), .int .i64 (look S s b : Int)]
theorem fans_no {es : List En} {S : Ds} {s : ByteArray} {b : Bool} {r : Nat} (h : bar S (isNm s && b) = r) (hr : r ≠ 0) : fans es S s b = .tuple #[.pointer none, .int .i64 (r : Int)] := by
  unfold fans look
  rw [h, if_pos hr, if_neg hr]; rfl
theorem fans_in {es : List En} {S : Ds} {s : ByteArray} {b : Bool} (hf : S.fs = es.map En.fi) (h : bar S (isNm s && b) = 0) : fans es S s b = match fnd es s with | none => .tuple #[.pointer none, .int .i64 71] | some e => .tuple #[.pointer (some ⟨e.blk, 0, none⟩), .int .i64 0] := by
  unfold fans look
  rw [h, hf, fnd_get]
  simp only [ne_eq, not_true_eq_false, if_false]
  cases fnd es s <;> rfl
set_option maxRecDepth 100000 in
theorem find_is (w : World) (d m : Nat) (es : List En) (O : Nat → Prop) (S : Ds) (s : ByteArray) (b : Bool) (h : DKm w d m es O S) : Calls Tryz.prog 42 #[.pointer (some ⟨d, 0, none⟩), .string s, .bool b] w fun e w' => e = .returned (fans es S s b) ∧ w' = w := by
  have H := hd h
  have c2 := h.box.cell 2 _ rfl
  clear h
  obtain ⟨r, hr⟩ : ∃ r, bar S (isNm s && b) = r := ⟨_, rfl⟩
  have HR := hd hr
  have hB := hd (bar_is w d O S (isNm s && b) ⟨m, es, H.out⟩)
  rw [hr] at hB
  clear hr
  have hI := hd (isName_is s w)
  by_cases h0 : r = 0
  · subst h0
    have HF := hd (fans_in H.out.fs HR.out)
    have hs : isNm s = true := by
      have := HR.out
      unfold bar at this
      cases h1 : isNm s
      · rw [h1] at this
        cases hd : S.down <;> rw [hd] at this <;> simp at this
      · rfl
    have hl := H.out.map.look (isNm_len hs)
    rw [hs] at hB hI HR
    simp only [Bool.true_and] at hB
    cases hf : fnd es s with
    | none =>
      rw [hf] at hl HF
      simp only [Option.map_none, ptrV] at hl
      rw [HF.out]
      clear HF hf
      go_enter Tryz.func42, Tryz.ntmps42
      go_wp2_with fail
      refine Calls.mono hI.out ?_
      rintro e w1 ⟨rfl, rfl⟩
      go_wp2_with fail
      refine Calls.mono hB.out ?_
      rintro e w1 ⟨rfl, rfl⟩
      go_wp2_with fail
      go_ret2
      exact ⟨rfl, rfl⟩
    | some e =>
      rw [hf] at hl HF
      simp only [Option.map_some, ptrV] at hl
      rw [HF.out]
      clear HF hf
      go_enter Tryz.func42, Tryz.ntmps42
      go_wp2_with fail
      refine Calls.mono hI.out ?_
      rintro e w1 ⟨rfl, rfl⟩
      go_wp2_with fail
      refine Calls.mono hB.out ?_
      rintro e w1 ⟨rfl, rfl⟩
      go_wp2_with fail
      go_ret2
      exact ⟨rfl, rfl⟩
  · have HF := hd (fans_no (es := es) HR.out h0)
    rw [HF.out]
    have h0' : ¬ ((r : Int) = 0) := by omega
    cases hs : isNm s
    · rw [hs] at hB hI
      simp only [Bool.false_and] at hB
      go_enter Tryz.func42, Tryz.ntmps42
      go_wp2_with fail
      refine Calls.mono hI.out ?_
      rintro e w1 ⟨rfl, rfl⟩
      go_wp2_with fail
      refine Calls.mono hB.out ?_
      rintro e w1 ⟨rfl, rfl⟩
      go_wp2_with fail
      go_ret2
      exact ⟨rfl, rfl⟩
    · rw [hs] at hB hI
      simp only [Bool.true_and] at hB
      go_enter Tryz.func42, Tryz.ntmps42
      go_wp2_with fail
      refine Calls.mono hI.out ?_
      rintro e w1 ⟨rfl, rfl⟩
      go_wp2_with fail
      refine Calls.mono hB.out ?_
      rintro e w1 ⟨rfl, rfl⟩
      go_wp2_with fail
      go_ret2
      exact ⟨rfl, rfl⟩
set_option maxRecDepth 100000 in
theorem due_is (w : World) (d j n : Nat) (hc : w.cell? ⟨d, j, none⟩ = some (.int .i64 (n : Int))) (hf : w.frozen? ⟨d, j, none⟩ = false) (hn : n < 9223372036854775808) : Calls Tryz.prog 67 #[.pointer (some ⟨d, j, none⟩)] w fun e w' => e = .returned (.bool (decide (n = 1))) ∧ w' = if n = 0 then w else w.setCell ⟨d, j, none⟩ (.int .i64 ((n - 1 : Nat) : Int)) := by
  by_cases h0 : n = 0
  · subst h0
    simp only [if_true]
    go_enter Tryz.func67, Tryz.ntmps67
    go_wp2
    go_ret
    exact ⟨rfl, rfl⟩
  · rw [if_neg h0]
    have e1 : ((n : Int) - 1) = ((n - 1 : Nat) : Int) := by omega
    have e2 : decide (n = 1) = decide (((n - 1 : Nat) : Int) = 0) := by rw [decide_eq_decide]; omega
    rw [e2, ← e1]
    clear e1 e2
    go_enter Tryz.func67, Tryz.ntmps67
    go_wp2
    go_ret
    exact ⟨rfl, rfl⟩
end Dk
end Go.Proofs.YtnakaomgceoobaaGreat
