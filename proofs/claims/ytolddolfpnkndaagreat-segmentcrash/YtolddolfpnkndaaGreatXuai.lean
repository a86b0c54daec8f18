/-
  A REGION THAT DRAWS ITS ORDER, whose last operation comes behind all others and alone turns the world, in whatever way (a call). No condition beyond those that each theorem bears.
  THE WALKS OF the law's sameBytes and pick; New without a file.
-/
import Derived.Test.YtolddolfpnkndaaGreatXuac
import Derived.Test.YtolddolfpnkndaaGreatXuah
import Derived.Deep.QuietTactic
import Derived.BigQuiet
import Derived.Deep.RegionWith
import Derived.OwnWalk
namespace Go.Proofs.YtolddolfpnkndaaGreat
open Go Go.RowKit
def lastOk (ops : Array Oper) (L : Nat) : Bool := decide (L < ops.size) && (List.range ops.size).all fun j => decide (j = L) || anc ops ops.size L j
theorem last_spec {ops : Array Oper} {L : Nat} (h : lastOk ops L = true) : L < ops.size ∧ ∀ j, j < ops.size → j ≠ L → anc ops ops.size L j = true := by
  unfold lastOk at h
  simp only [Bool.and_eq_true, decide_eq_true_eq, List.all_eq_true, List.mem_range, Bool.or_eq_true] at h
  exact ⟨h.1, fun j hj hne => (h.2 j hj).elim (fun e => absurd e hne) id⟩
theorem region_end {P : Program} {id : Nat} {ops : Array Oper} {Q : Exit → Act → World → Prop} {a0 : Act} {w0 : World} (val : Nat → Value) (E : Nat)
    (hm : P.follows .mixedOrders = true) (hg : (ops.all fun o => o.guard.isNone) = true) (hdf : dstsGood ops a0.tmps.size = true) (hah : aftersAhead ops = true) (hE : lastOk ops E = true)
    (step : ∀ i o, i ≠ E → ops[i]? = some o → ∀ (a : Act),
      (∀ k, (∀ j, j < ops.size → dstOf ops j ≠ some k) → a.tmps.getD k undef = a0.tmps.getD k undef) →
      (∀ e ∈ o.after, Region.binds .any e = true → ∀ d, dstOf ops e.on = some d → a.tmps.getD d undef = val e.on) →
      o.wp P a w0.drew (fun a' w' => a' = a.put o.dst (val i) ∧ w' = w0.drew) Q)
    (last : ∀ o, ops[E]? = some o → ∀ a, a.defers = a0.defers → a.tmps.size = a0.tmps.size →
      (∀ k, (∀ j, j < ops.size → dstOf ops j ≠ some k) → a.tmps.getD k undef = a0.tmps.getD k undef) →
      (∀ i d, i < ops.size → i ≠ E → dstOf ops i = some d → a.tmps.getD d undef = val i) →
      (∀ d, dstOf ops E = some d → a.tmps.getD d undef = a0.tmps.getD d undef) → o.wp P a w0.drew (fun a' w' => Q .normal a' w') Q) :
    (Code.region id ops true).wp P Q a0 w0 := by
  obtain ⟨hElt, hEanc⟩ := last_spec hE
  refine wp_region_any hm ?_
  refine wpAny_inv (fun L a w => L.size = ops.size ∧ ((L.getD E false = false ∧ ClosedL ops L ∧ w = w0.drew ∧ a.defers = a0.defers ∧ a.tmps.size = a0.tmps.size ∧
      (∀ k, (∀ j, j < ops.size → dstOf ops j ≠ some k) → a.tmps.getD k undef = a0.tmps.getD k undef) ∧
      (∀ i d, i < ops.size → L.getD i false = true → dstOf ops i = some d → a.tmps.getD d undef = val i) ∧
      (∀ d, dstOf ops E = some d → a.tmps.getD d undef = a0.tmps.getD d undef)) ∨ ((∀ j, j < ops.size → L.getD j false = true) ∧ Q .normal a w))) (fun L a w h => h.1) ?_ ?_ _ _ _ _ ?_ ?_
  · rintro L a w i ⟨h1, ⟨hE0, hcl, rfl, h3, h4, h5, h6, h7⟩ | ⟨hall, _⟩⟩ hi
    · obtain ⟨o, ho, hlt', hL, haf⟩ := ready_spec hi
      have hLf : L.getD i false = false := by
        rw [Array.getD_eq_getD_getElem?, Array.getElem?_eq_getElem (by omega)] at hL ⊢
        simpa using hL
      have hon : ∀ e ∈ o.after, Region.binds .any e = true → e.on < ops.size := fun e he hb => by
        have := haf e he hb
        rcases Nat.lt_or_ge e.on ops.size with h' | h'
        · exact h'
        · rw [Array.getD_eq_getD_getElem?, Array.getElem?_eq_none (by omega)] at this; simp at this
      have hgo : o.guard = none := by
        rw [Array.all_eq_true] at hg
        have := hg i hlt'
        have ho' : ops[i] = o := by rw [Array.getElem?_eq_getElem hlt'] at ho; injection ho
        rw [ho'] at this
        simpa using this
      unfold wpOp
      rw [ho]
      simp only [wanted_none hgo, if_true]
      by_cases hiE : i = E
      · subst hiE
        have hlist : ∀ j, j < ops.size → j ≠ i → L.getD j false = true := fun j hj hne => anc_ready hcl ho haf _ _ (hEanc j hj hne)
        refine .inl (Oper.wp_mono ?_ (last o ho a h3 h4 h5 (fun k d hk hne hd => h6 k d hk (hlist k hk hne) hd) h7))
        intro a' w' hq
        refine ⟨by rw [Array.size_setIfInBounds]; exact h1, .inr ⟨fun j hj => ?_, hq⟩⟩
        rw [set_getD' _ _ _ (by omega)]
        by_cases e : j = i
        · rw [if_pos e]
        · rw [if_neg e]; exact hlist j hj e
      · refine .inl (Oper.wp_mono ?_ (step i o hiE ho a h5 (fun e he hb d hd => h6 e.on d (hon e he hb) (haf e he hb) hd)))
        rintro a' w' ⟨rfl, rfl⟩
        refine ⟨by rw [Array.size_setIfInBounds]; exact h1, .inl ⟨?_, ?_, rfl, ?_, ?_, ?_, ?_, ?_⟩⟩
        · rw [set_getD' _ _ _ (by omega), if_neg (fun e => hiE e.symm)]; exact hE0
        · intro j p hp hj e he hb
          rw [set_getD' _ _ _ (by omega)] at hj ⊢
          by_cases hji : j = i
          · subst hji
            rw [ho] at hp
            injection hp with hp
            subst hp
            rw [haf e he hb]; simp
          · rw [if_neg hji] at hj
            rw [hcl j p hp hj e he hb]; simp
        · cases o.dst <;> exact h3
        · cases hod : o.dst with
          | none => exact h4
          | some d => simp only [Act.put, Array.size_setIfInBounds]; exact h4
        · intro k hk
          cases hod : o.dst with
          | none => exact h5 k hk
          | some d =>
            have hdi : dstOf ops i = some d := by simp [dstOf, ho, hod]
            rw [getD_put _ _ _ _ (by have := (good_spec hdf hlt' hdi).1; omega), if_neg (fun e => hk i hlt' (by rw [e]; exact hdi))]
            exact h5 k hk
        · intro j d hj hLj hdj
          rw [set_getD' _ _ _ (by omega)] at hLj
          cases hod : o.dst with
          | none =>
            by_cases hji : j = i
            · subst hji
              have : dstOf ops j = none := by simp [dstOf, ho, hod]
              rw [this] at hdj
              cases hdj
            · rw [if_neg hji] at hLj
              exact h6 j d hj hLj hdj
          | some d' =>
            have hdi : dstOf ops i = some d' := by simp [dstOf, ho, hod]
            have hf := good_spec hdf hlt' hdi
            rw [getD_put _ _ _ _ (by omega)]
            by_cases hji : j = i
            · subst hji
              rw [hdi] at hdj
              injection hdj with hdj
              rw [if_pos hdj.symm]
            · rw [if_neg hji] at hLj
              rw [if_neg (fun e => hf.2 j hj hji (by rw [← e]; exact hdj))]
              exact h6 j d hj hLj hdj
        · intro d hdj
          cases hod : o.dst with
          | none => exact h7 d hdj
          | some d' =>
            have hdi : dstOf ops i = some d' := by simp [dstOf, ho, hod]
            have hf := good_spec hdf hlt' hdi
            rw [getD_put _ _ _ _ (by omega), if_neg (fun e => hf.2 E hElt (fun q => hiE q.symm) (by rw [← e]; exact hdj))]
            exact h7 d hdj
    · exfalso
      obtain ⟨o, ho, hlt', hL, haf⟩ := ready_spec hi
      have := hall i hlt'
      rw [Array.getD_eq_getD_getElem?, Array.getElem?_eq_getElem (by omega)] at hL this
      simp at hL this
      rw [hL] at this
      cases this
  · rintro L a w ⟨h1, ⟨hE0, _⟩ | ⟨_, hq⟩⟩ hr
    · have hall := all_listed hah h1 hr
      rw [hall E hElt] at hE0
      cases hE0
    · exact hq
  · refine ⟨by simp, .inl ⟨?_, ?_, rfl, rfl, rfl, fun _ _ => rfl, fun i d hi h => ?_, fun _ _ => rfl⟩⟩
    · rw [Array.getD_eq_getD_getElem?, Array.getElem?_replicate]
      split <;> simp
    · intro j p hp hj
      rw [Array.getD_eq_getD_getElem?, Array.getElem?_replicate] at hj
      split at hj <;> simp at hj
    · rw [Array.getD_eq_getD_getElem?, Array.getElem?_replicate] at h
      simp [hi] at h
  · unfold left
    exact Nat.le_trans (List.countP_le_length) (by simp)
end Go.Proofs.YtolddolfpnkndaaGreat
namespace Go.Proofs.YtolddolfpnkndaaGreat
open Go.RowKit Go.Maps
namespace Dk
open Vt
def ds0 (c : Nat) : Ds := ⟨c, 0, 0, false, 0, 0, false, []⟩
theorem good0 {c : Nat} (h : c ≤ 4194304) : Good (ds0 c) := ⟨h, rfl, Nat.zero_le _, List.Pairwise.nil, by simp [ds0], by simp [ds0], by simp [ds0], by simp [ds0], by simp [ds0]⟩
set_option maxRecDepth 100000 in
theorem idx0 (w : World) (F : Value) : Calls Tryz.prog 73 #[.slice none 0 0, F] w fun e w' => e = .returned (.int .i64 (-1)) ∧ w' = w := by
  go_enter Tryz.func73, Tryz.ntmps73
  go_wp2_with fail
  refine wp_loop_rounds 1 ?_
  rw [rounds_succ]
  go_wp2_with fail
  go_ret
  exact ⟨rfl, rfl⟩
set_option maxRecDepth 100000 in
theorem has0 (w : World) (F : Value) : Calls Tryz.prog 46 #[.slice none 0 0, F] w fun e w' => e = .returned (.bool false) ∧ w' = w := by
  go_enter Tryz.func46, Tryz.ntmps46
  go_wp2_with fail
  refine Calls.mono (idx0 _ _) ?_
  rintro e w1 ⟨rfl, rfl⟩
  go_wp2_with fail
  go_ret
  exact ⟨rfl, rfl⟩
set_option maxRecDepth 100000 in
set_option maxHeartbeats 1000000 in
theorem new0_is (w : World) (c : Nat) (hc : c ≤ 4194304) : Calls Tryz.prog 24 #[.int .i64 (c : Int), .slice none 0 0] w fun e w' => ∃ d O, e = .returned (.tuple #[.pointer (some ⟨d, 0, none⟩), .int .i64 0]) ∧ DK w' d O (ds0 c) ∧ Tr (fun _ => False) w w' ∧ ∀ b, O b → w.heap.size ≤ b := by
  have hmm := @run_makeMap Tryz.prog
  obtain ⟨W, hW⟩ : ∃ W, W = (w.alloc (.map #[] 0)).alloc (.cells #[.int .i64 (c : Int), .int .i64 0, .map (some w.heap.size), .int .i64 0, .bool false, .int .i64 0, .int .i64 0, .bool false] TD) := ⟨_, rfl⟩
  have hbx : Blk W (w.heap.size + 1) TD (cells (ds0 c) w.heap.size) := by
    rw [hW]
    have := Blk.new (w.alloc (.map #[] 0)) TD (cells (ds0 c) w.heap.size)
    rwa [alloc_size] at this
  have FIN : ∀ n, DK (W.drewN n) (w.heap.size + 1) (fun b => b = w.heap.size ∨ b = w.heap.size + 1) (ds0 c) ∧ Tr (fun _ => False) w (W.drewN n) := by
    intro n
    refine ⟨⟨w.heap.size, [], rfl, hbx, ?_, by simp, List.Pairwise.nil, ⟨.inr rfl, .inl rfl, by simp⟩, ?_, good0 hc⟩, ?_⟩
    · have h1 : MP (w.alloc (.map #[] 0)) w.heap.size [] := ⟨.map [], World.ownsMap_made w Tryz.prog TS ptrElem, fun s _ => rfl, fun s _ => rfl, rfl⟩
      refine MP.same h1 ?_
      rw [hW]
      exact (MapKept.heap_alloc _ _).2 _ (by rw [alloc_size]; omega)
    · intro b q
      have : W.heap.size = w.heap.size + 2 := by rw [hW, alloc_size, alloc_size]
      show b < W.heap.size
      omega
    · have h1 : Tr (fun _ => False) w W := by rw [hW]; exact (Tr.alloc (fun _ => False) w _).trans (Tr.alloc (fun _ => False) _ _) fun x q => .inl q
      exact h1.trans (Tr.drewN (fun _ => False) W n) fun x q => .inl q
  have HF := hd FIN
  have d0 : ∀ n, (W.drewN n).cell? ⟨w.heap.size + 1, 0, none⟩ = some (.int .i64 (c : Int)) := fun n => hbx.cell 0 _ rfl
  have d1 : ∀ n, (W.drewN n).cell? ⟨w.heap.size + 1, 1, none⟩ = some (.int .i64 0) := fun n => hbx.cell 1 _ rfl
  have HW := hd hW
  clear hW FIN hbx
  go_enter Tryz.func24, Tryz.ntmps24
  go_wp2_with fail
  refine Calls.mono (has0 _ _) ?_
  rintro e w1 ⟨rfl, rfl⟩
  go_wp2_with fail
  refine wp_loop_rounds 1 ?_
  rw [rounds_succ]
  go_wp2_with fail
  rw [← HW.out]
  go_quiet (fail)
  go_wp2_with fail
  refine wp_loop_rounds 1 ?_
  rw [rounds_succ]
  go_wp2_with fail
  go_ret2
  exact ⟨_, _, rfl, (HF.out _).1, (HF.out _).2, fun b q => by omega⟩
end Dk
end Go.Proofs.YtolddolfpnkndaaGreat
