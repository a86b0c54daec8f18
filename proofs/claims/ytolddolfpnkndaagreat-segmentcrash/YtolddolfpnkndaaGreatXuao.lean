/-
  A REGION THAT DRAWS ITS ORDER, with one operation that leaves a world told ahead, behind it one call that leaves some world of which a predicate tells, operations beside them that only read, and a last operation behind all. No condition beyond those that each theorem bears.
  THE WALKS OF A WRITER OF SEGMENTS.
-/
import Derived.Test.YtolddolfpnkndaaGreatXuan
import Derived.Test.YtolddolfpnkndaaGreatXuaf
import Derived.Test.YtolddolfpnkndaaGreatXuah
import Derived.Test.YtolddolfpnkndaaGreatXuai
import Derived.Test.YtolddolfpnkndaaGreatXuam
namespace Go.Proofs.YtolddolfpnkndaaGreat
open Go Go.RowKit
theorem region_two {P : Program} {id : Nat} {ops : Array Oper} {Q : Exit → Act → World → Prop} {a0 : Act} {w0 : World} (val : Nat → Value) (M C E dC : Nat) (w1 : World) (R : Value → World → Prop)
    (hm : P.follows .mixedOrders = true) (hg : (ops.all fun o => o.guard.isNone) = true) (hdf : dstsGood ops a0.tmps.size = true) (hah : aftersBound ops = true) (hE : lastOk ops E = true) (hCE : C ≠ E) (hMC : anc ops ops.size C M = true) (hMne : M ≠ C) (hClt : C < ops.size) (hdC : dstOf ops C = some dC)
    (step : ∀ i o, i ≠ E → i ≠ C → ops[i]? = some o → ∀ (a : Act) (w : World), i ≠ M → (w = w0.drew ∨ w = w1 ∨ ∃ v, R v w) →
      (∀ k, (∀ j, j < ops.size → dstOf ops j ≠ some k) → a.tmps.getD k undef = a0.tmps.getD k undef) →
      (∀ e ∈ o.after, Region.binds .any e = true → e.on ≠ C → ∀ d, dstOf ops e.on = some d → a.tmps.getD d undef = val e.on) →
      o.wp P a w (fun a' w' => a' = a.put o.dst (val i) ∧ w' = w) Q)
    (mover : ∀ o, ops[M]? = some o → ∀ (a : Act),
      (∀ k, (∀ j, j < ops.size → dstOf ops j ≠ some k) → a.tmps.getD k undef = a0.tmps.getD k undef) →
      (∀ e ∈ o.after, Region.binds .any e = true → e.on ≠ C → ∀ d, dstOf ops e.on = some d → a.tmps.getD d undef = val e.on) →
      o.wp P a w0.drew (fun a' w' => a' = a.put o.dst (val M) ∧ w' = w1) Q)
    (call : ∀ o, ops[C]? = some o → ∀ (a : Act),
      (∀ k, (∀ j, j < ops.size → dstOf ops j ≠ some k) → a.tmps.getD k undef = a0.tmps.getD k undef) →
      (∀ e ∈ o.after, Region.binds .any e = true → e.on ≠ C → ∀ d, dstOf ops e.on = some d → a.tmps.getD d undef = val e.on) →
      o.wp P a w1 (fun a' w' => ∃ v, a' = a.put o.dst v ∧ R v w') Q)
    (last : ∀ o, ops[E]? = some o → ∀ a w v, R v w → a.defers = a0.defers → a.tmps.size = a0.tmps.size →
      (∀ k, (∀ j, j < ops.size → dstOf ops j ≠ some k) → a.tmps.getD k undef = a0.tmps.getD k undef) →
      (∀ i d, i < ops.size → i ≠ E → i ≠ C → dstOf ops i = some d → a.tmps.getD d undef = val i) → a.tmps.getD dC undef = v →
      (∀ d, dstOf ops E = some d → a.tmps.getD d undef = a0.tmps.getD d undef) → o.wp P a w (fun a' w' => Q .normal a' w') Q) :
    (Code.region id ops true).wp P Q a0 w0 := by
  obtain ⟨hElt, hEanc⟩ := last_spec hE
  refine wp_region_any hm ?_
  refine wpAny_inv (fun L a w => L.size = ops.size ∧ ((L.getD E false = false ∧ ClosedL ops L ∧ ((L.getD C false = false ∧ ((L.getD M false = false ∧ w = w0.drew) ∨ (L.getD M false = true ∧ w = w1))) ∨ (L.getD C false = true ∧ R (a.tmps.getD dC undef) w)) ∧ a.defers = a0.defers ∧ a.tmps.size = a0.tmps.size ∧
      (∀ k, (∀ j, j < ops.size → dstOf ops j ≠ some k) → a.tmps.getD k undef = a0.tmps.getD k undef) ∧
      (∀ i d, i < ops.size → i ≠ C → L.getD i false = true → dstOf ops i = some d → a.tmps.getD d undef = val i) ∧
      (∀ d, dstOf ops E = some d → a.tmps.getD d undef = a0.tmps.getD d undef)) ∨ ((∀ j, j < ops.size → L.getD j false = true) ∧ Q .normal a w))) (fun L a w h => h.1) ?_ ?_ _ _ _ _ ?_ ?_
  · rintro L a w i ⟨h1, ⟨hE0, hcl, hw, h3, h4, h5, h6, h7⟩ | ⟨hall, _⟩⟩ hi
    · obtain ⟨o, ho, hlt', hL, haf⟩ := ready_spec hi
      have hLf : L.getD i false = false := by
        rw [Array.getD_eq_getD_getElem?, Array.getElem?_eq_getElem (by omega)] at hL ⊢
        simpa using hL
      have hon : ∀ e ∈ o.after, Region.binds .any e = true → e.on < ops.size := fun e he hb => by
        have := haf e he hb
        rcases Nat.lt_or_ge e.on ops.size with h' | h'
        · exact h'
        · rw [Array.getD_eq_getD_getElem?, Array.getElem?_eq_none (by omega)] at this; simp at this
      have hgo : o.guard = none := by
        rw [Array.all_eq_true] at hg
        have := hg i hlt'
        have ho' : ops[i] = o := by rw [Array.getElem?_eq_getElem hlt'] at ho; injection ho
        rw [ho'] at this
        simpa using this
      unfold wpOp
      rw [ho]
      simp only [wanted_none hgo, if_true]
      -- the list with one operation more, closed
      have hcl' : ClosedL ops (L.setIfInBounds i true) := by
        intro j p hp hj e he hb
        rw [set_getD' _ _ _ (by omega)] at hj ⊢
        by_cases hji : j = i
        · subst hji
          rw [ho] at hp
          injection hp with hp
          subst hp
          rw [haf e he hb]; simp
        · rw [if_neg hji] at hj
          rw [hcl j p hp hj e he hb]; simp
      by_cases hiE : i = E
      · subst hiE
        have hlist : ∀ j, j < ops.size → j ≠ i → L.getD j false = true := fun j hj hne => anc_ready hcl ho haf _ _ (hEanc j hj hne)
        have hCt : L.getD C false = true := hlist C hClt hCE
        have hR : R (a.tmps.getD dC undef) w := by
          rcases hw with ⟨q, _⟩ | ⟨_, q⟩
          · rw [hCt] at q; cases q
          · exact q
        refine .inl (Oper.wp_mono ?_ (last o ho a w _ hR h3 h4 h5 (fun k d hk hne hnC hd => h6 k d hk hnC (hlist k hk hne) hd) rfl h7))
        intro a' w' hq
        refine ⟨by rw [Array.size_setIfInBounds]; exact h1, .inr ⟨fun j hj => ?_, hq⟩⟩
        rw [set_getD' _ _ _ (by omega)]
        by_cases e : j = i
        · rw [if_pos e]
        · rw [if_neg e]; exact hlist j hj e
      · -- what stays of the slots
        have slots : ∀ v, (∀ k, (∀ j, j < ops.size → dstOf ops j ≠ some k) → (a.put o.dst v).tmps.getD k undef = a0.tmps.getD k undef) ∧ (∀ d, dstOf ops E = some d → (a.put o.dst v).tmps.getD d undef = a0.tmps.getD d undef) ∧ (∀ j d, j < ops.size → j ≠ i → dstOf ops j = some d → (a.put o.dst v).tmps.getD d undef = a.tmps.getD d undef) ∧ (∀ d, dstOf ops i = some d → (a.put o.dst v).tmps.getD d undef = v) ∧ (a.put o.dst v).defers = a0.defers ∧ (a.put o.dst v).tmps.size = a0.tmps.size := by
          intro v
          cases hod : o.dst with
          | none => exact ⟨h5, h7, fun _ _ _ _ _ => rfl, fun d q => by simp [dstOf, ho, hod] at q, h3, h4⟩
          | some d' =>
            have hdi : dstOf ops i = some d' := by simp [dstOf, ho, hod]
            have hf := good_spec hdf hlt' hdi
            refine ⟨fun k hk => ?_, fun d hd => ?_, fun j d hj hne hd => ?_, fun d hd => ?_, h3, by simp only [Act.put, Array.size_setIfInBounds]; exact h4⟩
            · rw [getD_put _ _ _ _ (by omega), if_neg (fun e => hk i hlt' (by rw [e]; exact hdi))]
              exact h5 k hk
            · rw [getD_put _ _ _ _ (by omega), if_neg (fun e => hf.2 E hElt (fun q => hiE q.symm) (by rw [← e]; exact hd))]
              exact h7 d hd
            · rw [getD_put _ _ _ _ (by omega), if_neg (fun e => hf.2 j hj hne (by rw [← e]; exact hd))]
            · rw [hdi] at hd
              injection hd with hd
              rw [getD_put _ _ _ _ (by omega), if_pos hd.symm]
        have hvals : ∀ e ∈ o.after, Region.binds .any e = true → e.on ≠ C → ∀ d, dstOf ops e.on = some d → a.tmps.getD d undef = val e.on := fun e he hb hn d hd => h6 e.on d (hon e he hb) hn (haf e he hb) hd
        by_cases hiC : i = C
        · subst hiC
          have hML : L.getD M false = true := anc_ready hcl ho haf _ _ hMC
          have hw1 : w = w1 := by
            rcases hw with ⟨_, ⟨q, _⟩ | ⟨_, q⟩⟩ | ⟨q, _⟩
            · rw [hML] at q; cases q
            · exact q
            · rw [hLf] at q; cases q
          subst hw1
          refine .inl (Oper.wp_mono ?_ (call o ho a h5 hvals))
          rintro a' w' ⟨v, rfl, hR⟩
          obtain ⟨s1, s2, s3, s4, s5, s6⟩ := slots v
          refine ⟨by rw [Array.size_setIfInBounds]; exact h1, .inl ⟨?_, hcl', .inr ⟨?_, ?_⟩, s5, s6, s1, ?_, s2⟩⟩
          · rw [set_getD' _ _ _ (by omega), if_neg (fun e => hiE e.symm)]; exact hE0
          · rw [set_getD' _ _ _ (by omega), if_pos rfl]
          · rw [s4 dC hdC]; exact hR
          · intro j d hj hjC hLj hdj
            rw [set_getD' _ _ _ (by omega), if_neg hjC] at hLj
            rw [s3 j d hj hjC hdj]
            exact h6 j d hj hjC hLj hdj
        · by_cases hiM : i = M
          · subst hiM
            have hCf : L.getD C false = false := by
              cases hq : L.getD C false
              · rfl
              · have := anc_listed hcl _ _ _ hq hMC
                rw [hLf] at this; cases this
            have hw1 : w = w0.drew := by
              rcases hw with ⟨_, ⟨_, q⟩ | ⟨q, _⟩⟩ | ⟨q, _⟩
              · exact q
              · rw [hLf] at q; cases q
              · rw [hCf] at q; cases q
            subst hw1
            refine .inl (Oper.wp_mono ?_ (mover o ho a h5 hvals))
            rintro a' w' ⟨rfl, rfl⟩
            obtain ⟨s1, s2, s3, s4, s5, s6⟩ := slots (val i)
            refine ⟨by rw [Array.size_setIfInBounds]; exact h1, .inl ⟨?_, hcl', .inl ⟨?_, .inr ⟨?_, rfl⟩⟩, s5, s6, s1, ?_, s2⟩⟩
            · rw [set_getD' _ _ _ (by omega), if_neg (fun e => hiE e.symm)]; exact hE0
            · rw [set_getD' _ _ _ (by omega), if_neg (fun e => hiC e.symm)]; exact hCf
            · rw [set_getD' _ _ _ (by omega), if_pos rfl]
            · intro j d hj hjC hLj hdj
              by_cases hji : j = i
              · subst hji; exact s4 d hdj
              · rw [set_getD' _ _ _ (by omega), if_neg hji] at hLj
                rw [s3 j d hj hji hdj]
                exact h6 j d hj hjC hLj hdj
          · have hww : w = w0.drew ∨ w = w1 ∨ ∃ v, R v w := hw.elim (fun q => q.2.elim (fun q => .inl q.2) (fun q => .inr (.inl q.2))) (fun q => .inr (.inr ⟨_, q.2⟩))
            refine .inl (Oper.wp_mono ?_ (step i o hiE hiC ho a w hiM hww h5 hvals))
            rintro a' w' ⟨rfl, rfl⟩
            obtain ⟨s1, s2, s3, s4, s5, s6⟩ := slots (val i)
            refine ⟨by rw [Array.size_setIfInBounds]; exact h1, .inl ⟨?_, hcl', ?_, s5, s6, s1, ?_, s2⟩⟩
            · rw [set_getD' _ _ _ (by omega), if_neg (fun e => hiE e.symm)]; exact hE0
            · rw [set_getD' _ _ _ (by omega), if_neg (fun e => hiC e.symm), set_getD' _ _ _ (by omega), if_neg (fun e => hiM e.symm), s3 C dC hClt (fun e => hiC e.symm) hdC]
              exact hw
            · intro j d hj hjC hLj hdj
              by_cases hji : j = i
              · subst hji; exact s4 d hdj
              · rw [set_getD' _ _ _ (by omega), if_neg hji] at hLj
                rw [s3 j d hj hji hdj]
                exact h6 j d hj hjC hLj hdj
    · exfalso
      obtain ⟨o, ho, hlt', hL, haf⟩ := ready_spec hi
      have := hall i hlt'
      rw [Array.getD_eq_getD_getElem?, Array.getElem?_eq_getElem (by omega)] at hL this
      simp at hL this
      rw [hL] at this
      cases this
  · rintro L a w ⟨h1, ⟨hE0, _⟩ | ⟨_, hq⟩⟩ hr
    · have hall := all_listedB hah h1 hr
      rw [hall E hElt] at hE0
      cases hE0
    · exact hq
  · refine ⟨by simp, .inl ⟨?_, ?_, .inl ⟨?_, .inl ⟨?_, rfl⟩⟩, rfl, rfl, fun _ _ => rfl, fun i d hi _ h => ?_, fun _ _ => rfl⟩⟩
    · rw [Array.getD_eq_getD_getElem?, Array.getElem?_replicate]
      split <;> simp
    · intro j p hp hj
      rw [Array.getD_eq_getD_getElem?, Array.getElem?_replicate] at hj
      split at hj <;> simp at hj
    · rw [Array.getD_eq_getD_getElem?, Array.getElem?_replicate]
      split <;> simp
    · rw [Array.getD_eq_getD_getElem?, Array.getElem?_replicate]
      split <;> simp
    · rw [Array.getD_eq_getD_getElem?, Array.getElem?_replicate] at h
      simp [hi] at h
  · unfold left
    exact Nat.le_trans (List.countP_le_length) (by simp)
end Go.Proofs.YtolddolfpnkndaaGreat
namespace Go.Proofs.YtolddolfpnkndaaGreat
open Go.RowKit Go.Maps Go.Sort
namespace Sg
open Vt Dk
attribute [local go_sem ↓] append_hid
def nmS (n : Nat) : ByteArray := Vt.str (Nam.mk 1 n)
set_option maxRecDepth 100000 in
theorem nameOf_is (n : Nat) (hn : Nam.Nu n) (w : World) : Calls Tryz.prog 38 #[.int .u32 (n : Int)] w fun e w' => e = .returned (.string (nmS n)) ∧ Below w.heap.size w w' := by
  have HM := hd (Nam.make_ok 1 n (.inl rfl) hn w)
  clear hn
  go_enter Tryz.func38, Tryz.ntmps38
  go_wp2_with fail
  refine Calls.mono HM.out ?_
  rintro e w1 ⟨rfl, hB⟩
  have HB := hd hB
  clear hB
  go_wp2_with fail
  go_ret
  exact ⟨rfl, HB.out⟩
abbrev TW : TypeId := 88
structure Ws where
  lim : Nat
  evy : Nat
  op : Bool
  num : Nat
  laid : Nat
  uns : Nat
def wcs (d : Nat) (W : Ws) : List Value := [.pointer (some ⟨d, 0, none⟩), .int .i64 (W.lim : Int), .int .i64 (W.evy : Int), .bool W.op, .int .u32 (W.num : Int), .int .i64 (W.laid : Int), .int .i64 (W.uns : Int)]
/-- a writer on a disk, in memory -/
def WK (w : World) (b d : Nat) (O : Nat → Prop) (W : Ws) (S : Ds) : Prop := DK w d O S ∧ Blk w b TW (wcs d W) ∧ ¬ O b
/-- what a call on a writer leaves -/
def Nw (O : Nat → Prop) (w : World) (b d : Nat) (W : Ws) (S : Ds) (w' : World) : Prop := ∃ O', WK w' b d O' W S ∧ Tr (fun x => O x ∨ x = b) w w' ∧ ∀ x, O' x → O x ∨ w.heap.size ≤ x
theorem WK.lt {w : World} {b d : Nat} {O : Nat → Prop} {W : Ws} {S : Ds} (h : WK w b d O W S) : b < w.heap.size := h.2.1.lt
theorem Tr.ofB {w w' : World} (h : Below w.heap.size w w') (O : Nat → Prop) : Tr O w w' := ⟨h.os, h.tape, h.output, h.size, fun k hk _ => h.block k hk⟩
theorem WK.below {w w' : World} {b d : Nat} {O : Nat → Prop} {W : Ws} {S : Ds} (h : WK w b d O W S) (hb : Below w.heap.size w w') : WK w' b d O W S :=
  ⟨h.1.aside (Tr.ofB hb (fun _ => False)) (fun _ _ q => q), (hb.block b h.lt).trans h.2.1, h.2.2⟩
theorem Nw.same {w : World} {b d : Nat} {O : Nat → Prop} {W : Ws} {S : Ds} (h : WK w b d O W S) : Nw O w b d W S w := ⟨O, h, Tr.refl _ w, fun _ q => .inl q⟩
theorem Nw.behind {w w1 w' : World} {b d : Nat} {O : Nat → Prop} {W : Ws} {S : Ds} (hb : Below w.heap.size w w1) (h : Nw O w1 b d W S w') : Nw O w b d W S w' := by
  obtain ⟨O', h1, h2, h3⟩ := h
  exact ⟨O', h1, (Tr.ofB hb _).trans h2 fun x q => .inl q, fun x q => (h3 x q).imp id fun q => Nat.le_trans hb.size q⟩
theorem Nw.trans {w w1 w2 : World} {b d : Nat} {O : Nat → Prop} {W W' : Ws} {S S' : Ds} (h : Nw O w b d W S w1) (hx : ∀ O', WK w1 b d O' W S → Nw O' w1 b d W' S' w2) : Nw O w b d W' S' w2 := by
  obtain ⟨O1, h1, h2, h3⟩ := h
  obtain ⟨O2, g1, g2, g3⟩ := hx O1 h1
  refine ⟨O2, g1, h2.trans g2 fun x q => ?_, fun x q => ?_⟩
  · rcases q with q | q
    · exact (h3 x q).imp .inl id
    · exact .inl (.inr q)
  · rcases g3 x q with q | q
    · exact h3 x q
    · exact .inr (Nat.le_trans h2.size q)
/-- a disk's call leaves the writer as it was -/
theorem Nw.ofNx {w w' : World} {b d : Nat} {O : Nat → Prop} {W : Ws} {S S' : Ds} (h : WK w b d O W S) (hn : Nx O w d S' w') : Nw O w b d W S' w' := by
  obtain ⟨O', h1, h2, h3⟩ := hn
  refine ⟨O', ⟨h1, (h2.block b h.lt h.2.2).trans h.2.1, fun q => ?_⟩, h2.mono fun x q _ => .inl q, h3⟩
  rcases h3 b q with q | q
  · exact h.2.2 q
  · have := h.lt; omega
/-- the writer's own cells are written -/
theorem WK.write {w w' : World} {b d : Nat} {O : Nat → Prop} {W W' : Ws} {S : Ds} (h : WK w b d O W S) (ht : Tr (fun x => x = b) w w') (hb : Blk w' b TW (wcs d W')) : Nw O w b d W' S w' :=
  ⟨O, ⟨h.1.aside ht (fun _ q e => h.2.2 (e ▸ q)), hb, h.2.2⟩, ht.mono fun _ q _ => .inr q, fun _ q => .inl q⟩
def shut (r : Nat) (W : Ws) : Ws := if r = 74 ∨ r = 75 then { W with op := false } else W
set_option maxRecDepth 100000 in
set_option maxHeartbeats 1000000 in
theorem ask_is (w : World) (b d : Nat) (O : Nat → Prop) (W : Ws) (S S' : Ds) (f : FuncId) (A C : Array Value) (r n : Nat) (hn : Nam.Nu n) (hr : r < 1000) (h : WK w b d O W S) (hcf : ∀ args w, (callFunc f args).run Tryz.prog w = .ok (.enter f args) w) (hc : ∀ w1, Below w.heap.size w w1 → WK w1 b d O W S → Calls Tryz.prog f (A.push (.string (nmS n)) ++ C) w1 fun e w' => e = .returned (.int .i64 (r : Int)) ∧ Nx O w1 d S' w') :
    Calls Tryz.prog 54 #[.pointer (some ⟨b, 0, none⟩), .func (.func f) A C, .int .u32 (n : Int)] w fun e w' => e = .returned (.int .i64 (r : Int)) ∧ Nw O w b d (shut r W) S' w' := by
  have HH := hd h
  have HC := hd hc
  have HN := hd hn
  have HSH : Hid ((r = 74 ∨ r = 75 → shut r W = { W with op := false }) ∧ (¬ (r = 74 ∨ r = 75) → shut r W = W)) := ⟨fun q => if_pos q, fun q => if_neg q⟩
  clear h hc hn
  go_enter Tryz.func54, Tryz.ntmps54
  go_wp2_with fail
  refine Calls.mono (nameOf_is n HN.out _) ?_
  rintro e w1 ⟨rfl, hB⟩
  have HB := hd hB
  clear hB
  go_wp2_with fail
  refine Calls.mono (HC.out w1 HB.out (HH.out.below HB.out)) ?_
  rintro e w2 ⟨rfl, hx⟩
  have hx' := Nw.ofNx (HH.out.below HB.out) hx
  obtain ⟨O', hk, hk2, hk3⟩ := hx'
  have c3 := hk.2.1.cell 3 _ rfl
  have g3 := hk.2.1.frozen 3
  have hbl := hk.2.1.lt
  have FIN : ∀ n, Nw O w b d { W with op := false } S' ((w2.drewN n).setCell ⟨b, 3, none⟩ (.bool false)) := fun n =>
    Nw.behind HB.out (Nw.trans ⟨O', hk, hk2, hk3⟩ fun O2 q => (q.write (W' := { W with op := false }) (w' := (w2.drewN n).setCell ⟨b, 3, none⟩ (.bool false)) ((Tr.drewN _ w2 n).trans (Tr.set (O := fun x => x = b) rfl _) fun x q => .inl q) (by
      exact Blk.set (W := w2.drewN n) (j := 3) q.2.1 (.bool false))))
  have FIN2 : ∀ n, Nw O w b d W S' (w2.drewN n) := fun n => Nw.behind HB.out (Nw.trans ⟨O', hk, hk2, hk3⟩ fun O2 q => q.write (W' := W) (Tr.drewN _ w2 n) q.2.1)
  have HF := hd FIN
  have HF2 := hd FIN2
  clear FIN FIN2 hk hk2 hk3 hx
  by_cases hq : r = 74 ∨ r = 75
  · rcases hq with rfl | rfl
    · go_wp2_with fail
      go_ret
      exact ⟨rfl, by rw [show shut 74 W = { W with op := false } from if_pos (.inl rfl)]; exact HF.out 0⟩
    · go_wp2_with fail
      go_ret
      exact ⟨rfl, by rw [show shut 75 W = { W with op := false } from if_pos (.inr rfl)]; exact HF.out 0⟩
  · have HQ := hd hq
    have h74 : ¬ ((r : Int) = 74) := fun e => hq (.inl (by omega))
    have h75 : ¬ ((r : Int) = 75) := fun e => hq (.inr (by omega))
    clear hq
    go_wp2_with fail
    · rename_i hz
      exfalso
      simp at hz
      omega
    go_ret
    exact ⟨rfl, by rw [HSH.out.2 HQ.out]; exact HF2.out 0⟩
/-! ### the others, plainly -/
def Rs := Nat × Ws × Ds
def syR (W : Ws) (S : Ds) : Nat × Ws × Ds := if W.uns = 0 then (0, W, S) else ((sync S (nmS W.num)).1, if (sync S (nmS W.num)).1 = 0 then { W with uns := 0 } else shut (sync S (nmS W.num)).1 W, (sync S (nmS W.num)).2)
theorem cf_sync (args : Array Value) (w : World) : (callFunc 58 args).run Tryz.prog w = .ok (.enter 58 args) w := by kernel_rfl
theorem cf_create (args : Array Value) (w : World) : (callFunc 55 args).run Tryz.prog w = .ok (.enter 55 args) w := by kernel_rfl
theorem cf_append (args : Array Value) (w : World) : (callFunc 57 args).run Tryz.prog w = .ok (.enter 57 args) w := by kernel_rfl
theorem cf_with1 (args : Array Value) (w : World) : (callFunc 86 args).run Tryz.prog w = .ok (.enter 86 args) w := by kernel_rfl
theorem run_lt (S : Ds) (g : Ds → Ds) : (run S g).1 < 1000 := by unfold run; split <;> (try split) <;> simp
theorem bar_lt (S : Ds) (b : Bool) : bar S b < 1000 := by unfold bar; split <;> (try split) <;> simp
theorem look_lt (S : Ds) (s : ByteArray) (b : Bool) : Dk.look S s b < 1000 := by unfold Dk.look; have := bar_lt S (isNm s && b); split <;> (try split) <;> omega
theorem act_lt {S : Ds} {r : Nat} {g : Ds → Ds} (h : r < 1000) : (actOf S r g).1 < 1000 := by unfold actOf; split; exact h; exact run_lt S g
theorem sync_lt (S : Ds) (s : ByteArray) : (sync S s).1 < 1000 := act_lt (look_lt S s true)
theorem create_lt (S : Ds) (s : ByteArray) : (create S s).1 < 1000 := act_lt (by unfold rCreate; have := bar_lt S (isNm s); split <;> (try split) <;> omega)
theorem append_lt (S : Ds) (s : ByteArray) (l : List Nat) : (append S s l).1 < 1000 := act_lt (by unfold rAppend; have := look_lt S s true; split <;> (try split) <;> omega)
set_option maxRecDepth 100000 in
theorem asyR_is (w : World) (b d : Nat) (O : Nat → Prop) (W : Ws) (S : Ds) (h : WK w b d O W S) (ha : S.acts < 4611686018427387904) (hn : W.uns ≠ 0 → Nam.Nu W.num) :
    Calls Tryz.prog 31 #[.pointer (some ⟨b, 0, none⟩)] w fun e w' => e = .returned (.int .i64 ((syR W S).1 : Int)) ∧ Nw O w b d (syR W S).2.1 (syR W S).2.2 w' := by
  have c0 := h.2.1.cell 0 _ rfl
  have c4 := h.2.1.cell 4 _ rfl
  have c6 := h.2.1.cell 6 _ rfl
  have HH := hd h
  by_cases h0 : W.uns = 0
  · have e1 : syR W S = (0, W, S) := if_pos h0
    rw [e1]
    have z0 : (W.uns : Int) = 0 := by omega
    rw [z0] at c6
    clear h hn h0 e1 z0
    go_enter Tryz.func31, Tryz.ntmps31
    go_wp2_with fail
    go_ret
    exact ⟨rfl, Nw.same HH.out⟩
  · obtain ⟨r, hr⟩ : ∃ r, r = (sync S (nmS W.num)).1 := ⟨_, rfl⟩
    obtain ⟨S2, hS2⟩ : ∃ S2, S2 = (sync S (nmS W.num)).2 := ⟨_, rfl⟩
    have hwd : Below w.heap.size w w.drew := ⟨rfl, rfl, rfl, Nat.le_refl _, fun _ _ => rfl⟩
    have HA : Hid (Calls Tryz.prog 54 #[.pointer (some ⟨b, 0, none⟩), .func (.func 58) #[.pointer (some ⟨d, 0, none⟩)] #[], .int .u32 (W.num : Int)] w.drew fun e w' => e = .returned (.int .i64 (r : Int)) ∧ Nw O w.drew b d (shut r W) S2 w') := by
      rw [hr, hS2]
      exact ask_is w.drew b d O W S (sync S (nmS W.num)).2 58 #[.pointer (some ⟨d, 0, none⟩)] #[] (sync S (nmS W.num)).1 W.num (hn h0) (sync_lt _ _) (h.below hwd) cf_sync fun w1 _ hk => sync_is w1 d O S (nmS W.num) hk.1 ha
    have HE : Hid (syR W S = (r, if r = 0 then { W with uns := 0 } else shut r W, S2)) := by rw [hr, hS2]; exact if_neg h0
    have RC : Hid (∀ w9, (w9 = w.drew ∨ ∃ v, v = Value.int .i64 (r : Int) ∧ Nw O w.drew b d (shut r W) S2 w9) → w9.cell? ⟨b, 0, none⟩ = some (.pointer (some ⟨d, 0, none⟩)) ∧ w9.cell? ⟨b, 4, none⟩ = some (.int .u32 (W.num : Int))) := by
      rintro w9 (rfl | ⟨v, _, O9, q9, _⟩)
      · exact ⟨h.2.1.cell 0 _ rfl, h.2.1.cell 4 _ rfl⟩
      · exact ⟨q9.2.1.cell 0 _ rfl, (q9.2.1.cell 4 _ rfl).trans (by unfold shut; split <;> rfl)⟩
    have hmx : Tryz.prog.follows .mixedOrders = true := by kernel_rfl
    have z0 : ¬ ((W.uns : Int) = 0) := by omega
    have HZ : Hid (∀ w9, Nw O w.drew b d (shut r W) S2 w9 → Nw O w b d (shut r W) S2 w9 ∧ (r = 0 → w9.cell? ⟨b, 6, none⟩ = some (.int .i64 (W.uns : Int)) ∧ w9.frozen? ⟨b, 6, none⟩ = false ∧ b < w9.heap.size ∧ Nw O w b d { W with uns := 0 } S2 (w9.setCell ⟨b, 6, none⟩ (.int .i64 0)))) := by
      intro w9 q
      refine ⟨Nw.behind hwd q, fun e => ?_⟩
      subst e
      have e0 : shut 0 W = W := if_neg (by omega)
      rw [e0] at q
      obtain ⟨O', hk, hk2, hk3⟩ := q
      exact ⟨hk.2.1.cell 6 _ rfl, hk.2.1.frozen 6, hk.2.1.lt, Nw.behind hwd (Nw.trans ⟨O', hk, hk2, hk3⟩ fun O2 q => q.write (W' := { W with uns := 0 }) (Tr.set (O := fun x => x = b) rfl _) (Blk.set (j := 6) q.2.1 (.int .i64 0)))⟩
    clear h hn h0 hr hS2 hwd ha c0 c4
    rw [HE.out]
    have HRL : Hid (r < 1000 ∨ True) := .inr trivial
    go_enter Tryz.func31, Tryz.ntmps31
    go_wp2_with fail
    --REGION sy
    refine region_call (fun i => match i with
      | 0 => Value.pointer (some { block := b, off := 0 })
      | 1 => Value.pointer (some { block := b, off := 0 })
      | 2 => Value.pointer (some { block := b, off := 0 })
      | 3 => .pointer (some ⟨b, 0, none⟩)
      | 4 => .pointer (some ⟨d, 0, none⟩)
      | 5 => .func (.func 58) #[.pointer (some ⟨d, 0, none⟩)] #[]
      | 6 => Value.pointer (some { block := b, off := 0 })
      | 7 => Value.pointer (some { block := b, off := 0 })
      | 8 => .pointer (some ⟨b, 4, none⟩)
      | 9 => .int .u32 (W.num : Int)
      | 10 => undef
      | 11 => undef
      | _ => undef) 10 11 19 (fun v w9 => v = Value.int .i64 (r : Int) ∧ Nw O w.drew b d (shut r W) S2 w9) hmx (by kernel_rfl) (by kernel_rfl) (by kernel_rfl) (by kernel_rfl) (by decide) (by decide) rfl ?_ ?_ ?_
    · intro i o hiE hiC ho a w9 hw9 hout haf
      have ee0 := getq (show a.tmps.getD 0 undef = Value.pointer (some { block := b, off := 0 }) from hout 0 (notDst_spec (by kernel_rfl)))
      clear hout
      match i, hiE, hiC, ho, haf with
      | 0, hiE, hiC, ho, haf =>
        obtain rfl := Option.some.inj ho
        refine step_c (w' := w9) rfl fun K hK => ?_
        simp only [List.getElem_toArray, List.getElem_cons_zero] at hK ⊢
        clear haf ho hiE hiC
        go_simp
        exact hK
      | 1, hiE, hiC, ho, haf =>
        obtain rfl := Option.some.inj ho
        refine step_c (w' := w9) rfl fun K hK => ?_
        simp only [List.getElem_toArray, List.getElem_cons_succ, List.getElem_cons_zero] at hK ⊢
        clear haf ho hiE hiC
        go_simp
        exact hK
      | 2, hiE, hiC, ho, haf =>
        obtain rfl := Option.some.inj ho
        have f1 := getq (show a.tmps.getD 10 undef = Value.pointer (some { block := b, off := 0 }) from haf ⟨1, .data⟩ (by simp) rfl (by decide) 10 rfl)
        refine step_c (w' := w9) rfl fun K hK => ?_
        simp only [List.getElem_toArray, List.getElem_cons_succ, List.getElem_cons_zero] at hK ⊢
        clear haf ho hiE hiC
        go_simp
        exact hK
      | 3, hiE, hiC, ho, haf =>
        obtain rfl := Option.some.inj ho
        have f2 := getq (show a.tmps.getD 11 undef = Value.pointer (some { block := b, off := 0 }) from haf ⟨2, .data⟩ (by simp) rfl (by decide) 11 rfl)
        refine step_c (w' := w9) rfl fun K hK => ?_
        simp only [List.getElem_toArray, List.getElem_cons_succ, List.getElem_cons_zero] at hK ⊢
        clear haf ho hiE hiC
        go_simp
        exact hK
      | 4, hiE, hiC, ho, haf =>
        obtain rfl := Option.some.inj ho
        have f3 := getq (show a.tmps.getD 12 undef = .pointer (some ⟨b, 0, none⟩) from haf ⟨3, .data⟩ (by simp) rfl (by decide) 12 rfl)
        refine step_c (w' := w9) rfl fun K hK => ?_
        simp only [List.getElem_toArray, List.getElem_cons_succ, List.getElem_cons_zero] at hK ⊢
        clear haf ho hiE hiC
        have hc := (RC.out w9 hw9).1
        go_simp
        exact hK
      | 5, hiE, hiC, ho, haf =>
        obtain rfl := Option.some.inj ho
        have f4 := getq (show a.tmps.getD 13 undef = .pointer (some ⟨d, 0, none⟩) from haf ⟨4, .data⟩ (by simp) rfl (by decide) 13 rfl)
        refine step_c (w' := w9) rfl fun K hK => ?_
        simp only [List.getElem_toArray, List.getElem_cons_succ, List.getElem_cons_zero] at hK ⊢
        clear haf ho hiE hiC
        go_simp
        exact hK
      | 6, hiE, hiC, ho, haf =>
        obtain rfl := Option.some.inj ho
        refine step_c (w' := w9) rfl fun K hK => ?_
        simp only [List.getElem_toArray, List.getElem_cons_succ, List.getElem_cons_zero] at hK ⊢
        clear haf ho hiE hiC
        go_simp
        exact hK
      | 7, hiE, hiC, ho, haf =>
        obtain rfl := Option.some.inj ho
        have f6 := getq (show a.tmps.getD 15 undef = Value.pointer (some { block := b, off := 0 }) from haf ⟨6, .data⟩ (by simp) rfl (by decide) 15 rfl)
        refine step_c (w' := w9) rfl fun K hK => ?_
        simp only [List.getElem_toArray, List.getElem_cons_succ, List.getElem_cons_zero] at hK ⊢
        clear haf ho hiE hiC
        go_simp
        exact hK
      | 8, hiE, hiC, ho, haf =>
        obtain rfl := Option.some.inj ho
        have f7 := getq (show a.tmps.getD 16 undef = Value.pointer (some { block := b, off := 0 }) from haf ⟨7, .data⟩ (by simp) rfl (by decide) 16 rfl)
        refine step_c (w' := w9) rfl fun K hK => ?_
        simp only [List.getElem_toArray, List.getElem_cons_succ, List.getElem_cons_zero] at hK ⊢
        clear haf ho hiE hiC
        go_simp
        exact hK
      | 9, hiE, hiC, ho, haf =>
        obtain rfl := Option.some.inj ho
        have f8 := getq (show a.tmps.getD 17 undef = .pointer (some ⟨b, 4, none⟩) from haf ⟨8, .data⟩ (by simp) rfl (by decide) 17 rfl)
        refine step_c (w' := w9) rfl fun K hK => ?_
        simp only [List.getElem_toArray, List.getElem_cons_succ, List.getElem_cons_zero] at hK ⊢
        clear haf ho hiE hiC
        have hc := (RC.out w9 hw9).2
        go_simp
        exact hK
      | 10, _, hiC, _, _ => exact absurd rfl hiC
      | 11, hiE, _, _, _ => exact absurd rfl hiE
      | n + 12, _, _, ho, _ => simp at ho
    · intro o ho a hout haf
      have ee0 := getq (show a.tmps.getD 0 undef = Value.pointer (some { block := b, off := 0 }) from hout 0 (notDst_spec (by kernel_rfl)))
      obtain rfl := Option.some.inj ho
      have f0 := getq (show a.tmps.getD 9 undef = Value.pointer (some { block := b, off := 0 }) from haf ⟨0, .data⟩ (by simp) rfl (by decide) 9 rfl)
      have f5 := getq (show a.tmps.getD 14 undef = .func (.func 58) #[.pointer (some ⟨d, 0, none⟩)] #[] from haf ⟨5, .data⟩ (by simp) rfl (by decide) 14 rfl)
      have f9 := getq (show a.tmps.getD 18 undef = .int .u32 (W.num : Int) from haf ⟨9, .data⟩ (by simp) rfl (by decide) 18 rfl)
      clear haf ho hout
      simp only [List.getElem_toArray, List.getElem_cons_succ, List.getElem_cons_zero]
      go_simp
      refine Calls.mono HA.out ?_
      rintro e9 w9 ⟨rfl, hN9⟩
      exact ⟨_, rfl, rfl, hN9⟩
    · intro o ho aa w9 v9 hR9 hdf hsz hout hval hvC hown
      obtain rfl := Option.some.inj ho
      have hat : aa.tmps = #[Value.pointer (some { block := b, off := 0 }), undef, Value.int IntKind.i64 0, undef, Value.pointer (some { block := b, off := 0 }), Value.pointer (some { block := b, off := 0 }), Value.pointer (some { block := b, off := 6 }), Value.int IntKind.i64 (W.uns : Int), Value.bool ((W.uns : Int) == 0), Value.pointer (some { block := b, off := 0 }), Value.pointer (some { block := b, off := 0 }), Value.pointer (some { block := b, off := 0 }), .pointer (some ⟨b, 0, none⟩), .pointer (some ⟨d, 0, none⟩), .func (.func 58) #[.pointer (some ⟨d, 0, none⟩)] #[], Value.pointer (some { block := b, off := 0 }), Value.pointer (some { block := b, off := 0 }), .pointer (some ⟨b, 4, none⟩), .int .u32 (W.num : Int), v9, undef, undef, undef, undef, undef, undef] := by
        refine arr_one (hsz.trans rfl) fun kk hkk => ?_
        match kk, hkk with
        | 0, _ => exact hout 0 (notDst_spec (by kernel_rfl))
        | 1, _ => exact hout 1 (notDst_spec (by kernel_rfl))
        | 2, _ => exact hout 2 (notDst_spec (by kernel_rfl))
        | 3, _ => exact hown 3 rfl
        | 4, _ => exact hout 4 (notDst_spec (by kernel_rfl))
        | 5, _ => exact hout 5 (notDst_spec (by kernel_rfl))
        | 6, _ => exact hout 6 (notDst_spec (by kernel_rfl))
        | 7, _ => exact hout 7 (notDst_spec (by kernel_rfl))
        | 8, _ => exact hout 8 (notDst_spec (by kernel_rfl))
        | 9, _ => exact hval 0 9 (by decide) (by decide) (by decide) rfl
        | 10, _ => exact hval 1 10 (by decide) (by decide) (by decide) rfl
        | 11, _ => exact hval 2 11 (by decide) (by decide) (by decide) rfl
        | 12, _ => exact hval 3 12 (by decide) (by decide) (by decide) rfl
        | 13, _ => exact hval 4 13 (by decide) (by decide) (by decide) rfl
        | 14, _ => exact hval 5 14 (by decide) (by decide) (by decide) rfl
        | 15, _ => exact hval 6 15 (by decide) (by decide) (by decide) rfl
        | 16, _ => exact hval 7 16 (by decide) (by decide) (by decide) rfl
        | 17, _ => exact hval 8 17 (by decide) (by decide) (by decide) rfl
        | 18, _ => exact hval 9 18 (by decide) (by decide) (by decide) rfl
        | 19, _ => exact hvC
        | 20, _ => exact hout 20 (notDst_spec (by kernel_rfl))
        | 21, _ => exact hout 21 (notDst_spec (by kernel_rfl))
        | 22, _ => exact hout 22 (notDst_spec (by kernel_rfl))
        | 23, _ => exact hout 23 (notDst_spec (by kernel_rfl))
        | 24, _ => exact hout 24 (notDst_spec (by kernel_rfl))
        | 25, _ => exact hout 25 (notDst_spec (by kernel_rfl))
        | n + 26, h => exact absurd h (by simp)
      obtain ⟨tt, dd⟩ := aa
      simp only at hat hdf
      subst hat hdf
      clear hsz hout hval hown ho hvC
      simp only [List.getElem_toArray, List.getElem_cons_succ, List.getElem_cons_zero]
      obtain ⟨rfl, hN9⟩ := hR9
      obtain ⟨hA9, hB9⟩ := HZ.out w9 hN9
      have HA9 := hd hA9
      clear hN9 hA9
      by_cases hz : r = 0
      · subst hz
        obtain ⟨k1, k2, k3, k4⟩ := hB9 rfl
        have HK4 := hd k4
        clear hB9 k4
        go_simp
        go_wp2_with fail
        go_ret
        exact ⟨rfl, HK4.out⟩
      · have z1 : ¬ ((r : Int) = 0) := by omega
        have HZ1 := hd hz
        clear hB9 hz
        go_simp
        go_wp2_with fail
        go_ret
        exact ⟨rfl, HA9.out⟩
    --END sy
/-! ### a fresh number -/
theorem frok_perm {c n : Nat} {a b : List (List Nat)} (h : a.Perm b) (hf : Nam.FrOk c a n) : Nam.FrOk c b n := by
  obtain ⟨h1, h2, h3, h4⟩ := hf
  exact ⟨h1, by rw [← h.length_eq]; exact h2, fun l hl => h3 l (h.symm.mem_iff.1 hl), fun m m1 m2 => (h4 m m1 m2).imp fun l q => ⟨h.mem_iff.1 q.1, q.2⟩⟩
def nms (fs : List Fi) : List (List Nat) := fs.map fun f => bl f.nm
theorem fr_ex (fs : List Fi) : ∃ n, Nam.FrOk 1 (nms fs) n := by
  obtain ⟨j, h1, h2, h3⟩ := Nam.mrk_first 1 (nms fs)
  exact ⟨_, Nam.frok_of h1 h2 h3⟩
noncomputable def fr (fs : List Fi) : Nat := Classical.choose (fr_ex fs)
theorem fr_ok (fs : List Fi) : Nam.FrOk 1 (nms fs) (fr fs) := Classical.choose_spec (fr_ex fs)
theorem isS_row {w : World} {base n : Nat} {v : Value} {ls : List (List UInt8)} (h : w.ownsRow base TS 1 v n (ls.map encStr)) (hn : ls.length = n) (hs : ∀ l ∈ ls, l.length ≤ maxLen) : Nam.IsS w v (ls.map fun l => ⟨l.toArray⟩) := by
  obtain ⟨h0, ⟨rfl, h1⟩ | ⟨g, cap, cur, rfl, h1, h2, h3, h4, h5, h6⟩⟩ := h
  · obtain rfl : ls = [] := List.eq_nil_of_length_eq_zero (hn.trans h1)
    exact Nam.isS_nil _ _ _
  · refine ⟨?_, by rw [List.length_map]; omega, .inr ⟨g, 0, cap, by rw [List.length_map, hn], by rw [List.length_map]; omega, h4, (Array.getElem?_eq_some_iff.1 h2).1, ?_⟩⟩
    · intro s hs'
      obtain ⟨l, hl, rfl⟩ := List.mem_map.1 hs'
      exact hs l hl
    · intro k hk
      rw [List.length_map] at hk
      have e1 : cur[0 + k]? = some (.string ⟨(ls.getD k []).toArray⟩) := by
        have h7 : (cur.toList.take (n * 1))[k]? = (ls.map encStr)[k]? := by rw [h6]
        rw [List.getElem?_take_of_lt (by omega), List.getElem?_map, List.getElem?_eq_getElem hk] at h7
        rw [Nat.zero_add, ← Array.getElem?_toList, h7, List.getD_eq_getElem?_getD, List.getElem?_eq_getElem hk]
        rfl
      have e2 : (ls.map fun l => (⟨l.toArray⟩ : ByteArray)).getD k ByteArray.empty = ⟨(ls.getD k []).toArray⟩ := by
        rw [List.getD_eq_getElem?_getD, List.getElem?_map, List.getD_eq_getElem?_getD, List.getElem?_eq_getElem hk]
        rfl
      rw [e2]
      simp only [World.cell?, h2]
      simpa using e1
noncomputable def bgR (W : Ws) (S : Ds) : Nat × Ws × Ds :=
  if (syR W S).1 ≠ 0 then syR W S else
    let W1 := (syR W S).2.1
    let c := create (syR W S).2.2 (nmS (fr (syR W S).2.2.fs))
    (c.1, if c.1 = 0 then { W1 with num := fr (syR W S).2.2.fs, laid := 0 } else shut c.1 W1, c.2)
theorem sync_acts (S : Ds) (s : ByteArray) : (sync S s).2.acts ≤ S.acts + 1 := by
  unfold sync actOf run gSync tick
  split
  · exact Nat.le_succ _
  · split
    · cases S.done <;> simp
    · split <;> simp
theorem syR_acts (W : Ws) (S : Ds) : (syR W S).2.2.acts ≤ S.acts + 1 := by
  unfold syR
  split
  · exact Nat.le_succ _
  · exact sync_acts _ _
set_option maxRecDepth 100000 in
/-- the number that Fresh tells for the disk's names -/
theorem pick_is (w : World) (d : Nat) (O : Nat → Prop) (S : Ds) (h : DK w d O S) (hA : S.acts ≤ 3000000) (F : Ending → World → Prop)
    (hF : ∀ w', Below w.heap.size w w' → F (.returned (.tuple #[.int .u32 (fr S.fs : Int), .int .i64 0])) w') : ∃ R : Ending → World → Prop, Calls Tryz.prog 53 #[.pointer (some ⟨d, 0, none⟩)] w R ∧ ∀ e w1, R e w1 → ∃ v, e = .returned v ∧ Below w.heap.size w w1 ∧ Calls Tryz.prog 52 #[.int .i64 1, v] w1 F := by
  obtain ⟨m, es, h⟩ := h
  refine ⟨_, names_is w d m es O S h (by omega), ?_⟩
  rintro e w1 ⟨v, rfl, hrow, _, hb⟩
  refine ⟨v, rfl, hb, ?_⟩
  have hcnt : es.length ≤ S.acts + 200 := by have := h.good.cnt; rw [h.fs, List.length_map] at this; exact this
  have hp : (nmsL es).Perm (es.map fun e => e.nm.data.toList) := List.mergeSort_perm _ _
  have hl : (nmsL es).length = es.length := by rw [hp.length_eq, List.length_map]
  have hS := isS_row hrow hl (fun l hl => by
    obtain ⟨e, he, rfl⟩ := List.mem_map.1 (hp.mem_iff.1 hl)
    have := isNm_len (h.good.isnm e.fi (by rw [h.fs]; exact List.mem_map_of_mem he))
    exact this)
  refine (Nam.fresh_ok 1 (.inl rfl) v _ w1 hS (by rw [List.length_map, hl]; omega)).mono ?_
  rintro e w2 ⟨⟨n, hn, rfl⟩, hb2⟩
  have hn2 : Nam.FrOk 1 (nms S.fs) n := by
    refine frok_perm ?_ hn
    unfold nms
    rw [h.fs, List.map_map, List.map_map]
    have := hp.map fun l => bl (⟨l.toArray⟩ : ByteArray)
    rw [List.map_map] at this
    exact this
  rw [Nam.FrOk.one hn2 (fr_ok S.fs)]
  exact hF w2 (hb.trans (hb2.mono hb.size))
end Sg
end Go.Proofs.YtolddolfpnkndaaGreat
