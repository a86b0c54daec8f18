/-
  A REGION THAT DRAWS ITS ORDER, WITHIN A FENCE, where what each operation yields does not hang on the order: each is looked at once.
  scan.Clean: the frames alone.
  scan.appendJunk: a run of junk behind some extents, unless it is empty.
  scan.Extents: the extents of any bytes.
-/
import Derived.Test.YtlddogigbodilaaMaq
import Derived.OrdersIn
import Derived.OwnWalkIn
import Derived.Test.YtlddogigbodilaaMap
namespace Go.Proofs.Ytlddogigbodilaa
open Go Go.RowKit
theorem wpAnyIn_inv {F : Fence} {n : Nat} {P : Program} {md : Region.Mode} {ops : Array Oper} {Q : Exit → Act → World → Prop} (I : Array Bool → Act → World → Prop)
    (hsz : ∀ L a w, I L a w → L.size = ops.size)
    (hstep : ∀ L a w i, I L a w → i ∈ Region.ready md ops L → wpOpIn F n P ops Q i (fun a' w' => I (L.setIfInBounds i true) a' w') a w)
    (hdone : ∀ L a w, I L a w → Region.ready md ops L = [] → Q .normal a w) :
    ∀ fuel L a w, I L a w → left L ≤ fuel → wpAnyIn F n P md ops Q fuel L a w := by
  intro fuel
  induction fuel with
  | zero =>
    intro L a w h hl
    have hr : Region.ready md ops L = [] := ready_nil fun i hi => left_zero (by omega) i (by rw [hsz L a w h]; exact hi)
    exact ⟨hr, hdone L a w h hr⟩
  | succ fuel ih =>
    intro L a w h hl
    refine ⟨fun hr => hdone L a w h hr, fun i hi => ?_⟩
    obtain ⟨o, ho, hlt, hL, _⟩ := ready_spec hi
    have := left_set hL
    exact wpOpIn_mono (fun a' w' h' => ih _ a' w' h' (by omega)) (hstep L a w i h hi)
/-- where operations write: each within the frame, no two at one place -/
def dstsFine (ops : Array Oper) (n : Nat) : Bool :=
  (List.range ops.size).all fun i => match dstOf ops i with
    | none => true
    | some d => decide (d < n) && (List.range ops.size).all fun j => decide (i = j) || !(dstOf ops j == some d)
theorem fine_spec {ops : Array Oper} {n : Nat} (h : dstsFine ops n = true) {i d : Nat} (hi : i < ops.size) (hd : dstOf ops i = some d) : d < n ∧ ∀ j, j < ops.size → j ≠ i → dstOf ops j ≠ some d := by
  unfold dstsFine at h
  have := List.all_eq_true.1 h i (by simpa using hi)
  rw [hd] at this
  simp only [Bool.and_eq_true, decide_eq_true_eq, List.all_eq_true, List.mem_range, Bool.or_eq_true, Bool.not_eq_eq_eq_not, Bool.not_true, beq_eq_false_iff_ne] at this
  refine ⟨this.1, fun j hj hne => ?_⟩
  rcases this.2 j hj with h' | h'
  · exact absurd h'.symm hne
  · exact h'
/-- listed are, with each operation, those that must come ahead of it -/
def Closed (ops : Array Oper) (L : Array Bool) : Prop := ∀ j p, ops[j]? = some p → L.getD j false = true → ∀ e ∈ p.after, Region.binds .any e = true → L.getD e.on false = true
theorem set_getD (L : Array Bool) (i j : Nat) (hi : i < L.size) : (L.setIfInBounds i true).getD j false = if j = i then true else L.getD j false := by
  rw [Array.getD_eq_getD_getElem?, Array.getD_eq_getD_getElem?, Array.getElem?_setIfInBounds]
  by_cases h : j = i
  · subst h; simp [hi]
  · rw [if_neg (by omega), if_neg h]
theorem region_det {F : Fence} {n : Nat} {P : Program} {id : Nat} {ops : Array Oper} {Q : Exit → Act → World → Prop} {a0 : Act} {w0 : World} (val : Nat → Value) (Wd : Array Bool → World → Prop)
    (hm : P.follows .mixedOrders = true) (hg : (ops.all fun o => o.guard.isNone) = true) (hdf : dstsFine ops a0.tmps.size = true) (hah : aftersAhead ops = true) (hW0 : Wd (Array.replicate ops.size false) w0.drew)
    (step : ∀ i o, ops[i]? = some o → ∀ (L : Array Bool) (a : Act) (w : World), L.size = ops.size → L.getD i false = false → Closed ops L → Wd L w →
      (∀ k, (∀ j, j < ops.size → dstOf ops j ≠ some k) → a.tmps.getD k undef = a0.tmps.getD k undef) →
      (∀ e ∈ o.after, Region.binds .any e = true → ∀ d, dstOf ops e.on = some d → a.tmps.getD d undef = val e.on) →
      (∀ e ∈ o.after, Region.binds .any e = true → L.getD e.on false = true) →
      o.wpIn F n P a w (fun a' w' => a' = a.put o.dst (val i) ∧ Wd (L.setIfInBounds i true) w') Q)
    (done : ∀ (L : Array Bool) a w, (∀ i, i < ops.size → L.getD i false = true) → Wd L w → a.defers = a0.defers → a.tmps.size = a0.tmps.size →
      (∀ k, (∀ j, j < ops.size → dstOf ops j ≠ some k) → a.tmps.getD k undef = a0.tmps.getD k undef) →
      (∀ i d, i < ops.size → dstOf ops i = some d → a.tmps.getD d undef = val i) → Q .normal a w) :
    (Code.region id ops true).wpIn F n P Q a0 w0 := by
  refine wpIn_region_any hm ?_
  refine wpAnyIn_inv (fun L a w => L.size = ops.size ∧ Closed ops L ∧ Wd L w ∧ a.defers = a0.defers ∧ a.tmps.size = a0.tmps.size ∧
      (∀ k, (∀ j, j < ops.size → dstOf ops j ≠ some k) → a.tmps.getD k undef = a0.tmps.getD k undef) ∧
      (∀ i d, i < ops.size → L.getD i false = true → dstOf ops i = some d → a.tmps.getD d undef = val i)) (fun L a w h => h.1) ?_ ?_ _ _ _ _ ?_ ?_
  · rintro L a w i ⟨h1, hcl, h2, h3, h4, h5, h6⟩ hi
    obtain ⟨o, ho, hlt, hL, haf⟩ := ready_spec hi
    have hLf : L.getD i false = false := by
      rw [Array.getD_eq_getD_getElem?, Array.getElem?_eq_getElem (by omega)] at hL ⊢
      simpa using hL
    have hon : ∀ e ∈ o.after, Region.binds .any e = true → e.on < ops.size := fun e he hb => by
      have := haf e he hb
      rcases Nat.lt_or_ge e.on ops.size with h' | h'
      · exact h'
      · rw [Array.getD_eq_getD_getElem?, Array.getElem?_eq_none (by omega)] at this; simp at this
    have hst := step i o ho L a w h1 hLf hcl h2 h5 (fun e he hb d hd => h6 e.on d (hon e he hb) (haf e he hb) hd) haf
    have hgo : o.guard = none := by
      rw [Array.all_eq_true] at hg
      have := hg i hlt
      have ho' : ops[i] = o := by rw [Array.getElem?_eq_getElem hlt] at ho; injection ho
      rw [ho'] at this
      simpa using this
    unfold wpOpIn
    rw [ho]
    simp only [wanted_none hgo, if_true]
    refine Oper.wpIn_mono ?_ hst
    rintro a' w' ⟨rfl, hW'⟩
    refine ⟨by rw [Array.size_setIfInBounds]; exact h1, ?_, hW', ?_, ?_, ?_, ?_⟩
    · intro j p hp hj e he hb
      rw [set_getD _ _ _ (by omega)] at hj ⊢
      by_cases hji : j = i
      · subst hji
        rw [ho] at hp
        injection hp with hp
        subst hp
        rw [haf e he hb]; simp
      · rw [if_neg hji] at hj
        rw [hcl j p hp hj e he hb]; simp
    · cases o.dst <;> exact h3
    · cases hod : o.dst with
      | none => exact h4
      | some d => simp only [Act.put, Array.size_setIfInBounds]; exact h4
    · intro k hk
      cases hod : o.dst with
      | none => exact h5 k hk
      | some d =>
        have hdi : dstOf ops i = some d := by simp [dstOf, ho, hod]
        rw [getD_put _ _ _ _ (by have := (fine_spec hdf hlt hdi).1; omega), if_neg (fun e => hk i hlt (by rw [e]; exact hdi))]
        exact h5 k hk
    · intro j d hj hLj hdj
      rw [set_getD _ _ _ (by omega)] at hLj
      cases hod : o.dst with
      | none =>
        by_cases hji : j = i
        · subst hji
          have : dstOf ops j = none := by simp [dstOf, ho, hod]
          rw [this] at hdj
          cases hdj
        · rw [if_neg hji] at hLj
          exact h6 j d hj hLj hdj
      | some d' =>
        have hdi : dstOf ops i = some d' := by simp [dstOf, ho, hod]
        have hf := fine_spec hdf hlt hdi
        rw [getD_put _ _ _ _ (by omega)]
        by_cases hji : j = i
        · subst hji
          rw [hdi] at hdj
          injection hdj with hdj
          rw [if_pos hdj.symm]
        · rw [if_neg hji] at hLj
          rw [if_neg (fun e => hf.2 j hj hji (by rw [← e]; exact hdj))]
          exact h6 j d hj hLj hdj
  · rintro L a w ⟨h1, hcl, h2, h3, h4, h5, h6⟩ hr
    have hall := all_listed hah h1 hr
    exact done L a w hall h2 h3 h4 h5 fun i d hi hd => h6 i d hi (hall i hi) hd
  · refine ⟨by simp, ?_, hW0, rfl, rfl, fun _ _ => rfl, fun i d hi h => ?_⟩
    · intro j p hp hj
      rw [Array.getD_eq_getD_getElem?, Array.getElem?_replicate] at hj
      split at hj <;> simp at hj
    · rw [Array.getD_eq_getD_getElem?, Array.getElem?_replicate] at h
      simp [hi] at h
  · unfold left
    exact Nat.le_trans (List.countP_le_length) (by simp)
/-- two frames of one length that read alike are one -/
theorem arr_eq {x y : Array Value} (hs : x.size = y.size) (h : ∀ k, k < y.size → x.getD k undef = y.getD k undef) : x = y := by
  refine Array.ext hs fun i h1 h2 => ?_
  have := h i h2
  rwa [Array.getD_eq_getD_getElem?, Array.getD_eq_getD_getElem?, Array.getElem?_eq_getElem h1, Array.getElem?_eq_getElem h2] at this
end Go.Proofs.Ytlddogigbodilaa
namespace Go.Proofs.Ytlddogigbodilaa
open Go.RowKit Go.Shelf
namespace Vt
attribute [local go_sem] Oper.semAt_some
attribute [local go_sem ↓] append_hide
/-- the set that the loop keeps: all up to N, and the box of the bytes -/
def SC (N : Nat) (g : Nat) : Prop := g ≤ N ∨ g = N + 2
theorem sc_lt {N : Nat} {W : World} (h : N + 4 ≤ W.heap.size) : ∀ g, SC N g → g < W.heap.size := by
  intro g hg
  unfold SC at hg
  omega
abbrev JB8 := JK .u8 256 5
/-- between two rounds -/
def ClInv (N : Nat) (l : List Nat) (w4 : World) (pre : List Lc) (W : World) : Prop :=
  (∃ vc, Boxed W (N + 1) 22 vc ∧ JB8 W (N + 4) vc (cln l pre)) ∧ (cln l pre).length ≤ pre.length * l.length ∧ KeepS (SC N) w4 W
theorem clInv_own {β : Type} {N : Nat} {l : List Nat} {w4 : World} (f : β → List Lc) (hs : N + 4 = w4.heap.size) : OwnFrom w4.heap.size (fun s W => ClInv N l w4 (f s) W) := by
  intro s W W' row hs' hg hr
  obtain ⟨⟨ve, be, j⟩, hb, hS⟩ := hs'
  have hr' : ∀ r, row = some r → ∃ o : Obj, W.heap[r]? = some o ∧ o.isCells = false := fun r e => (hr r e).2
  exact ⟨⟨ve, Boxed.keptO be hg hr', j.kept hg hr'⟩, hb, hS.grown hg (sc_lt (by have := hS.size; omega)) (fun g e h => by have := (hr g e).1; unfold SC at h; omega)⟩
theorem ClInv.alloc {N : Nat} {l : List Nat} {w4 W : World} {pre : List Lc} (h : ClInv N l w4 pre W) (hs : N + 4 = w4.heap.size) (o : Obj) : ClInv N l w4 pre (W.alloc o) := by
  obtain ⟨⟨ve, be, j⟩, hb, hS⟩ := h
  exact ⟨⟨ve, be.alloc o, j.keepAll ((Below.refl _ _).alloc (Nat.le_refl _) o)⟩, hb, hS.alloc (sc_lt (by have := hS.size; omega)) o⟩
theorem locs_sum {l : List Nat} (hb : Byt l) : ∀ n, l.length ≤ n → ∀ at_, ((locs at_ l).map fun x => x.2.1).sum ≤ l.length := by
  intro n
  induction n generalizing l with
  | zero =>
    intro h at_
    obtain rfl : l = [] := List.length_eq_zero_iff.1 (by omega)
    simp [locs]
  | succ n ih =>
    intro h at_
    by_cases hne : l = []
    · subst hne; simp [locs]
    · have hlen : 1 ≤ l.length := by cases l with
        | nil => exact absurd rfl hne
        | cons x r => simp
      by_cases he : (dcd l).2.2 = 0
      · obtain ⟨_, _, e3, e4, _⟩ := en_dcd hb he
        have hp := en_pos (dcd l).1
        rw [locs_ok hb at_ he, List.map_cons, List.sum_cons]
        have := ih (l := l.drop (dcd l).2.1) (byt_drop hb _) (by rw [List.length_drop]; omega) (at_ + (dcd l).2.1)
        rw [List.length_drop] at this
        simp only
        omega
      · rw [locs_err he]
        have := ih (l := l.drop 1) (byt_drop hb _) (by rw [List.length_drop]; omega) (at_ + 1)
        rw [List.length_drop] at this
        omega
theorem keep2 {L : Array Bool} {i p q : Nat} (hi : i < L.size) (hp : p ≠ i) (hq : q ≠ i) (h1 : L.getD p false = false) (h2 : L.getD q false = false) {w' A B C : World} (hw : w' = A) :
    ((L.setIfInBounds i true).getD p false = false → (L.setIfInBounds i true).getD q false = false ∧ w' = A) ∧ ((L.setIfInBounds i true).getD p false = true → (L.setIfInBounds i true).getD q false = false → w' = B) ∧ ((L.setIfInBounds i true).getD q false = true → w' = C) := by
  rw [set_getD _ _ _ hi, set_getD _ _ _ hi, if_neg hp, if_neg hq, h1, h2]
  exact ⟨fun _ => ⟨rfl, hw⟩, fun h => (by cases h), fun h => (by cases h)⟩
theorem keep2b {L : Array Bool} {p q : Nat} (hi : p < L.size) (hq : q ≠ p) (h2 : L.getD q false = false) {w' A B C : World} (hw : w' = B) :
    ((L.setIfInBounds p true).getD p false = false → (L.setIfInBounds p true).getD q false = false ∧ w' = A) ∧ ((L.setIfInBounds p true).getD p false = true → (L.setIfInBounds p true).getD q false = false → w' = B) ∧ ((L.setIfInBounds p true).getD q false = true → w' = C) := by
  rw [set_getD _ _ _ hi, set_getD _ _ _ hi, if_pos rfl, if_neg hq, h2]
  exact ⟨fun h => (by cases h), fun _ _ => hw, fun h => (by cases h)⟩
theorem keep2c {L : Array Bool} {p q : Nat} (hi : q < L.size) (hq : p ≠ q) (h1 : L.getD p false = true) {w' A B C : World} (hw : w' = C) :
    ((L.setIfInBounds q true).getD p false = false → (L.setIfInBounds q true).getD q false = false ∧ w' = A) ∧ ((L.setIfInBounds q true).getD p false = true → (L.setIfInBounds q true).getD q false = false → w' = B) ∧ ((L.setIfInBounds q true).getD q false = true → w' = C) := by
  rw [set_getD _ _ _ hi, set_getD _ _ _ hi, if_neg hq, if_pos rfl, h1]
  exact ⟨fun h => (by cases h), fun _ h => (by cases h), fun _ => hw⟩
theorem step_k {F : Fence} {n : Nat} {P : Program} {o : Oper} {a : Act} {w w' : World} {Q : Exit → Act → World → Prop} {v : Value} {X : World → Prop} (hX : X w') (h : ∀ K : Act → World → Prop, K (a.put o.dst v) w' → o.wpIn F n P a w K Q) : o.wpIn F n P a w (fun a' w'' => a' = a.put o.dst v ∧ X w'') Q := h _ ⟨rfl, hX⟩
set_option maxRecDepth 100000 in
set_option maxHeartbeats 2000000 in
theorem clean_is (v : Value) (l : List Nat) (w : World) (hI : IsB w v l) (hl : l.length ≤ 10000000) :
    Calls Try.prog 23 #[v] w fun e w' => ∃ v', e = .returned v' ∧ JB w' w.heap.size v' (cln l (locs 0 l)) ∧ Below w.heap.size w w' := by
  obtain ⟨a, c, rfl⟩ := hI.shape
  have HI := hd hI
  clear hI
  refine (callsIn_wide (n := 8)).1 ?_
  refine callsIn_of_wp_marks Try.func23 rfl trivial (Code.wpIn_mono bodyPostF_M ?_) rfl
  simp only [Try.ntmps23, List.size_toArray, List.length_cons, List.length_nil, Nat.reduceAdd, Nat.reduceSub, Array.replicate_succ, Array.replicate_zero, List.push_toArray, List.append_toArray, List.nil_append, List.cons_append]
  gi_wp2
  refine ⟨trivial, CallsIn.mono (callsIn_wide.2 (located_is _ _ _ _ _)) ?_⟩
  rintro e w4 ⟨rfl, hw4⟩
  obtain ⟨N, hN⟩ : ∃ N, N = w.heap.size := ⟨_, rfl⟩
  have hs4 : w4.heap.size = N + 4 := by rw [hw4, hN]; simp
  have hB4 : Hid (Below w.heap.size w w4) := by rw [hw4]; exact ((((Below.refl _ _).alloc (Nat.le_refl _) _).alloc (by simp) _).alloc (by simp; omega) _).alloc (by simp; omega) _
  have BX4 : Hid (Boxed w4 N 22 (.slice a l.length c)) := by rw [hw4, hN]; exact (((Boxed.new w 22 _).alloc _).alloc _).alloc _
  have BE4 : Hid (Boxed w4 (N + 1) 22 (.slice none 0 0)) := by
    have := Boxed.new (w.alloc (.cells #[.slice a l.length c] 22)) 22 (.slice none 0 0)
    rw [World.size_alloc, ← hN] at this
    rw [hw4]; exact (this.alloc _).alloc _
  have BB4 : Hid (Boxed w4 (N + 2) 22 (.slice a l.length c)) := by
    have := Boxed.new ((w.alloc (.cells #[.slice a l.length c] 22)).alloc (.cells #[.slice none 0 0] 22)) 22 (.slice a l.length c)
    rw [World.size_alloc, World.size_alloc, ← hN] at this
    rw [hw4]; exact this.alloc _
  have BF4 : Hid (Boxed w4 (N + 3) 3 (.int .i64 0)) := by
    have := Boxed.new (((w.alloc (.cells #[.slice a l.length c] 22)).alloc (.cells #[.slice none 0 0] 22)).alloc (.cells #[.slice a l.length c] 22)) 3 (.int .i64 0)
    rw [World.size_alloc, World.size_alloc, World.size_alloc, ← hN] at this
    rw [hw4]; exact this
  simp only [World.size_alloc]
  rw [← hN] at hB4 ⊢
  have HN := hd hN
  have HIL : Hid (∀ b off c', l ≠ [] → Value.slice a l.length c = .slice (some ⟨b, off, none⟩) l.length c' → b < N) := fun b off c' hne e => by
    obtain ⟨_, _, ⟨rfl, _⟩ | ⟨nb, no, nc, e1, _, _, hnb, hnr⟩⟩ := HI.out
    · exact absurd rfl hne
    · rw [e] at e1; injection e1 with e1 e2 e3; injection e1 with e1; injection e1 with e1 e4; omega
  clear hw4 hN
  have hseq := located_stops 7 (by omega) l.length (SC N) (N + 1 + 1) (N + 1 + 1 + 1) (.slice a l.length c) 0 l w4 (Nat.le_refl _) (Or.inr rfl) (by omega) (by omega) (sc_lt (by omega)) BB4.out.cell BF4.out.cell (HI.out.below (HN.out ▸ hB4.out)) (fun b off c' hne e => Or.inl (by have := HIL.out b off c' hne e; omega))
  have hfrm : frm l.length 0 = 0 := by unfold frm; simp
  rw [hfrm, List.drop_zero] at hseq
  have HSQ := hd hseq
  clear hseq hfrm
  gi_wp2
  rename_i K hK
  have HK := hd hK
  clear hK
  refine wpIn_rangeFunc_ownH rfl (by omega) (gf := 76) (lb := #[.pointer (some ⟨N + 1 + 1, 0, none⟩), .pointer (some ⟨N + 1 + 1 + 1, 0, none⟩)]) rfl trivial (enters_of Try.func76 (by kernel_rfl) rfl) HSQ.out keepS_t (keepS_b (sc_lt (by omega))) (Below.refl _ _) (fun _ => rfl)
    (fun (pre : List (PL l.length)) (W : World) => ClInv N l w4 (pre.map Subtype.val) W)
    (fun _ _ _ => False)
    (clInv_own _ hs4.symm)
    (fun _ _ _ _ _ hs _ _ => hs)
    ⟨⟨_, BE4.out, jk_nil _ _⟩, by simp [cln], KeepS.refl _⟩
    (fun (x : PL l.length) a' W => ∃ Bx, N + 4 ≤ Bx ∧ Blk W Bx 53 (lcv x.1) ∧ a' = { tmps := #[Value.slice a l.length c, Value.pointer (some { block := N, off := 0 }), Value.slice none 0 0, Value.pointer (some { block := N + 1, off := 0 }), Value.pointer (some { block := Bx, off := 0 }), Value.slice a l.length c, Value.func (Fn.func 76) #[] #[Value.pointer (some { block := N + 1 + 1, off := 0 }), Value.pointer (some { block := N + 1 + 1 + 1, off := 0 })], .agg (lcv x.1).toArray, undef, undef, undef, undef, undef, undef, undef, undef, undef, undef, undef, undef], defers := [] })
    (fun x a' _ W W' row hs hg hr => by
      obtain ⟨Bx, h1, h2, h3⟩ := hs
      refine ⟨Bx, h1, h2.grown hg (fun e => ?_), h3⟩
      obtain ⟨o, ho, hc⟩ := (hr Bx e.symm).2
      have h2' : W.heap[Bx]? = _ := h2
      rw [h2'] at ho
      injection ho with ho
      rw [← ho] at hc
      cases hc)
    ?assign ?body ?done ?stop
  case assign =>
    rintro lk pre ⟨⟨x1, x2, k, ⟨rl, rk, rkey, rval⟩, ⟨pl, pk, pa, pn, pkey⟩, ⟨ec, eb, ef, es⟩⟩, hx⟩ W K hi hK
    simp only [encl, lcv]
    gi_wp2
    have hsW := hi.2.2.size
    exact hK _ _ ((KeepsOthers.alloc _ _).from _) ((KeepS.refl _).alloc (sc_lt (by omega)) _) (hi.alloc hs4.symm _) ⟨W.heap.size, by omega, Blk.new W 53 (lcv (x1, x2, ⟨k, ⟨rl, rk, rkey, rval⟩, ⟨pl, pk, pa, pn, pkey⟩, ⟨ec, eb, ef, es⟩⟩)), rfl⟩
  case body =>
    rintro lk pre ⟨⟨x1, x2, f⟩, hx⟩ a' W hlk _ ⟨⟨vc, be, j⟩, hb, hS⟩ ⟨Bx, hBx, hblk, rfl⟩ hlen
    have hxl : x1 + x2 ≤ l.length := hx.1
    have hx9 : 9 ≤ x2 := hx.2.1
    rw [List.length_map] at hb
    have HMP : Hid ((pre ++ [(⟨(x1, x2, f), hx⟩ : PL l.length)]).map Subtype.val = pre.map Subtype.val ++ [(x1, x2, f)]) := by
      show _ = _
      rw [List.map_append, List.map_singleton]
    have hpn : pre.length ≤ 10000000 := by omega
    have hpm : pre.length * l.length ≤ 10000000 * 10000000 := Nat.mul_le_mul hpn hl
    have hpm2 : pre.length * l.length + l.length = (pre.length + 1) * l.length := by rw [Nat.add_mul, Nat.one_mul]
    obtain ⟨vb, vo, vcap, rfl, hcap1, hcap2, hvb, hrow⟩ : ∃ vb vo vcap, a = some ⟨vb, vo, none⟩ ∧ l.length ≤ c ∧ c ≤ maxLen ∧ vb < N ∧ IsB W (.slice (some ⟨vb, vo, none⟩) l.length c) l ∧ vcap = 0 := by
      obtain ⟨h1, h2, ⟨rfl, _⟩ | ⟨nb, no, nc, e1, h3, h4, hnb, hnr⟩⟩ := HI.out
      · simp at hxl; omega
      · injection e1 with e1 e2 e3
        subst e1 e3
        refine ⟨nb, no, 0, rfl, h3, h4, by have := HN.out; omega, ?_, rfl⟩
        exact (HI.out.below (HN.out ▸ hB4.out)).keepS (S := SC N) (fun b off n c' e => by injection e with e e2 e3; injection e with e; injection e with e; have := HN.out; left; omega) hS
    obtain ⟨hrow, _⟩ := hrow
    obtain ⟨ca, cc, hvc, hcl⟩ := j.shape
    obtain ⟨CL, hCL⟩ : ∃ CL, CL = cln l (pre.map Subtype.val) := ⟨_, rfl⟩
    rw [← hCL] at j hb hvc hcl
    have HCL := hd hCL
    clear hCL
    subst hvc
    have hsub : IsB W (.slice (some ⟨vb, vo + x1, none⟩) x2 (c - x1)) ((l.drop x1).take x2) := by
      have h1 := hrow.drop x1 (by omega) (vo + x1) (l.length - x1) (c - x1) (fun _ => rfl) rfl rfl
      exact h1.take x2 (by rw [List.length_drop]; omega)
    have hsl : ((l.drop x1).take x2).length = x2 := by rw [List.length_take, List.length_drop]; omega
    obtain ⟨SB, hSB⟩ : ∃ SB, SB = (l.drop x1).take x2 := ⟨_, rfl⟩
    rw [← hSB] at hsub hsl
    have HSB := hd hSB
    clear hSB
    have hsW := hS.size
    obtain ⟨a2, c2, w2, hr2, j2, g2, k2⟩ := run_append_jk Try.underlying22 info_u8 22 W.drew (N + 4) (.slice ca CL.length cc) (.slice (some ⟨vb, vo + x1, none⟩) x2 (c - x1)) CL SB j.drew hsub (by omega) (by omega) (by show N + 4 ≤ W.heap.size; omega)
    rw [hsl] at hr2 j2 k2
    rw [append_hide] at hr2
    have be2 : Boxed w2 (N + 1) 22 (.slice ca CL.length cc) := Boxed.kept (W := W.drew) be g2 (JK.not_box (B := N + 1) (t := 22) (u := .slice ca CL.length cc) be (by decide) j.drew)
    have g2' : W.grownBy w2 (Value.slice ca CL.length cc).ownBlock := ⟨g2.os, g2.tape, g2.output, g2.size, g2.block⟩
    have hs2 : W.heap.size ≤ w2.heap.size := g2.size
    have HFIN : Hid (ClInv N l w4 ((pre ++ [(⟨(x1, x2, f), hx⟩ : PL l.length)]).map Subtype.val) (w2.setCell ⟨N + 1, 0, none⟩ (.slice a2 (CL.length + x2) c2)) ∧ KeepsOthers W (w2.setCell ⟨N + 1, 0, none⟩ (.slice a2 (CL.length + x2) c2)) ∧ KeepS (SC N) W (w2.setCell ⟨N + 1, 0, none⟩ (.slice a2 (CL.length + x2) c2))) := by
      have k1 : KeepS (SC N) W w2 := (KeepS.refl W).grown g2' (sc_lt (by omega)) (fun g e h => by have := j.blk_ge g e; unfold SC at h; omega)
      have k3 : KeepS (SC N) W (w2.setCell ⟨N + 1, 0, none⟩ (.slice a2 (CL.length + x2) c2)) := k1.setCell (p := ⟨N + 1, 0, none⟩) (fun h => by have h' : N + 1 ≤ N ∨ N + 1 = N + 2 := h; omega) _
      refine ⟨⟨⟨_, be2.set _, ?_⟩, ?_, hS.trans k3⟩, (others_row j g2').trans (KeepsOthers.setCell _ _ _), k3⟩
      · rw [HMP.out, cln_snoc, ← HCL.out, ← HSB.out]
        exact j2.setO (p := ⟨N + 1, 0, none⟩) (fun g hg => by have := j2.blk_ge g hg; show g ≠ N + 1; omega) _
      · rw [HMP.out, cln_snoc, ← HCL.out, ← HSB.out, List.length_append, List.length_append, List.length_map, hsl, List.length_singleton]
        omega
    have cE := be.cell
    have fE := be2.frozen
    have cE2 := be2.cell
    have cX : W.cell? ⟨N, 0, none⟩ = some (.slice (some ⟨vb, vo, none⟩) l.length c) := (boxed_keepS BX4.out (Or.inl (Nat.le_refl _)) hS).cell
    have c14 : W.cell? ⟨Bx, 14, none⟩ = some (.int .i64 (x1 : Int)) := hblk.cell 14 _ rfl
    have c15 : W.cell? ⟨Bx, 15, none⟩ = some (.int .i64 (x2 : Int)) := hblk.cell 15 _ rfl
    have hne : ¬ c = x1 := by omega
    have hmx : Try.prog.follows .mixedOrders = true := by kernel_rfl
    unfold maxLen at hcap2
    clear be j hS hblk j2 g2 g2' k2 be2 hsub hrow
    have i1 : (0 : Int) ≤ (x1 : Int) := by omega
    have i2 : (x1 : Int) ≤ (x1 : Int) + (x2 : Int) := by omega
    have i3 : (x1 : Int) + (x2 : Int) ≤ (c : Int) := by omega
    have i4 : IntKind.i64.wrap ((x1 : Int) + (x2 : Int)) = (x1 : Int) + (x2 : Int) := by rw [IntKind.wrap_i64]; omega
    gi_wp2
    refine region_det (fun i => match i with
      | 0 => .slice ca CL.length cc
      | 1 => .slice (some ⟨vb, vo, none⟩) l.length c
      | 2 => .pointer (some ⟨Bx, 14, none⟩)
      | 3 => .int .i64 (x1 : Int)
      | 4 => .pointer (some ⟨Bx, 14, none⟩)
      | 5 => .int .i64 (x1 : Int)
      | 6 => .pointer (some ⟨Bx, 15, none⟩)
      | 7 => .int .i64 (x2 : Int)
      | 8 => .int .i64 ((x1 : Int) + (x2 : Int))
      | 9 => .slice (some ⟨vb, vo + x1, none⟩) x2 (c - x1)
      | 10 => .slice a2 (CL.length + x2) c2
      | _ => undef)
      (fun L w => (L.getD 10 false = false → L.getD 11 false = false ∧ w = W.drew) ∧ (L.getD 10 false = true → L.getD 11 false = false → w = w2) ∧ (L.getD 11 false = true → w = w2.setCell ⟨N + 1, 0, none⟩ (.slice a2 (CL.length + x2) c2)))
      hmx (by kernel_rfl) (by kernel_rfl) (by kernel_rfl) ⟨fun _ => ⟨rfl, rfl⟩, fun h => (by cases h), fun h => (by cases h)⟩ ?_ ?_
    · intro i o ho L a w hsz hLi hcl hW hout haf hon
      have e1 : a.tmps.getD 1 undef = .pointer (some ⟨N, 0, none⟩) := hout 1 (notDst_spec (by kernel_rfl))
      have e3 : a.tmps.getD 3 undef = .pointer (some ⟨N + 1, 0, none⟩) := hout 3 (notDst_spec (by kernel_rfl))
      have e4 : a.tmps.getD 4 undef = .pointer (some ⟨Bx, 0, none⟩) := hout 4 (notDst_spec (by kernel_rfl))
      have hsz2 : L.size = 12 := hsz
      clear hout
      match i, ho, hLi, haf, hon with
      | 0, ho, hLi, haf, hon =>
        obtain rfl := Option.some.inj ho
        have h10 : L.getD 10 false = false := by
          cases h : L.getD 10 false with
          | false => rfl
          | true =>
            exfalso
            have t0 := hcl 10 _ rfl h ⟨0, .data⟩ (by simp) rfl
            simp only at t0
            rw [hLi] at t0; cases t0
        obtain ⟨h11, rfl⟩ := hW.1 h10
        have eb' := getq e3
        have hfin := fun w' (hw' : w' = W.drew) => keep2 (L := L) (i := 0) (p := 10) (q := 11) (B := w2) (C := w2.setCell ⟨N + 1, 0, none⟩ (.slice a2 (CL.length + x2) c2)) (by omega) (by decide) (by decide) h10 h11 hw'
        clear haf hon hcl hW ho
        refine step_k (hfin _ rfl) fun K hK => ?_
        simp only [List.getElem_toArray, List.getElem_cons_zero] at hK ⊢
        clear hfin
        go_simp
        exact hK
      | 1, ho, hLi, haf, hon =>
        obtain rfl := Option.some.inj ho
        have h10 : L.getD 10 false = false := by
          cases h : L.getD 10 false with
          | false => rfl
          | true =>
            exfalso
            have t0 := hcl 10 _ rfl h ⟨9, .data⟩ (by simp) rfl
            have t1 := hcl 9 _ rfl t0 ⟨1, .data⟩ (by simp) rfl
            simp only at t1
            rw [hLi] at t1; cases t1
        obtain ⟨h11, rfl⟩ := hW.1 h10
        have eb' := getq e1
        have hfin := fun w' (hw' : w' = W.drew) => keep2 (L := L) (i := 1) (p := 10) (q := 11) (B := w2) (C := w2.setCell ⟨N + 1, 0, none⟩ (.slice a2 (CL.length + x2) c2)) (by omega) (by decide) (by decide) h10 h11 hw'
        clear haf hon hcl hW ho
        refine step_k (hfin _ rfl) fun K hK => ?_
        simp only [List.getElem_toArray, List.getElem_cons_succ, List.getElem_cons_zero] at hK ⊢
        clear hfin
        go_simp
        exact hK
      | 2, ho, hLi, haf, hon =>
        obtain rfl := Option.some.inj ho
        have h10 : L.getD 10 false = false := by
          cases h : L.getD 10 false with
          | false => rfl
          | true =>
            exfalso
            have t0 := hcl 10 _ rfl h ⟨9, .data⟩ (by simp) rfl
            have t1 := hcl 9 _ rfl t0 ⟨3, .data⟩ (by simp) rfl
            have t2 := hcl 3 _ rfl t1 ⟨2, .data⟩ (by simp) rfl
            simp only at t2
            rw [hLi] at t2; cases t2
        obtain ⟨h11, rfl⟩ := hW.1 h10
        have eb' := getq e4
        have hfin := fun w' (hw' : w' = W.drew) => keep2 (L := L) (i := 2) (p := 10) (q := 11) (B := w2) (C := w2.setCell ⟨N + 1, 0, none⟩ (.slice a2 (CL.length + x2) c2)) (by omega) (by decide) (by decide) h10 h11 hw'
        clear haf hon hcl hW ho
        refine step_k (hfin _ rfl) fun K hK => ?_
        simp only [List.getElem_toArray, List.getElem_cons_succ, List.getElem_cons_zero] at hK ⊢
        clear hfin
        go_simp
        exact hK
      | 3, ho, hLi, haf, hon =>
        obtain rfl := Option.some.inj ho
        have h10 : L.getD 10 false = false := by
          cases h : L.getD 10 false with
          | false => rfl
          | true =>
            exfalso
            have t0 := hcl 10 _ rfl h ⟨9, .data⟩ (by simp) rfl
            have t1 := hcl 9 _ rfl t0 ⟨3, .data⟩ (by simp) rfl
            simp only at t1
            rw [hLi] at t1; cases t1
        obtain ⟨h11, rfl⟩ := hW.1 h10
        have f2 : a.tmps.getD 10 undef = .pointer (some ⟨Bx, 14, none⟩) := haf ⟨2, .data⟩ (by simp) rfl 10 rfl
        have f2' := getq f2
        have hfin := fun w' (hw' : w' = W.drew) => keep2 (L := L) (i := 3) (p := 10) (q := 11) (B := w2) (C := w2.setCell ⟨N + 1, 0, none⟩ (.slice a2 (CL.length + x2) c2)) (by omega) (by decide) (by decide) h10 h11 hw'
        clear haf hon hcl hW ho
        refine step_k (hfin _ rfl) fun K hK => ?_
        simp only [List.getElem_toArray, List.getElem_cons_succ, List.getElem_cons_zero] at hK ⊢
        clear hfin
        go_simp
        exact hK
      | 4, ho, hLi, haf, hon =>
        obtain rfl := Option.some.inj ho
        have h10 : L.getD 10 false = false := by
          cases h : L.getD 10 false with
          | false => rfl
          | true =>
            exfalso
            have t0 := hcl 10 _ rfl h ⟨9, .data⟩ (by simp) rfl
            have t1 := hcl 9 _ rfl t0 ⟨8, .data⟩ (by simp) rfl
            have t2 := hcl 8 _ rfl t1 ⟨5, .data⟩ (by simp) rfl
            have t3 := hcl 5 _ rfl t2 ⟨4, .data⟩ (by simp) rfl
            simp only at t3
            rw [hLi] at t3; cases t3
        obtain ⟨h11, rfl⟩ := hW.1 h10
        have eb' := getq e4
        have hfin := fun w' (hw' : w' = W.drew) => keep2 (L := L) (i := 4) (p := 10) (q := 11) (B := w2) (C := w2.setCell ⟨N + 1, 0, none⟩ (.slice a2 (CL.length + x2) c2)) (by omega) (by decide) (by decide) h10 h11 hw'
        clear haf hon hcl hW ho
        refine step_k (hfin _ rfl) fun K hK => ?_
        simp only [List.getElem_toArray, List.getElem_cons_succ, List.getElem_cons_zero] at hK ⊢
        clear hfin
        go_simp
        exact hK
      | 5, ho, hLi, haf, hon =>
        obtain rfl := Option.some.inj ho
        have h10 : L.getD 10 false = false := by
          cases h : L.getD 10 false with
          | false => rfl
          | true =>
            exfalso
            have t0 := hcl 10 _ rfl h ⟨9, .data⟩ (by simp) rfl
            have t1 := hcl 9 _ rfl t0 ⟨8, .data⟩ (by simp) rfl
            have t2 := hcl 8 _ rfl t1 ⟨5, .data⟩ (by simp) rfl
            simp only at t2
            rw [hLi] at t2; cases t2
        obtain ⟨h11, rfl⟩ := hW.1 h10
        have f4 : a.tmps.getD 12 undef = .pointer (some ⟨Bx, 14, none⟩) := haf ⟨4, .data⟩ (by simp) rfl 12 rfl
        have f4' := getq f4
        have hfin := fun w' (hw' : w' = W.drew) => keep2 (L := L) (i := 5) (p := 10) (q := 11) (B := w2) (C := w2.setCell ⟨N + 1, 0, none⟩ (.slice a2 (CL.length + x2) c2)) (by omega) (by decide) (by decide) h10 h11 hw'
        clear haf hon hcl hW ho
        refine step_k (hfin _ rfl) fun K hK => ?_
        simp only [List.getElem_toArray, List.getElem_cons_succ, List.getElem_cons_zero] at hK ⊢
        clear hfin
        go_simp
        exact hK
      | 6, ho, hLi, haf, hon =>
        obtain rfl := Option.some.inj ho
        have h10 : L.getD 10 false = false := by
          cases h : L.getD 10 false with
          | false => rfl
          | true =>
            exfalso
            have t0 := hcl 10 _ rfl h ⟨9, .data⟩ (by simp) rfl
            have t1 := hcl 9 _ rfl t0 ⟨8, .data⟩ (by simp) rfl
            have t2 := hcl 8 _ rfl t1 ⟨7, .data⟩ (by simp) rfl
            have t3 := hcl 7 _ rfl t2 ⟨6, .data⟩ (by simp) rfl
            simp only at t3
            rw [hLi] at t3; cases t3
        obtain ⟨h11, rfl⟩ := hW.1 h10
        have eb' := getq e4
        have hfin := fun w' (hw' : w' = W.drew) => keep2 (L := L) (i := 6) (p := 10) (q := 11) (B := w2) (C := w2.setCell ⟨N + 1, 0, none⟩ (.slice a2 (CL.length + x2) c2)) (by omega) (by decide) (by decide) h10 h11 hw'
        clear haf hon hcl hW ho
        refine step_k (hfin _ rfl) fun K hK => ?_
        simp only [List.getElem_toArray, List.getElem_cons_succ, List.getElem_cons_zero] at hK ⊢
        clear hfin
        go_simp
        exact hK
      | 7, ho, hLi, haf, hon =>
        obtain rfl := Option.some.inj ho
        have h10 : L.getD 10 false = false := by
          cases h : L.getD 10 false with
          | false => rfl
          | true =>
            exfalso
            have t0 := hcl 10 _ rfl h ⟨9, .data⟩ (by simp) rfl
            have t1 := hcl 9 _ rfl t0 ⟨8, .data⟩ (by simp) rfl
            have t2 := hcl 8 _ rfl t1 ⟨7, .data⟩ (by simp) rfl
            simp only at t2
            rw [hLi] at t2; cases t2
        obtain ⟨h11, rfl⟩ := hW.1 h10
        have f6 : a.tmps.getD 14 undef = .pointer (some ⟨Bx, 15, none⟩) := haf ⟨6, .data⟩ (by simp) rfl 14 rfl
        have f6' := getq f6
        have hfin := fun w' (hw' : w' = W.drew) => keep2 (L := L) (i := 7) (p := 10) (q := 11) (B := w2) (C := w2.setCell ⟨N + 1, 0, none⟩ (.slice a2 (CL.length + x2) c2)) (by omega) (by decide) (by decide) h10 h11 hw'
        clear haf hon hcl hW ho
        refine step_k (hfin _ rfl) fun K hK => ?_
        simp only [List.getElem_toArray, List.getElem_cons_succ, List.getElem_cons_zero] at hK ⊢
        clear hfin
        go_simp
        exact hK
      | 8, ho, hLi, haf, hon =>
        obtain rfl := Option.some.inj ho
        have h10 : L.getD 10 false = false := by
          cases h : L.getD 10 false with
          | false => rfl
          | true =>
            exfalso
            have t0 := hcl 10 _ rfl h ⟨9, .data⟩ (by simp) rfl
            have t1 := hcl 9 _ rfl t0 ⟨8, .data⟩ (by simp) rfl
            simp only at t1
            rw [hLi] at t1; cases t1
        obtain ⟨h11, rfl⟩ := hW.1 h10
        have f5 : a.tmps.getD 13 undef = .int .i64 (x1 : Int) := haf ⟨5, .data⟩ (by simp) rfl 13 rfl
        have f5' := getq f5
        have f7 : a.tmps.getD 15 undef = .int .i64 (x2 : Int) := haf ⟨7, .data⟩ (by simp) rfl 15 rfl
        have f7' := getq f7
        have hfin := fun w' (hw' : w' = W.drew) => keep2 (L := L) (i := 8) (p := 10) (q := 11) (B := w2) (C := w2.setCell ⟨N + 1, 0, none⟩ (.slice a2 (CL.length + x2) c2)) (by omega) (by decide) (by decide) h10 h11 hw'
        clear haf hon hcl hW ho
        refine step_k (hfin _ rfl) fun K hK => ?_
        simp only [List.getElem_toArray, List.getElem_cons_succ, List.getElem_cons_zero] at hK ⊢
        clear hfin
        go_simp
        exact hK
      | 9, ho, hLi, haf, hon =>
        obtain rfl := Option.some.inj ho
        have h10 : L.getD 10 false = false := by
          cases h : L.getD 10 false with
          | false => rfl
          | true =>
            exfalso
            have t0 := hcl 10 _ rfl h ⟨9, .data⟩ (by simp) rfl
            simp only at t0
            rw [hLi] at t0; cases t0
        obtain ⟨h11, rfl⟩ := hW.1 h10
        have f1 : a.tmps.getD 9 undef = .slice (some ⟨vb, vo, none⟩) l.length c := haf ⟨1, .data⟩ (by simp) rfl 9 rfl
        have f1' := getq f1
        have f3 : a.tmps.getD 11 undef = .int .i64 (x1 : Int) := haf ⟨3, .data⟩ (by simp) rfl 11 rfl
        have f3' := getq f3
        have f8 : a.tmps.getD 16 undef = .int .i64 ((x1 : Int) + (x2 : Int)) := haf ⟨8, .data⟩ (by simp) rfl 16 rfl
        have f8' := getq f8
        have hfin := fun w' (hw' : w' = W.drew) => keep2 (L := L) (i := 9) (p := 10) (q := 11) (B := w2) (C := w2.setCell ⟨N + 1, 0, none⟩ (.slice a2 (CL.length + x2) c2)) (by omega) (by decide) (by decide) h10 h11 hw'
        clear haf hon hcl hW ho
        refine step_k (hfin _ rfl) fun K hK => ?_
        simp only [List.getElem_toArray, List.getElem_cons_succ, List.getElem_cons_zero] at hK ⊢
        clear hfin
        go_simp
        rw [show ((x1 : Int) + (x2 : Int)).toNat - x1 = x2 by omega]
        exact hK
      | 10, ho, hLi, haf, hon =>
        obtain rfl := Option.some.inj ho
        have f0 : a.tmps.getD 8 undef = .slice ca CL.length cc := haf ⟨0, .data⟩ (by simp) rfl 8 rfl
        have f0' := getq f0
        have f9 : a.tmps.getD 17 undef = .slice (some ⟨vb, vo + x1, none⟩) x2 (c - x1) := haf ⟨9, .data⟩ (by simp) rfl 17 rfl
        have f9' := getq f9
        obtain ⟨h11, rfl⟩ := hW.1 hLi
        have hfin := fun w' (hw' : w' = w2) => keep2b (L := L) (p := 10) (q := 11) (A := W.drew) (C := w2.setCell ⟨N + 1, 0, none⟩ (.slice a2 (CL.length + x2) c2)) (by omega) (by decide) h11 hw'
        clear haf hon hcl hW ho
        refine step_k (hfin _ rfl) fun K hK => ?_
        simp only [List.getElem_toArray, List.getElem_cons_succ, List.getElem_cons_zero] at hK ⊢
        clear hfin
        go_simp
        exact hK
      | 11, ho, hLi, haf, hon =>
        obtain rfl := Option.some.inj ho
        have f10 : a.tmps.getD 18 undef = .slice a2 (CL.length + x2) c2 := haf ⟨10, .data⟩ (by simp) rfl 18 rfl
        have f10' := getq f10
        have eb' := getq e3
        have h10 : L.getD 10 false = true := hon ⟨10, .data⟩ (by simp) rfl
        obtain rfl := hW.2.1 h10 hLi
        have hfin := fun w' (hw' : w' = w.setCell ⟨N + 1, 0, none⟩ (.slice a2 (CL.length + x2) c2)) => keep2c (L := L) (p := 10) (q := 11) (A := W.drew) (B := w) (by omega) (by decide) h10 hw'
        clear haf hon hcl hW ho
        refine step_k (hfin _ rfl) fun K hK => ?_
        simp only [List.getElem_toArray, List.getElem_cons_succ, List.getElem_cons_zero] at hK ⊢
        clear hfin
        go_simp
        exact hK
      | n + 12, ho, _, _, _ => simp at ho
    · intro L a w hall hW hdf hsz hout hval
      obtain rfl := hW.2.2 (hall 11 (by decide))
      exact ⟨HFIN.out.2.1.from _, HFIN.out.2.2, HFIN.out.1⟩
  case done =>
    rintro D ys V hD hys ⟨⟨ve, be, j⟩, hb, hS⟩ hKD
    gi_wp2
    refine HK.out _ _ ?_
    clear HK
    rw [hys] at j
    have cE := be.cell
    have HJ := hd j
    have HS := hd hS
    have HKD := hd hKD
    clear be j hS hys hKD hb
    gi_wp2
    refine ⟨by simp, .inl ⟨_, _, rfl, run_takeDeferred HKD.out, ?_⟩⟩
    have hN' := HN.out
    refine ⟨_, results_tmp rfl _ _ _, ve, rfl, ?_, ?_⟩
    · obtain ⟨q1, q2, q3⟩ := HJ.out.kept (grownBy_putObj' V D (.deferred none)) (fun r e => by cases e; exact ⟨_, HKD.out, rfl⟩)
      refine ⟨q1, q2, ?_⟩
      rcases q3 with q3 | ⟨g, cap, cur, e1, e2, e3⟩
      · exact .inl q3
      · exact .inr ⟨g, cap, cur, e1, by omega, e3⟩
    · rw [← hN']
      have b1 : Below N w V := hB4.out.trans (HS.out.below (fun g hg => Or.inl (by omega)))
      exact b1.trans (belowK_b (w := w) (by omega) V D _ _ (by have := hB4.out.size; omega) HKD.out rfl rfl)
  case stop =>
    rintro D c2 pre W hD hp h hK
    exact h.elim
end Vt
end Go.Proofs.Ytlddogigbodilaa
namespace Go.Proofs.Ytlddogigbodilaa
open Go.RowKit Go.Shelf
namespace Vt
def exv (x : Ex) : List Value := [.bool x.1, .int .i64 x.2.1, .int .i64 x.2.2]
abbrev JE := JR 84 3
theorem info_ex : (Try.prog.info? 84).map (fun i => (i.zero, i.size, i.bytes)) = some (some (.agg #[.bool false, .int .i64 0, .int .i64 0]), 3, 24) := by kernel_rfl
theorem exv_one (x : Ex) : ∀ u ∈ exv x, u.oneCell' = true := by
  intro u hu
  simp only [exv, List.mem_cons, List.mem_nil_iff, or_false] at hu
  rcases hu with rfl | rfl | rfl <;> rfl
set_option maxRecDepth 100000 in
set_option maxHeartbeats 800000 in
theorem junk_is (v : Value) (l : List Ex) (a b : Nat) (w : World) (base : Nat) (hJ : JE w base v (l.map exv)) (ha : a ≤ 4611686018427387904) (hb : b ≤ 4611686018427387904) (hl : l.length + 1 ≤ 1000000000) (hbase : base ≤ w.heap.size) :
    Calls Try.prog 51 #[v, .int .i64 (a : Int), .int .i64 (b : Int)] w fun e w' => ∃ v', e = .returned v' ∧ JE w' base v' ((l ++ jk1 a b).map exv) ∧ w.grownBy w' v.ownBlock ∧ (∀ g, v'.ownBlock = some g → v.ownBlock = some g ∨ w.heap.size ≤ g) := by
  obtain ⟨va, vc, rfl, hvc⟩ := hJ.shape
  have HJ := hd hJ
  clear hJ
  rw [List.length_map] at hvc HJ ⊢
  by_cases hab : a = b
  · subst hab
    have hjk : jk1 a a = [] := by unfold jk1; rw [if_pos rfl]
    have HK := hd hjk
    clear hjk
    go_enter Try.func51, Try.ntmps51
    go_wp2_with fail
    go_ret
    exact ⟨_, rfl, by rw [HK.out, List.append_nil]; exact HJ.out, World.grownBy.refl _ _, fun g hg => .inl hg⟩
  · have hjk : jk1 a b = [(true, (a : Int), (b : Int) - (a : Int))] := by unfold jk1; rw [if_neg hab]
    have HK := hd hjk
    have hne : ((a : Int) == (b : Int)) = false := by rw [beq_eq_false_iff_ne]; omega
    clear hjk
    go_enter Try.func51, Try.ntmps51
    go_wp2_with (at_builtin; refine wpList_append_jr Try.underlying60 info_ex rfl (by decide) _ rfl _ _ rfl base (.slice va l.length vc) (l.map exv) w.heap.size 1 [.bool true, .int .i64 (a : Int), .int .i64 ((b : Int) - (a : Int))] rfl rfl (HJ.out.alloc _) rfl (exv_one (true, (a : Int), (b : Int) - (a : Int))) (fun j u hu => cell_lit w _ _ j u _ rfl hu) (l.length + 1) (by rw [List.length_map]) (by omega) (by unfold maxLen; omega) (by rw [World.size_alloc]; omega) ?_; intro g2 c2 w2 hj2 hg2 hw2)
    go_ret
    refine ⟨_, rfl, ?_, grown_alloc hg2, fun g hg => ?_⟩
    · rw [HK.out, List.map_append]; exact hj2
    · cases hg
      rcases hw2 with h | h
      · exact .inl h
      · rw [World.size_alloc] at h; exact .inr (by show _ ≤ g2; omega)
end Vt
end Go.Proofs.Ytlddogigbodilaa
namespace Go.Proofs.Ytlddogigbodilaa
open Go.RowKit Go.Shelf
namespace Vt
attribute [local go_sem] Oper.semAt_some
/-- between two rounds -/
def ExInv (N B : Nat) (w4 : World) (pre : List Lc) (W : World) : Prop :=
  (∃ ve, Boxed W N 60 ve ∧ Boxed W (N + 1) 3 (.int .i64 (((exF pre).2 : Nat) : Int)) ∧ JE W (N + 4) ve ((exF pre).1.map exv)) ∧ (exF pre).2 ≤ B ∧ KeepS (SE N) w4 W
theorem exInv_own {β : Type} {N B : Nat} {w4 : World} (f : β → List Lc) (hs : N + 4 = w4.heap.size) : OwnFrom w4.heap.size (fun s W => ExInv N B w4 (f s) W) := by
  intro s W W' row hs' hg hr
  obtain ⟨⟨ve, be, bn, j⟩, hb, hS⟩ := hs'
  have hr' : ∀ r, row = some r → ∃ o : Obj, W.heap[r]? = some o ∧ o.isCells = false := fun r e => (hr r e).2
  exact ⟨⟨ve, Boxed.keptO be hg hr', Boxed.keptO bn hg hr', j.kept hg hr'⟩, hb, hS.grown hg (se_lt (by have := hS.size; omega)) (fun g e h => by have := (hr g e).1; unfold SE at h; omega)⟩
theorem ExInv.alloc {N B : Nat} {w4 W : World} {pre : List Lc} (h : ExInv N B w4 pre W) (hs : N + 4 = w4.heap.size) (o : Obj) : ExInv N B w4 pre (W.alloc o) := by
  obtain ⟨⟨ve, be, bn, j⟩, hb, hS⟩ := h
  exact ⟨⟨ve, be.alloc o, bn.alloc o, j.alloc o⟩, hb, hS.alloc (se_lt (by have := hS.size; omega)) o⟩
/-- the world behind a round -/
theorem ext_step {N B : Nat} {w4 W w2 w3 : World} {pre : List Lc} {ve v2 v3 : Value} {o : Obj} {x : Lc} {L2 : List (List Value)} {e e' : Int} (hs : N + 4 = w4.heap.size)
    (be : Boxed W N 60 ve) (bn : Boxed W (N + 1) 3 (.int .i64 e)) {L : List (List Value)} (j : JE W (N + 4) ve L) (hS : KeepS (SE N) w4 W)
    (g2 : W.grownBy w2 ve.ownBlock) (j2 : JE w2 (N + 4) v2 L2) (g3 : ((w2.setCell ⟨N, 0, none⟩ v2).alloc o).grownBy w3 v2.ownBlock) (j3 : JE w3 (N + 4) v3 ((exF (pre ++ [x])).1.map exv)) (he : e' = (((exF (pre ++ [x])).2 : Nat) : Int)) (heB : (exF (pre ++ [x])).2 ≤ B) :
    KeepsOthers W ((w3.setCell ⟨N, 0, none⟩ v3).setCell ⟨N + 1, 0, none⟩ (.int .i64 e')) ∧ KeepS (SE N) W ((w3.setCell ⟨N, 0, none⟩ v3).setCell ⟨N + 1, 0, none⟩ (.int .i64 e')) ∧ ExInv N B w4 (pre ++ [x]) ((w3.setCell ⟨N, 0, none⟩ v3).setCell ⟨N + 1, 0, none⟩ (.int .i64 e')) := by
  subst he
  have hsW := hS.size
  have hs2 := g2.size
  have hsc : (w2.setCell ⟨N, 0, none⟩ v2).heap.size = w2.heap.size := by simp [World.setCell]
  have hs3 := g3.size
  rw [World.size_alloc, hsc] at hs3
  have nE : ∀ g, ve.ownBlock = some g → N + 4 ≤ g := j.blk_ge
  have n2 : ∀ g, v2.ownBlock = some g → N + 4 ≤ g := j2.blk_ge
  have n3 : ∀ g, v3.ownBlock = some g → N + 4 ≤ g := j3.blk_ge
  have be2 := Boxed.grownJ be j (by decide) g2
  have bn2 := Boxed.grownJ bn j (by decide) g2
  have j2s : JE (w2.setCell ⟨N, 0, none⟩ v2) (N + 4) v2 L2 := j2.setO (p := ⟨N, 0, none⟩) (fun g hg => by have := n2 g hg; show g ≠ N; omega) _
  have bn2s : Boxed (w2.setCell ⟨N, 0, none⟩ v2) (N + 1) 3 (.int .i64 e) := bn2.other (by omega) _
  have be2s : Boxed (w2.setCell ⟨N, 0, none⟩ v2) N 60 v2 := be2.set _
  have be3 := Boxed.grownJ (be2s.alloc o) (j2s.alloc o) (by decide) g3
  have bn3 := Boxed.grownJ (bn2s.alloc o) (j2s.alloc o) (by decide) g3
  have k1 : KeepS (SE N) W w2 := (KeepS.refl W).grown g2 (se_lt (by omega)) (fun g e h => by have := nE g e; unfold SE at h; omega)
  have k2 : KeepS (SE N) W (w2.setCell ⟨N, 0, none⟩ v2) := k1.setCell (p := ⟨N, 0, none⟩) (fun h => by have h' : N < N ∨ N = N + 2 := h; omega) _
  have k3 : KeepS (SE N) W w3 := (k2.alloc (se_lt (by rw [hsc]; omega)) o).grown g3 (se_lt (by rw [World.size_alloc, hsc]; omega)) (fun g e h => by have := n2 g e; unfold SE at h; omega)
  have k4 : KeepS (SE N) W (w3.setCell ⟨N, 0, none⟩ v3) := k3.setCell (p := ⟨N, 0, none⟩) (fun h => by have h' : N < N ∨ N = N + 2 := h; omega) _
  have k5 : KeepS (SE N) W ((w3.setCell ⟨N, 0, none⟩ v3).setCell ⟨N + 1, 0, none⟩ (.int .i64 (((exF (pre ++ [x])).2 : Nat) : Int))) := k4.setCell (p := ⟨N + 1, 0, none⟩) (fun h => by have h' : N + 1 < N ∨ N + 1 = N + 2 := h; omega) _
  refine ⟨?_, k5, ⟨v3, ?_, ?_, ?_⟩, heB, hS.trans k5⟩
  · exact (j.others g2).trans ((KeepsOthers.setCell _ _ _).trans ((KeepsOthers.alloc _ o).trans (((j2s.alloc o).others g3).trans ((KeepsOthers.setCell _ _ _).trans (KeepsOthers.setCell _ _ _)))))
  · exact (be3.set v3).other (by omega) _
  · exact (bn3.other (by omega) _).set _
  · exact (j3.setO (p := ⟨N, 0, none⟩) (fun g hg => by have := n3 g hg; show g ≠ N; omega) _).setO (p := ⟨N + 1, 0, none⟩) (fun g hg => by have := n3 g hg; show g ≠ N + 1; omega) _
set_option maxRecDepth 100000 in
set_option maxHeartbeats 2000000 in
theorem extents_is (v : Value) (l : List Nat) (w : World) (hI : IsB w v l) (hl : l.length ≤ 16777216) :
    Calls Try.prog 18 #[v] w fun e w' => ∃ v', e = .returned v' ∧ JE w' w.heap.size v' ((exts l).map exv) ∧ Below w.heap.size w w' := by
  obtain ⟨a, c, rfl⟩ := hI.shape
  have HI := hd hI
  clear hI
  refine (callsIn_wide (n := 8)).1 ?_
  refine callsIn_of_wp_marks Try.func18 rfl trivial (Code.wpIn_mono bodyPostF_M ?_) rfl
  simp only [Try.ntmps18, List.size_toArray, List.length_cons, List.length_nil, Nat.reduceAdd, Nat.reduceSub, Array.replicate_succ, Array.replicate_zero, List.push_toArray, List.append_toArray, List.nil_append, List.cons_append]
  gi_wp2
  refine ⟨trivial, CallsIn.mono (callsIn_wide.2 (located_is _ _ _ _ _)) ?_⟩
  rintro e w4 ⟨rfl, hw4⟩
  obtain ⟨N, hN⟩ : ∃ N, N = w.heap.size := ⟨_, rfl⟩
  have hs4 : w4.heap.size = N + 4 := by rw [hw4, hN]; simp
  have hB4 : Hid (Below w.heap.size w w4) := by rw [hw4]; exact ((((Below.refl _ _).alloc (Nat.le_refl _) _).alloc (by simp) _).alloc (by simp; omega) _).alloc (by simp; omega) _
  have BE4 : Hid (Boxed w4 N 60 (.slice none 0 0)) := by rw [hw4, hN]; exact (((Boxed.new w 60 _).alloc _).alloc _).alloc _
  have BN4 : Hid (Boxed w4 (N + 1) 3 (.int .i64 0)) := by
    have := Boxed.new (w.alloc (.cells #[.slice none 0 0] 60)) 3 (.int .i64 0)
    rw [World.size_alloc, ← hN] at this
    rw [hw4]; exact (this.alloc _).alloc _
  have BB4 : Hid (Boxed w4 (N + 2) 22 (.slice a l.length c)) := by
    have := Boxed.new ((w.alloc (.cells #[.slice none 0 0] 60)).alloc (.cells #[.int .i64 0] 3)) 22 (.slice a l.length c)
    rw [World.size_alloc, World.size_alloc, ← hN] at this
    rw [hw4]; exact this.alloc _
  have BF4 : Hid (Boxed w4 (N + 3) 3 (.int .i64 0)) := by
    have := Boxed.new (((w.alloc (.cells #[.slice none 0 0] 60)).alloc (.cells #[.int .i64 0] 3)).alloc (.cells #[.slice a l.length c] 22)) 3 (.int .i64 0)
    rw [World.size_alloc, World.size_alloc, World.size_alloc, ← hN] at this
    rw [hw4]; exact this
  simp only [World.size_alloc]
  rw [← hN] at hB4 ⊢
  have HN := hd hN
  clear hw4 hN
  have hseq := located_stops 7 (by omega) l.length (SE N) (N + 1 + 1) (N + 1 + 1 + 1) (.slice a l.length c) 0 l w4 (Nat.le_refl _) (Or.inr rfl) (by omega) (by omega) (se_lt (by omega)) BB4.out.cell BF4.out.cell (HI.out.below (HN.out ▸ hB4.out)) (fun b off c' hne e => by
    obtain ⟨_, _, ⟨rfl, _⟩ | ⟨nb, no, nc, e1, _, _, hnb, hnr⟩⟩ := HI.out
    · exact absurd rfl hne
    · rw [e] at e1; injection e1 with e1 e2 e3; injection e1 with e1; injection e1 with e1 e4; have := HN.out; left; omega)
  have hfrm : frm l.length 0 = 0 := by unfold frm; simp
  rw [hfrm, List.drop_zero] at hseq
  have HSQ := hd hseq
  clear hseq hfrm
  gi_wp2
  rename_i K hK
  have HK := hd hK
  clear hK
  refine wpIn_rangeFunc_ownH rfl (by omega) (gf := 76) (lb := #[.pointer (some ⟨N + 1 + 1, 0, none⟩), .pointer (some ⟨N + 1 + 1 + 1, 0, none⟩)]) rfl trivial (enters_of Try.func76 (by kernel_rfl) rfl) HSQ.out keepS_t (keepS_b (se_lt (by omega))) (Below.refl _ _) (fun _ => rfl)
    (fun (pre : List (PL l.length)) (W : World) => ExInv N l.length w4 (pre.map Subtype.val) W)
    (fun _ _ _ => False)
    (exInv_own _ hs4.symm)
    (fun _ _ _ _ _ hs _ _ => hs)
    ⟨⟨_, BE4.out, BN4.out, jr_nil _ _⟩, Nat.zero_le _, KeepS.refl _⟩
    (fun (x : PL l.length) a' W => ∃ Bx, N + 4 ≤ Bx ∧ Blk W Bx 53 (lcv x.1) ∧ a' = { tmps := #[Value.slice a l.length c, undef, Value.slice none 0 0, Value.pointer (some { block := N, off := 0 }), Value.pointer (some { block := N + 1, off := 0 }), Value.pointer (some { block := Bx, off := 0 }), Value.slice a l.length c, Value.func (Fn.func 76) #[] #[Value.pointer (some { block := N + 1 + 1, off := 0 }), Value.pointer (some { block := N + 1 + 1 + 1, off := 0 })], .agg (lcv x.1).toArray, undef, undef, undef, undef, undef, undef, undef, undef, undef, undef, undef, undef, undef, undef, undef, undef, undef, undef, undef, undef, undef, undef, undef], defers := [] })
    (fun x a' _ W W' row hs hg hr => by
      obtain ⟨Bx, h1, h2, h3⟩ := hs
      refine ⟨Bx, h1, h2.grown hg (fun e => ?_), h3⟩
      obtain ⟨o, ho, hc⟩ := (hr Bx e.symm).2
      have h2' : W.heap[Bx]? = _ := h2
      rw [h2'] at ho
      injection ho with ho
      rw [← ho] at hc
      cases hc)
    ?assign ?body ?done ?stop
  case assign =>
    rintro lk pre ⟨⟨x1, x2, k, ⟨rl, rk, rkey, rval⟩, ⟨pl, pk, pa, pn, pkey⟩, ⟨ec, eb, ef, es⟩⟩, hx⟩ W K hi hK
    simp only [encl, lcv]
    gi_wp2
    have hsW := hi.2.2.size
    exact hK _ _ ((KeepsOthers.alloc _ _).from _) ((KeepS.refl _).alloc (se_lt (by omega)) _) (hi.alloc hs4.symm _) ⟨W.heap.size, by omega, Blk.new W 53 (lcv (x1, x2, ⟨k, ⟨rl, rk, rkey, rval⟩, ⟨pl, pk, pa, pn, pkey⟩, ⟨ec, eb, ef, es⟩⟩)), rfl⟩
  case body =>
    rintro lk pre ⟨⟨x1, x2, f⟩, hx⟩ a' W hlk _ ⟨⟨ve, be, bn, j⟩, hb, hS⟩ ⟨Bx, hBx, hblk, rfl⟩ hlen
    have hxl : x1 + x2 ≤ l.length := hx.1
    have hpl := exF_len (pre.map Subtype.val)
    rw [List.length_map] at hpl
    have HSN : Hid (exF ((pre ++ [(⟨(x1, x2, f), hx⟩ : PL l.length)]).map Subtype.val) = ((exF (pre.map Subtype.val)).1 ++ jk1 (exF (pre.map Subtype.val)).2 x1 ++ [(false, (x1 : Int), (x2 : Int))], x1 + x2)) := by
      show exF _ = _
      rw [List.map_append, List.map_singleton, exF_snoc]; rfl
    have HMP : Hid ((pre ++ [(⟨(x1, x2, f), hx⟩ : PL l.length)]).map Subtype.val = pre.map Subtype.val ++ [(x1, x2, f)]) := by
      show _ = _
      rw [List.map_append, List.map_singleton]
    obtain ⟨P, hP⟩ : ∃ P, P = pre.map Subtype.val := ⟨_, rfl⟩
    have HP := hd hP
    rw [← hP] at bn j hb hpl HSN HMP
    obtain ⟨Lx, e, hE⟩ : ∃ Lx e, exF P = (Lx, e) := ⟨_, _, rfl⟩
    rw [hE] at bn j hb hpl HSN
    simp only at bn j hb hpl HSN
    have HE := hd hE
    have BE := hd be
    have BN := hd bn
    have HJ := hd j
    have HS := hd hS
    have HBL := hd hblk
    have cE := be.cell
    have cN := bn.cell
    have fN := bn.frozen
    have c14 : W.cell? ⟨Bx, 14, none⟩ = some (.int .i64 (x1 : Int)) := hblk.cell 14 _ rfl
    have c15 : W.cell? ⟨Bx, 15, none⟩ = some (.int .i64 (x2 : Int)) := hblk.cell 15 _ rfl
    have HCJ := hd (junk_is ve Lx e x1 W (N + 4) j (by omega) (by omega) (by omega) (by have := hS.size; omega))
    clear be bn j hS hblk hP hE
    gi_wp2
    refine ⟨trivial, CallsIn.mono (CallsIn.inRound lk (callsIn_wide.2 HCJ.out)) ?_⟩
    rintro e2 w2 ⟨v2, rfl, j2, g2, ow2⟩
    clear HCJ
    obtain ⟨a2, c2, hv2, hlc2⟩ := j2.shape
    rw [List.length_map] at hv2 hlc2
    obtain ⟨L2, hL2⟩ : ∃ L2, L2 = Lx ++ jk1 e x1 := ⟨_, rfl⟩
    have hl2 : L2.length ≤ 2 * pre.length + 1 := by rw [hL2, List.length_append]; have := jk1_len e x1; omega
    rw [← hL2] at j2 hv2 hlc2 HSN
    subst hv2
    have HJ2 := hd j2
    have HG2 := hd g2
    have be2 := Boxed.grownJ BE.out HJ.out (by decide) g2
    have bn2 := Boxed.grownJ BN.out HJ.out (by decide) g2
    have hb2 := HBL.out.grownJ HJ.out (by decide) g2
    have fE2 := be2.frozen
    have cE2 := be2.cell
    have d14 : w2.cell? ⟨Bx, 14, none⟩ = some (.int .i64 (x1 : Int)) := hb2.cell 14 _ rfl
    have d15 : w2.cell? ⟨Bx, 15, none⟩ = some (.int .i64 (x2 : Int)) := hb2.cell 15 _ rfl
    have n1 : ¬ N = Bx := by omega
    have n2 : ¬ Bx = N := by omega
    have HBE2 := hd be2
    have HBN2 := hd bn2
    have HB2 := hd hb2
    clear hL2 j2 g2 be2 bn2 hb2
    obtain ⟨W2, hW2⟩ : ∃ W2, W2 = w2.setCell ⟨N, 0, none⟩ (.slice a2 L2.length c2) := ⟨_, rfl⟩
    have hsW2 : W2.heap.size = w2.heap.size := by rw [hW2]; simp [World.setCell]
    have hsw : W.heap.size ≤ w2.heap.size := HG2.out.size
    have hsW := HS.out.size
    have j2s : JE W2 (N + 4) (.slice a2 L2.length c2) (L2.map exv) := by rw [hW2]; exact HJ2.out.setO (p := ⟨N, 0, none⟩) (fun g hg => by have := HJ2.out.blk_ge g hg; show g ≠ N; omega) _
    have b2s : Blk W2 Bx 53 (lcv (x1, x2, f)) := by rw [hW2]; exact HB2.out.other (p := ⟨N, 0, none⟩) (by show N ≠ Bx; omega) _
    have e2s : Boxed W2 N 60 (.slice a2 L2.length c2) := by rw [hW2]; exact HBE2.out.set _
    have n2s : Boxed W2 (N + 1) 3 (.int .i64 (e : Int)) := by rw [hW2]; exact Boxed.other HBN2.out (by omega) _
    have HJ2s := hd j2s
    have HB2s := hd b2s
    have HE2s := hd e2s
    have HN2s := hd n2s
    have HW2 := hd hW2
    clear j2s b2s e2s n2s hW2
    gi_wp2_with (gi_at_builtin; rw [← HW2.out]; refine wpListIn_append_jr Try.underlying60 info_ex rfl (by decide) _ rfl _ _ rfl (N + 4) (.slice a2 L2.length c2) (L2.map exv) w2.heap.size 1 [.bool false, .int .i64 (x1 : Int), .int .i64 (x2 : Int)] rfl rfl (HJ2s.out.alloc _) rfl (exv_one (false, (x1 : Int), (x2 : Int))) (fun j u hu => cell_lit W2 _ _ j u _ hsW2.symm hu) (L2.length + 1) (by rw [List.length_map]) (by omega) (by unfold maxLen; omega) (by rw [World.size_alloc]; omega) ?_; intro g3 c3 w3 hj3 hg3 hw3; have be3 := Boxed.grownJ (HE2s.out.alloc _) (HJ2s.out.alloc _) (by decide) hg3; have bn3 := Boxed.grownJ (HN2s.out.alloc _) (HJ2s.out.alloc _) (by decide) hg3; have hb3 := Blk.grownJ (HB2s.out.alloc _) (HJ2s.out.alloc _) (by decide) hg3; have p1 := be3.cell; have p2 := be3.frozen; have p3 := bn3.cell; have p4 := bn3.frozen; have p5 : w3.cell? ⟨Bx, 14, none⟩ = some (.int .i64 (x1 : Int)) := hb3.cell 14 _ rfl; have p6 : w3.cell? ⟨Bx, 15, none⟩ = some (.int .i64 (x2 : Int)) := hb3.cell 15 _ rfl; have n3 : ¬ N + 1 = Bx := (by omega); have n4 : ¬ Bx = N + 1 := (by omega); have HJ3 := hd hj3; have HG3 := hd hg3; clear hj3 hg3 be3 bn3 hb3 hw3)
    have hfin := ext_step (x := (x1, x2, f)) (pre := P) (B := l.length) (e' := (x1 : Int) + (x2 : Int)) hs4.symm BE.out BN.out HJ.out HS.out HG2.out HJ2.out (HW2.out ▸ HG3.out) (by
      have h1 := HSN.out
      rw [HMP.out] at h1
      rw [h1]
      simp only [List.map_append, List.map_cons, List.map_nil]
      exact HJ3.out) (by
      have h1 := HSN.out
      rw [HMP.out] at h1
      rw [h1]; simp only; omega) (by
      have h1 := HSN.out
      rw [HMP.out] at h1
      rw [h1]; exact hxl)
    rw [← HMP.out] at hfin
    exact ⟨hfin.1.from _, hfin.2.1, hfin.2.2⟩
  case done =>
    rintro D ys V hD hys ⟨⟨ve, be, bn, j⟩, hb, hS⟩ hKD
    gi_wp2
    refine HK.out _ _ ?_
    clear HK
    have hex : (exF (ys.map Subtype.val)).1 ++ jk1 (exF (ys.map Subtype.val)).2 l.length = exts l := by rw [hys]; rfl
    have HEX := hd hex
    have hpl := exF_len (ys.map Subtype.val)
    have hyl : (ys.map Subtype.val).length ≤ l.length := by
      rw [hys]
      have := locs_len HI.out.1 _ (Nat.le_refl _) 0
      omega
    obtain ⟨Lx, e, hE⟩ : ∃ Lx e, exF (ys.map Subtype.val) = (Lx, e) := ⟨_, _, rfl⟩
    rw [hE] at bn j hb hpl HEX
    simp only at bn j hb hpl HEX
    have cE := be.cell
    have cN := bn.cell
    have HCJ := hd (junk_is ve Lx e l.length V (N + 4) j (by omega) (by omega) (by omega) (by have := hS.size; omega))
    have HJ := hd j
    have HS := hd hS
    have HKD := hd hKD
    clear be bn j hS hex hE hys hyl hKD hpl
    gi_wp2
    refine ⟨trivial, CallsIn.mono (callsIn_wide.2 HCJ.out) ?_⟩
    rintro e2 w2 ⟨v2, rfl, j2, g2, ow2⟩
    rw [HEX.out] at j2
    have hKD2 := (HJ.out.others g2).same D _ HKD.out rfl
    gi_wp2
    refine ⟨by simp, .inl ⟨_, _, rfl, run_takeDeferred hKD2, ?_⟩⟩
    have hN' := HN.out
    refine ⟨_, results_tmp rfl _ _ _, v2, rfl, ?_, ?_⟩
    · exact (j2.kept (grownBy_putObj' w2 D _) (fun r e => by cases e; exact ⟨_, hKD2, rfl⟩)).lower (by omega)
    · rw [← hN']
      have b1 : Below N w V := hB4.out.trans (HS.out.below (fun g hg => Or.inl hg))
      have b2 : Below N w w2 := b1.grown g2 (by have := HS.out.size; omega) (fun q hq => by have := HJ.out.blk_ge q hq; omega)
      exact b2.trans (belowK_b (w := w) (by omega) w2 D _ _ (by have := hB4.out.size; omega) hKD2 rfl rfl)
  case stop =>
    rintro D c2 pre W hD hp h hK
    exact h.elim
end Vt
end Go.Proofs.Ytlddogigbodilaa
