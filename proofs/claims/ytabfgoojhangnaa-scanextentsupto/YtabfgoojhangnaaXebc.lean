/-
  A REGION THAT DRAWS ITS ORDER, by an invariant, with operations that their guards pass over. No condition beyond those that the theorem bears.
  A frame behind a region whose operations write neighbouring slots, told at once. No condition beyond those that the theorem bears.
  salvorlaw5's Book: all its lists are written full, each of a mark of its own, then made longer one by one ('owns').
-/
import Derived.Test.YtabfgoojhangnaaXebb
namespace Go.Proofs.Ytabfgoojhangnaa
open Go Go.RowKit
theorem skip_good {P : Program} {o : Oper} {a : Act} {w : World} {Q : Exit → Act → World → Prop} {ops : Array Oper} (good : Value → World → Prop) {X : Prop} (hw : Region.wanted o (yielded ops a.tmps) = true)
    (h : ∀ K : Act → World → Prop, (∀ v w', good v w' → K (a.put o.dst v) w') → o.wp P a w K Q) :
    if Region.wanted o (yielded ops a.tmps) then o.wp P a w (fun a' w' => ∃ v, a' = a.put o.dst v ∧ good v w') Q else X := by
  rw [if_pos hw]
  exact h _ (fun v w' hg => ⟨v, rfl, hg⟩)
theorem skip_no {o : Oper} {f : Nat → Option Bool} {A X : Prop} {j : Nat} {b : Bool} (h : o.guard = some (j, !b)) (hf : f j = some b) (hx : X) : if Region.wanted o f then A else X := by
  rw [if_neg]
  · exact hx
  · unfold Region.wanted; rw [h]; simp [hf]
theorem skip_un {o : Oper} {f : Nat → Option Bool} {A X : Prop} {j : Nat} {b : Bool} (h : o.guard = some (j, b)) (hf : f j = none) (hx : X) : if Region.wanted o f then A else X := by
  rw [if_neg]
  · exact hx
  · unfold Region.wanted; rw [h]; simp [hf]
theorem yielded_un {ops : Array Oper} {t : Array Value} {j d : Nat} (hj : dstOf ops j = some d) (hv : t.getD d undef = undef) : yielded ops t j = none := by
  unfold yielded
  unfold dstOf at hj
  rw [hj]
  simp only [Option.bind_some]
  rw [Array.getD_eq_getD_getElem?] at hv
  cases h : t[d]? with
  | none => rfl
  | some v =>
    rw [h] at hv
    simp only [Option.getD_some] at hv
    subst hv
    rfl
/-- region_inv, where an operation may be passed over by its guard: it yields undef then. 'G i v w': what operation i has yielded, v, is good in the world w; it stays so while the world grows ('W', 'stable'); each operation, its forerunners' yields being good, yields something good ('step'). -/
theorem region_skip {P : Program} {id : Nat} {ops : Array Oper} {Q : Exit → Act → World → Prop} {a0 : Act} {w0 : World} (G : Nat → Value → World → Prop) (W : World → Prop)
    (hm : P.follows .mixedOrders = true) (hd : dstsApart ops a0.tmps.size = true) (hah : aftersBound ops = true) (hW0 : W w0.drew)
    (stable : ∀ i v w w', W w → W w' → Below w.heap.size w w' → G i v w → G i v w')
    (step : ∀ i o, ops[i]? = some o → ∀ a w, W w → a.defers = a0.defers → a.tmps.size = a0.tmps.size →
      (∀ k, (∀ j, j < ops.size → dstOf ops j ≠ some k) → a.tmps.getD k undef = a0.tmps.getD k undef) →
      (∀ e ∈ o.after, Region.binds .any e = true → G e.on (slotOf ops a e.on) w) →
      (if Region.wanted o (yielded ops a.tmps) then o.wp P a w (fun a' w' => ∃ v, a' = a.put o.dst v ∧ Below w.heap.size w w' ∧ W w' ∧ G i v w') Q else G i undef w))
    (done : ∀ a w, W w → a.defers = a0.defers → a.tmps.size = a0.tmps.size →
      (∀ k, (∀ j, j < ops.size → dstOf ops j ≠ some k) → a.tmps.getD k undef = a0.tmps.getD k undef) →
      (∀ i, i < ops.size → G i (slotOf ops a i) w) → Q .normal a w) :
    (Code.region id ops true).wp P Q a0 w0 := by
  refine wp_region_any hm ?_
  refine wpAny_inv (fun L a w => L.size = ops.size ∧ W w ∧ a.defers = a0.defers ∧ a.tmps.size = a0.tmps.size ∧
      (∀ k, (∀ j, j < ops.size → dstOf ops j ≠ some k) → a.tmps.getD k undef = a0.tmps.getD k undef) ∧
      (∀ i, i < ops.size → L.getD i false = true → G i (slotOf ops a i) w)) (fun L a w h => h.1) ?_ ?_ _ _ _ _ ?_ ?_
  · rintro L a w i ⟨h1, h2, h3, h4, h5, h6⟩ hi
    obtain ⟨o, ho, hlt, hL, haf⟩ := ready_spec hi
    obtain ⟨d, hdi, hdn, hdj⟩ := dsts_spec hd hlt
    have hod : o.dst = some d := by simpa [dstOf, ho] using hdi
    have hst := step i o ho a w h2 h3 h4 h5 (fun e he hb => h6 e.on (by
      have := haf e he hb
      rcases Nat.lt_or_ge e.on ops.size with h' | h'
      · exact h'
      · rw [Array.getD_eq_getD_getElem?, Array.getElem?_eq_none (by omega)] at this; simp at this) (haf e he hb))
    have fin : ∀ v w', Below w.heap.size w w' → W w' → G i v w' → (L.setIfInBounds i true).size = ops.size ∧ W w' ∧ (a.put o.dst v).defers = a0.defers ∧ (a.put o.dst v).tmps.size = a0.tmps.size ∧
        (∀ k, (∀ j, j < ops.size → dstOf ops j ≠ some k) → (a.put o.dst v).tmps.getD k undef = a0.tmps.getD k undef) ∧
        (∀ j, j < ops.size → (L.setIfInBounds i true).getD j false = true → G j (slotOf ops (a.put o.dst v) j) w') := by
      intro v w' hb hW' hG
      have hda : d < a.tmps.size := by omega
      rw [hod]
      refine ⟨by rw [Array.size_setIfInBounds]; exact h1, hW', by simp only [Act.put]; exact h3, by simp only [Act.put, Array.size_setIfInBounds]; exact h4, ?_, ?_⟩
      · intro k hk
        rw [getD_put _ _ _ _ hda, if_neg (fun e => hk i hlt (by rw [e]; exact hdi))]
        exact h5 k hk
      · intro j hj hLj
        by_cases e : j = i
        · subst e
          unfold slotOf
          rw [hdi, Option.getD_some, getD_put _ _ _ _ hda, if_pos rfl]
          exact hG
        · obtain ⟨dj, hdj1, hdj2, hdj3⟩ := dsts_spec hd hj
          have hne : dj ≠ d := fun e2 => hdj j hj e (by rw [← e2]; exact hdj1)
          unfold slotOf
          rw [hdj1, Option.getD_some, getD_put _ _ _ _ hda, if_neg hne]
          have hLj' : L.getD j false = true := by
            rw [Array.getD_eq_getD_getElem?, Array.getElem?_setIfInBounds_ne (by omega)] at hLj
            rw [Array.getD_eq_getD_getElem?]; exact hLj
          have := h6 j hj hLj'
          unfold slotOf at this
          rw [hdj1, Option.getD_some] at this
          exact stable j _ w w' h2 hW' hb this
    unfold wpOp
    rw [ho]
    split at hst
    · rename_i hw
      simp only [hw, if_true]
      refine .inl (Oper.wp_mono ?_ hst)
      rintro a' w' ⟨v, rfl, hb, hW', hG⟩
      exact fin v w' hb hW' hG
    · rename_i hw
      simp only [hw]
      exact fin undef w (Below.refl _ _) h2 hst
  · rintro L a w ⟨h1, h2, h3, h4, h5, h6⟩ hr
    exact done a w h2 h3 h4 h5 fun i hi => h6 i hi (all_listedB hah h1 hr i hi)
  · refine ⟨by simp, hW0, rfl, rfl, fun _ _ => rfl, fun i hi h => ?_⟩
    rw [Array.getD_eq_getD_getElem?, Array.getElem?_replicate] at h
    simp [hi] at h
  · unfold left
    exact Nat.le_trans (List.countP_le_length) (by simp)
end Go.Proofs.Ytabfgoojhangnaa
namespace Go.Proofs.Ytabfgoojhangnaa
open Go Go.RowKit
/-- all that the region writes lies from lo on, below hi -/
def dstsIn (ops : Array Oper) (lo hi : Nat) : Bool := (List.range ops.size).all fun j => match dstOf ops j with
  | none => true
  | some d => decide (lo ≤ d) && decide (d < hi)
theorem dstsIn_spec {ops : Array Oper} {lo hi k : Nat} (h : dstsIn ops lo hi = true) (hk : k < lo ∨ hi ≤ k) : ∀ j, j < ops.size → dstOf ops j ≠ some k := by
  intro j hj e
  have := List.all_eq_true.1 h j (by simpa using hj)
  rw [e] at this
  simp only [Bool.and_eq_true, decide_eq_true_eq] at this
  omega
theorem tmps_of {ops : Array Oper} {t t0 : Array Value} {lo : Nat} {vs : List Value} (hs : t.size = t0.size) (hd : dstsIn ops lo (lo + vs.length) = true) (hlo : lo + vs.length ≤ t0.size)
    (hout : ∀ k, (∀ j, j < ops.size → dstOf ops j ≠ some k) → t.getD k undef = t0.getD k undef) (hin : ∀ i, i < vs.length → t.getD (lo + i) undef = vs.getD i undef) :
    t = (t0.toList.take lo ++ (vs ++ t0.toList.drop (lo + vs.length))).toArray := by
  have hl0 : t0.toList.length = t0.size := Array.length_toList
  refine arr_one (by simp only [List.size_toArray, List.length_append, List.length_take, List.length_drop, hl0]; omega) fun k hk => ?_
  have e : ∀ X : List Value, X.toArray.getD k undef = X[k]?.getD undef := fun X => by rw [Array.getD_eq_getD_getElem?]; simp
  refine Eq.trans ?_ (e _).symm
  rw [Array.getD_eq_getD_getElem?]
  clear e
  by_cases h1 : k < lo
  · have := hout k (dstsIn_spec hd (.inl h1))
    rw [Array.getD_eq_getD_getElem?, Array.getD_eq_getD_getElem?] at this
    rw [this, List.getElem?_append_left (by rw [List.length_take, hl0]; omega), List.getElem?_take_of_lt h1, Array.getElem?_toList]
  · rw [List.getElem?_append_right (by rw [List.length_take, hl0]; omega), List.length_take, hl0, Nat.min_eq_left (by omega)]
    by_cases h2 : k < lo + vs.length
    · have := hin (k - lo) (by omega)
      rw [Array.getD_eq_getD_getElem?, List.getD_eq_getElem?_getD, show lo + (k - lo) = k by omega] at this
      rw [this, List.getElem?_append_left (by omega)]
    · have := hout k (dstsIn_spec hd (.inr (by omega)))
      rw [Array.getD_eq_getD_getElem?, Array.getD_eq_getD_getElem?] at this
      rw [this, List.getElem?_append_right (by omega), List.getElem?_drop, Array.getElem?_toList]
      congr 2
      omega
end Go.Proofs.Ytabfgoojhangnaa
namespace Go.Proofs.Ytabfgoojhangnaa
open Go.ChangeShapes Go.WideShapes Go.ChangeAt Go.RowKit Go.Shelf
namespace Os
open Vt Ow
/-- the marks -/
def mke (i : Nat) : List Value := [.bool false, .int .i64 (-1000 - (i : Int)), .int .i64 (-1000 - (i : Int))]
theorem mke_one (i : Nat) : ∀ u ∈ mke i, u.oneCell' = true := by
  intro u hu
  simp only [mke, List.mem_cons, List.mem_nil_iff, or_false] at hu
  rcases hu with rfl | rfl | rfl <;> rfl
abbrev BK1 := B1 XE XS XB 3 mke
abbrev BK2 := B2 XE XS XB 3 mke
set_option pp.maxSteps 1000000 in
set_option maxRecDepth 100000 in
set_option maxHeartbeats 40000000 in
theorem bowns_is (w : World) (base X gl cl : Nat) (vs : List Value) (f : Nat → List (List Value)) (hL : JV XS w base (.slice (some ⟨gl, 0, none⟩) vs.length cl) vs) (hR : RSR XE 3 w base vs f) (hB : Blk w X XB [.slice (some ⟨gl, 0, none⟩) vs.length cl, .slice none 0 0]) (hm : vs.length ≤ 40) (hf : ∀ i, (f i).length ≤ 16777216) (hbase : base ≤ X) :
    Calls Try.prog 15 #[.pointer (some ⟨X, 0, none⟩)] w fun e w' => (∃ v, e = .returned v) ∧ ∃ a4 c4 gs, BK2 w base X (.slice (some ⟨gl, 0, none⟩) vs.length cl) vs f w' vs.length gs (.slice a4 vs.length c4) := by
  have hQ : BK1 w base X (.slice (some ⟨gl, 0, none⟩) vs.length cl) vs f w 0 0 := B1.start hR hL hB
  have HQ := hd hQ
  have hXs := hB.lt
  have HB0 := hd (Nat.le_trans hbase (Nat.le_of_lt hXs))
  obtain ⟨_, hlc, hcm, hgl, _, _⟩ := hL.at
  unfold maxLen at hcm
  have HGL : Hid (∀ b, (Value.slice (some ⟨gl, 0, none⟩) vs.length cl).ownBlock = some b → b < w.heap.size) := fun b hb => hL.blk_lt b hb
  clear hL hR hQ hB
  have hmx : Try.prog.follows .mixedOrders = true := by kernel_rfl
  go_enter Try.func15, Try.ntmps15
  go_wp2_with fail
  go_loopw [2] (fun x wr => ∃ i : Nat, i ≤ vs.length ∧ x = .int .i64 (i : Int) ∧ BK1 w base X (.slice (some ⟨gl, 0, none⟩) vs.length cl) vs f wr i 0) (fun x _ => vs.length - (intOf x).toNat)
  case atStart => exact ⟨0, by omega, rfl, HQ.out⟩
  case round =>
    obtain ⟨i, hi, rfl, hI⟩ := hrel
    have HI2 := hd hI
    have hb0 := hI.box.cell 0 _ rfl
    clear hI HQ
    by_cases hlt : i < vs.length
    · have hii : ((i : Nat) : Int) < (vs.length : Int) := by omega
      have HLT : Hid (i + 1 ≤ vs.length) := hlt
      have hfi := hf i
      clear hi
      go_wp2_with fail
      go_loopw [3] (fun x wr => ∃ k : Nat, k ≤ (f i).length ∧ x = .int .i64 (k : Int) ∧ BK1 w base X (.slice (some ⟨gl, 0, none⟩) vs.length cl) vs f wr i k) (fun x _ => (f i).length - (intOf x).toNat)
      case atStart => exact ⟨0, by omega, rfl, HI2.out⟩
      case round =>
        obtain ⟨k, hk, rfl, hI⟩ := hrel
        have HI3 := hd hI
        have hb0 := hI.box.cell 0 _ rfl
        obtain ⟨a3, c3, hv3, hle3, hcl, hg3⟩ := hI.cells hlt hk
        clear hI HI2
        by_cases hkl : k < (f i).length
        · have hki : ((k : Nat) : Int) < ((f i).length : Int) := by omega
          have HKL : Hid (k + 1 ≤ (f i).length) := hkl
          obtain ⟨g3, rfl⟩ := hg3 hkl
          have hth := HI3.out.there hlt hkl hv3
          obtain ⟨⟨x0, s0⟩, z0⟩ := hth 0 (by decide)
          obtain ⟨⟨x1, s1⟩, z1⟩ := hth 1 (by decide)
          obtain ⟨⟨x2, s2⟩, z2⟩ := hth 2 (by decide)
          rw [Nat.add_zero] at s0 z0
          clear hth
          have HV3 := hd hv3
          clear hg3 hv3 hk
          go_wp2_with fail
          exact ⟨⟨k + 1, HKL.out, by go_num, HI3.out.put (by decide) (by decide) hlt hkl HV3.out rfl (mke_one i)⟩, by have := HKL.out; simp [intOf]; omega⟩
        · have hki : ¬ ((k : Nat) : Int) < ((f i).length : Int) := by omega
          have HNX : Hid (BK1 w base X (.slice (some ⟨gl, 0, none⟩) vs.length cl) vs f wr (i + 1) 0) := HI3.out.next (by omega)
          clear hkl hk hg3 hv3
          go_wp2_with fail
          exact ⟨⟨i + 1, HLT.out, by go_num, HNX.out⟩, by have := HLT.out; simp [intOf]; omega⟩
    · have hii : ¬ ((i : Nat) : Int) < (vs.length : Int) := by omega
      have HQ2 : Hid (BK2 w base X (.slice (some ⟨gl, 0, none⟩) vs.length cl) vs f wr 0 [] (.slice none 0 0)) := by
        have e : i = vs.length := by omega
        have := HI2.out
        rw [e] at this
        exact this.two
      obtain rfl : i = vs.length := by omega
      clear hi hlt HI2
      go_wp2_with fail
      go_loopw [4] (fun x wr => ∃ (i : Nat) (a : Option Addr) (cc : Nat) (gs : List Value), i ≤ vs.length ∧ x = .int .i64 (i : Int) ∧ BK2 w base X (.slice (some ⟨gl, 0, none⟩) vs.length cl) vs f wr i gs (.slice a i cc)) (fun x _ => vs.length - (intOf x).toNat)
      case atStart => exact ⟨0, none, 0, [], by omega, rfl, HQ2.out⟩
      case round =>
        obtain ⟨i, la, lc, gs, hi, rfl, hI⟩ := hrel
        have HI2 := hd hI
        have hb0 := hI.box.cell 0 _ rfl
        have hXW := hI.box.lt
        clear hI HQ2
        obtain ⟨WI, hWI⟩ : ∃ WI, WI = wr := ⟨_, rfl⟩
        subst hWI
        by_cases hlt : i < vs.length
        · have hii : ((i : Nat) : Int) < (vs.length : Int) := by omega
          have HLT : Hid (i + 1 ≤ vs.length) := hlt
          have hfi := hf i
          obtain ⟨a3, c3, hv3, hle3, hcl⟩ := HI2.out.row hlt
          have HV3 := hd hv3
          have HROW := hd (HI2.out.rows.row i hlt)
          have HWS : Hid (base ≤ WI.heap.size) := Nat.le_trans HB0.out HI2.out.kept.1
          clear hi hv3
          go_wp2_with fail
          go_loopw [5, 6] (fun gv x wk => ∃ (k : Nat) (a4 : Option Addr) (c4 : Nat), k ≤ 64 ∧ x = .int .i64 (k : Int) ∧ gv = .slice a4 ((f i).length + k) c4 ∧ ExtR XE 3 WI base (vs.getD i Ow.nil) (fug mke f i) (mke i) k gv wk) (fun _ x _ => 64 - (intOf x).toNat)
          case atStart => exact ⟨0, a3, c3, by omega, rfl, rfl, by have := ExtR.start HROW.out (mke i); rw [HV3.out] at this ⊢; exact this⟩
          case round =>
            obtain ⟨k, a4, c4, hk, rfl, rfl, hX⟩ := hrel
            obtain ⟨wk, hwke⟩ : ∃ wk, wk = wr := ⟨_, rfl⟩
            subst hwke
            have HX := hd hX
            have hwk := hX.size
            have hrl : (fug mke f i ++ List.replicate k (mke i)).length = (f i).length + k := by rw [List.length_append, fug_len, List.length_replicate]
            have HRL := hd hrl
            have HJA := hd (fun o => hX.row.keepAll ((Below.refl wk.heap.size wk).alloc (Nat.le_refl _) o))
            obtain ⟨_, hlx, hbx⟩ := HI2.out.lists (by decide) (by decide) hlt hX
            have HLX := hd hlx
            have HBX := hd hbx
            have hc1 := hbx.cell 1 _ rfl
            have hf1 := hbx.frozen 1
            clear hX hrl hlx hbx
            by_cases hk64 : k < 64
            · have hki : ((k : Nat) : Int) < 64 := by omega
              go_wp2_with (at_builtin; refine wpList_append_keepR (E := XE) (sz := 3) (S := 28) Try.underlying28 info_ex rfl (by decide) _ rfl _ _ rfl base _ (fug mke f i ++ List.replicate k (mke i)) ⟨wk.heap.size, 0, none⟩ 1 (mke i) rfl rfl (HJA.out _) rfl (fun j u hu => by rw [add_at, Nat.zero_add]; exact cell_lit _ _ (mke i) j u _ rfl hu) (mke_one i) ((f i).length + k + 1) (by rw [HRL.out]) (by omega) (by unfold maxLen; omega) (by have := HWS.out; simp; omega) ?_; intro a5 c5 w5 hP; have HP := hd hP; clear hP)
              exact ⟨⟨k + 1, a5, c5, by omega, by go_num, rfl, HX.out.step HROW.out HP.out⟩, by simp [intOf]; omega⟩
            · have hki : ¬ ((k : Nat) : Int) < 64 := by omega
              have e64 : k = 64 := by omega
              subst e64
              have HBS : Hid (base ≤ wk.heap.size) := Nat.le_trans HWS.out hwk
              have HGN := hd HI2.out.len
              clear hk hk64 HJA
              go_wp2_with (at_builtin; refine wpList_append_keep (E := XS) (S := 24) (z := .slice none 0 0) (by_ := 24) Try.underlying24 info_xs rfl _ rfl _ _ rfl base _ gs ⟨wk.heap.size, 0, none⟩ 1 (.slice a4 ((f i).length + 64) c4) rfl rfl (HLX.out.below ((Below.refl wk.heap.size wk).alloc (Nat.le_refl _) _)) (World.cell?_alloc_new _ _ _ _) rfl (i + 1) (by rw [HGN.out]) (by omega) (by unfold maxLen; omega) (by have := HBS.out; simp; omega) ?_; intro a6 c6 w6 hP; have HP := hd hP; have hbx6 := boxX_after HBX.out HLX.out (by decide) hP; have hc6 := hbx6.cell 1 _ rfl; have hf6 := hbx6.frozen 1; clear hP hbx6)
              exact ⟨⟨i + 1, a6, c6, gs ++ [.slice a4 ((f i).length + 64) c4], HLT.out, by go_num, HI2.out.step (by decide) (by decide) (by decide) hbase hXs HGL.out hlt HX.out HP.out⟩, by have := HLT.out; simp [intOf]; omega⟩
        · have hii : ¬ ((i : Nat) : Int) < (vs.length : Int) := by omega
          have e4 : i = vs.length := by omega
          subst e4
          clear hi hlt
          go_wp2_with fail
          go_end0
          exact ⟨⟨_, rfl⟩, la, lc, gs, HI2.out⟩
end Os
end Go.Proofs.Ytabfgoojhangnaa
