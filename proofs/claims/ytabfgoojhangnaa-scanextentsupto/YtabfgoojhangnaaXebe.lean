/-
  salvorlaw5.bytesOwn: lists of bytes that came out, each its owner's.
  A REGION THAT DRAWS ITS ORDER, WITHIN A FENCE, where what each operation yields does not hang on the order: each is looked at once.
-/
import Derived.Test.YtabfgoojhangnaaXeag
import Derived.Test.YtabfgoojhangnaaXeba
import Derived.Test.YtabfgoojhangnaaXebc
import Derived.Test.YtabfgoojhangnaaXebb
import Derived.OrdersIn
import Derived.OwnWalkIn
namespace Go.Proofs.Ytabfgoojhangnaa
open Go.ChangeShapes Go.WideShapes Go.ChangeAt Go.RowKit Go.Shelf
namespace Os
open Vt Ow
/-- the marks -/
def mkb (i : Nat) : List Value := [.int .u8 (77 + (i : Int))]
theorem mkb_one (i : Nat) : ∀ u ∈ mkb i, u.oneCell' = true := by
  intro u hu
  simp only [mkb, List.mem_cons, List.mem_nil_iff, or_false] at hu
  rcases hu with rfl
  rfl
set_option pp.maxSteps 1000000 in

set_option maxRecDepth 100000 in
set_option maxHeartbeats 40000000 in
theorem byown_is (w : World) (base gl cl : Nat) (vs : List Value) (f : Nat → List (List Value)) (hL : JV ES w base (.slice (some ⟨gl, 0, none⟩) vs.length cl) vs) (hR : RSR E8 1 w base vs f) (hm : vs.length ≤ 40) (hf : ∀ i, (f i).length ≤ 16777216) (hbase : base ≤ w.heap.size) :
    Calls Try.prog 16 #[.slice (some ⟨gl, 0, none⟩) vs.length cl] w fun e w' => e = .returned (.bool true) ∧ Below base w w' ∧ Kept w w' vs := by
  have hQ : Q1 E8 ES 1 mkb w base (.slice (some ⟨gl, 0, none⟩) vs.length cl) vs f w 0 0 := ⟨In1R.start hR (Below.refl _ _) (Kept.refl _ _), hL⟩
  have HQ := hd hQ
  obtain ⟨_, hlc, hcm, hgl, _, _⟩ := hL.at
  unfold maxLen at hcm
  have HGL : Hid (∀ b, (Value.slice (some ⟨gl, 0, none⟩) vs.length cl).ownBlock = some b → b < w.heap.size) := fun b hb => hL.blk_lt b hb
  clear hL hR hQ
  have hmx : Try.prog.follows .mixedOrders = true := by kernel_rfl
  go_enter Try.func16, Try.ntmps16
  go_wp2_with fail
  go_loopw [4] (fun x wr => ∃ i : Nat, i ≤ vs.length ∧ x = .int .i64 (i : Int) ∧ Q1 E8 ES 1 mkb w base (.slice (some ⟨gl, 0, none⟩) vs.length cl) vs f wr i 0) (fun x _ => vs.length - (intOf x).toNat)
  case atStart => exact ⟨0, by omega, rfl, HQ.out⟩
  case round =>
    obtain ⟨i, hi, rfl, hI⟩ := hrel
    have HI2 := hd hI
    clear hI HQ
    by_cases hlt : i < vs.length
    · have hii : ((i : Nat) : Int) < (vs.length : Int) := by omega
      have HLT : Hid (i + 1 ≤ vs.length) := hlt
      have hfi := hf i
      clear hi
      go_wp2_with fail
      go_loopw [5] (fun x wr => ∃ k : Nat, k ≤ (f i).length ∧ x = .int .i64 (k : Int) ∧ Q1 E8 ES 1 mkb w base (.slice (some ⟨gl, 0, none⟩) vs.length cl) vs f wr i k) (fun x _ => (f i).length - (intOf x).toNat)
      case atStart => exact ⟨0, by omega, rfl, HI2.out⟩
      case round =>
        obtain ⟨k, hk, rfl, hI⟩ := hrel
        have HI3 := hd hI
        obtain ⟨a3, c3, hv3, hle3, hcl, hg3⟩ := hI.cells hlt hk
        clear hI HI2
        by_cases hkl : k < (f i).length
        · have hki : ((k : Nat) : Int) < ((f i).length : Int) := by omega
          have HKL : Hid (k + 1 ≤ (f i).length) := hkl
          obtain ⟨g3, rfl⟩ := hg3 hkl
          have hth := HI3.out.there hlt hkl hv3
          obtain ⟨⟨x0, s0⟩, z0⟩ := hth 0 (by decide)
          rw [Nat.add_zero, Nat.mul_one] at s0 z0
          clear hth
          have HV3 := hd hv3
          clear hg3 hv3 hk
          have hp := HI3.out.put (by decide) hlt hkl HV3.out rfl (mkb_one i)
          rw [Nat.mul_one] at hp
          have HP := hd hp
          clear hp
          go_wp2_with fail
          exact ⟨⟨k + 1, HKL.out, by go_num, HP.out⟩, by have := HKL.out; simp [intOf]; omega⟩
        · have hki : ¬ ((k : Nat) : Int) < ((f i).length : Int) := by omega
          have HNX : Hid (Q1 E8 ES 1 mkb w base (.slice (some ⟨gl, 0, none⟩) vs.length cl) vs f wr (i + 1) 0) := HI3.out.next (by omega)
          clear hkl hk hg3 hv3
          go_wp2_with fail
          exact ⟨⟨i + 1, HLT.out, by go_num, HNX.out⟩, by have := HLT.out; simp [intOf]; omega⟩
    · have hii : ¬ ((i : Nat) : Int) < (vs.length : Int) := by omega
      have HQ2 : Hid (Q2 E8 ES 1 mkb w base (.slice (some ⟨gl, 0, none⟩) vs.length cl) vs f wr 0 [] (.slice none 0 0)) := by
        have e : i = vs.length := by omega
        have := HI2.out
        rw [e] at this
        exact this.two
      obtain rfl : i = vs.length := by omega
      clear hi hlt HI2
      go_wp2_with fail
      go_loopw [3, 6] (fun V x wr => ∃ (i : Nat) (a : Option Addr) (cc : Nat) (gs : List Value), i ≤ vs.length ∧ x = .int .i64 (i : Int) ∧ V = .slice a i cc ∧ Q2 E8 ES 1 mkb w base (.slice (some ⟨gl, 0, none⟩) vs.length cl) vs f wr i gs V) (fun _ x _ => vs.length - (intOf x).toNat)
      case atStart => exact ⟨0, none, 0, [], by omega, rfl, rfl, HQ2.out⟩
      case round =>
        obtain ⟨i, la, lc, gs, hi, rfl, rfl, hI⟩ := hrel
        have HI2 := hd hI
        clear hI HQ2
        obtain ⟨WI, hWI⟩ : ∃ WI, WI = wr := ⟨_, rfl⟩
        subst hWI
        by_cases hlt : i < vs.length
        · have hii : ((i : Nat) : Int) < (vs.length : Int) := by omega
          have HLT : Hid (i + 1 ≤ vs.length) := hlt
          have hfi := hf i
          obtain ⟨a3, c3, hv3, hle3, hcl⟩ := HI2.out.row hlt
          have HV3 := hd hv3
          have HROW := hd (HI2.out.in2.rows.row i hlt)
          have HWS : Hid (base ≤ WI.heap.size) := Nat.le_trans hbase HI2.out.in2.kept.1
          clear hi hv3
          go_wp2_with fail
          go_loopw [7, 8] (fun gv x wk => ∃ (k : Nat) (a4 : Option Addr) (c4 : Nat), k ≤ 64 ∧ x = .int .i64 (k : Int) ∧ gv = .slice a4 ((f i).length + k) c4 ∧ ExtR E8 1 WI base (vs.getD i Ow.nil) (fug mkb f i) (mkb i) k gv wk) (fun _ x _ => 64 - (intOf x).toNat)
          case atStart => exact ⟨0, a3, c3, by omega, rfl, rfl, by have := ExtR.start HROW.out (mkb i); rw [HV3.out] at this ⊢; exact this⟩
          case round =>
            obtain ⟨k, a4, c4, hk, rfl, rfl, hX⟩ := hrel
            obtain ⟨wk, hwke⟩ : ∃ wk, wk = wr := ⟨_, rfl⟩
            subst hwke
            have HX := hd hX
            have hwk := hX.size
            have hrl : (fug mkb f i ++ List.replicate k (mkb i)).length = (f i).length + k := by rw [List.length_append, fug_len, List.length_replicate]
            have HRL := hd hrl
            have HJA := hd (fun o => hX.row.keepAll ((Below.refl wk.heap.size wk).alloc (Nat.le_refl _) o))
            have HLX := hd (HI2.out.lists (by decide) hlt hX).2
            clear hX hrl
            by_cases hk64 : k < 64
            · have hki : ((k : Nat) : Int) < 64 := by omega
              go_wp2_with (at_builtin; refine wpList_append_keepR (E := E8) (sz := 1) (S := 22) Try.underlying22 info_u8 rfl (by decide) _ rfl _ _ rfl base _ (fug mkb f i ++ List.replicate k (mkb i)) ⟨wk.heap.size, 0, none⟩ 1 (mkb i) rfl rfl (HJA.out _) rfl (fun j u hu => by rw [add_at, Nat.zero_add]; exact cell_lit _ _ (mkb i) j u _ rfl hu) (mkb_one i) ((f i).length + k + 1) (by rw [HRL.out]) (by omega) (by unfold maxLen; omega) (by have := HWS.out; simp; omega) ?_; intro a5 c5 w5 hP; have HP := hd hP; clear hP)
              exact ⟨⟨k + 1, a5, c5, by omega, by go_num, rfl, HX.out.step HROW.out HP.out⟩, by simp [intOf]; omega⟩
            · have hki : ¬ ((k : Nat) : Int) < 64 := by omega
              have e64 : k = 64 := by omega
              subst e64
              have HBS : Hid (base ≤ wk.heap.size) := Nat.le_trans HWS.out hwk
              have HGN := hd HI2.out.in2.len
              clear hk hk64 HJA
              go_wp2_with (at_builtin; refine wpList_append_keep (E := ES) (S := 64) (z := .slice none 0 0) (by_ := 24) Try.underlying64 info_sl rfl _ rfl _ _ rfl base _ gs ⟨wk.heap.size, 0, none⟩ 1 (.slice a4 ((f i).length + 64) c4) rfl rfl (HLX.out.below ((Below.refl wk.heap.size wk).alloc (Nat.le_refl _) _)) (World.cell?_alloc_new _ _ _ _) rfl (i + 1) (by rw [HGN.out]) (by omega) (by unfold maxLen; omega) (by have := HBS.out; simp; omega) ?_; intro a6 c6 w6 hP; have HP := hd hP; clear hP)
              exact ⟨⟨i + 1, a6, c6, gs ++ [.slice a4 ((f i).length + 64) c4], HLT.out, by go_num, by rfl, HI2.out.step (by decide) hbase HGL.out hlt HX.out HP.out⟩, by have := HLT.out; simp [intOf]; omega⟩
        · have hii : ¬ ((i : Nat) : Int) < (vs.length : Int) := by omega
          have e4 : i = vs.length := by omega
          subst e4
          clear hi hlt
          go_wp2_with fail
          go_loopw [9] (fun x wr => ∃ i : Nat, i ≤ vs.length ∧ x = .int .i64 (i : Int) ∧ Q2 E8 ES 1 mkb w base (.slice (some ⟨gl, 0, none⟩) vs.length cl) vs f wr vs.length gs (.slice la vs.length lc)) (fun x _ => vs.length - (intOf x).toNat)
          case atStart => exact ⟨0, by omega, rfl, HI2.out⟩
          case round =>
            obtain ⟨i, hi, rfl, hI⟩ := hrel
            obtain ⟨WJ, hWJ⟩ : ∃ WJ, WJ = wr := ⟨_, rfl⟩
            subst hWJ
            have HI6 := hd hI
            clear hI HI2
            by_cases hlt : i < vs.length
            · have hii : ((i : Nat) : Int) < (vs.length : Int) := by omega
              have HLT : Hid (i + 1 ≤ vs.length) := hlt
              have hfi := hf i
              clear hi
              go_wp2_with fail
              obtain ⟨g2, c2, a3, c3, g4, c4, hgv, hlc2, hcm2, hcl, hle3, hcl2, hle4, hlong, hrow⟩ := HI6.out.cells hlt
              injection hgv with hg1 hg2 hg3
              subst hg1 hg3
              have HLO := hd hlong
              have HRO := hd hrow
              unfold maxLen at hcm2
              clear hlong hrow hg2
              go_loopw [10] (fun x wr => ∃ k n : Nat, k ≤ (f i).length + 64 ∧ x = .int .i64 (k : Int) ∧ wr = WJ.drewN n) (fun x _ => (f i).length + 64 - (intOf x).toNat)
              case atStart => exact ⟨0, 0, by omega, rfl, rfl⟩
              case round =>
                obtain ⟨k, n2, hk, rfl, rfl⟩ := hrel
                by_cases hkl : k < (f i).length + 64
                · have hki : ((k : Nat) : Int) < ((f i).length : Int) + 64 := by omega
                  have HKL : Hid (k + 1 ≤ (f i).length + 64) := hkl
                  have hl4 : (WJ.drewN n2).cell? ⟨g4, k, none⟩ = some (.int .u8 (77 + (i : Int))) := by
                    have := HLO.out k hkl 0 _ rfl
                    rw [Nat.mul_one] at this
                    exact this
                  clear hk
                  by_cases hkf : k < (f i).length
                  · have hkj : ((k : Nat) : Int) < ((f i).length : Int) := by omega
                    obtain ⟨g3, hg3, hro⟩ := HRO.out k hkf
                    subst hg3
                    have hl3 : (WJ.drewN n2).cell? ⟨g3, k, none⟩ = some (.int .u8 (77 + (i : Int))) := by
                      have := hro 0 _ rfl
                      rw [Nat.mul_one] at this
                      exact this
                    clear hro
                    go_wp2_with fail
                    exact ⟨⟨k + 1, _, HKL.out, by go_num, rfl⟩, by have := HKL.out; simp [intOf]; omega⟩
                  · have hkj : decide (((k : Nat) : Int) < ((f i).length : Int)) = false := decide_eq_false (by omega)
                    have hkj2 : decide (k < (f i).length) = false := decide_eq_false hkf
                    go_wp2_with fail
                    exact ⟨⟨k + 1, _, HKL.out, by go_num, rfl⟩, by have := HKL.out; simp [intOf]; omega⟩
                · have hki : ¬ ((k : Nat) : Int) < ((f i).length : Int) + 64 := by omega
                  clear hk hkl
                  go_wp2_with fail
                  exact ⟨⟨i + 1, HLT.out, by go_num, HI6.out.keep hbase (below_drewN (Below.refl _ _) _)⟩, by have := HLT.out; simp [intOf]; omega⟩
            · have hii : ¬ ((i : Nat) : Int) < (vs.length : Int) := by omega
              have HBE := hd HI6.out.in2.below
              have HKE : Hid (Kept w WJ vs) := HI6.out.in2.kept
              clear hi hlt
              go_wp2_with fail
              go_ret
              exact ⟨rfl, HBE.out, HKE.out⟩
end Os
end Go.Proofs.Ytabfgoojhangnaa
namespace Go.Proofs.Ytabfgoojhangnaa
open Go Go.RowKit
theorem wpAnyIn_inv {F : Fence} {n : Nat} {P : Program} {md : Region.Mode} {ops : Array Oper} {Q : Exit → Act → World → Prop} (I : Array Bool → Act → World → Prop)
    (hsz : ∀ L a w, I L a w → L.size = ops.size)
    (hstep : ∀ L a w i, I L a w → i ∈ Region.ready md ops L → wpOpIn F n P ops Q i (fun a' w' => I (L.setIfInBounds i true) a' w') a w)
    (hdone : ∀ L a w, I L a w → Region.ready md ops L = [] → Q .normal a w) :
    ∀ fuel L a w, I L a w → left L ≤ fuel → wpAnyIn F n P md ops Q fuel L a w := by
  intro fuel
  induction fuel with
  | zero =>
    intro L a w h hl
    have hr : Region.ready md ops L = [] := ready_nil fun i hi => left_zero (by omega) i (by rw [hsz L a w h]; exact hi)
    exact ⟨hr, hdone L a w h hr⟩
  | succ fuel ih =>
    intro L a w h hl
    refine ⟨fun hr => hdone L a w h hr, fun i hi => ?_⟩
    obtain ⟨o, ho, hlt, hL, _⟩ := ready_spec hi
    have := left_set hL
    exact wpOpIn_mono (fun a' w' h' => ih _ a' w' h' (by omega)) (hstep L a w i h hi)
/-- where operations write: each within the frame, no two at one place -/
def dstsFine (ops : Array Oper) (n : Nat) : Bool :=
  (List.range ops.size).all fun i => match dstOf ops i with
    | none => true
    | some d => decide (d < n) && (List.range ops.size).all fun j => decide (i = j) || !(dstOf ops j == some d)
theorem fine_spec {ops : Array Oper} {n : Nat} (h : dstsFine ops n = true) {i d : Nat} (hi : i < ops.size) (hd : dstOf ops i = some d) : d < n ∧ ∀ j, j < ops.size → j ≠ i → dstOf ops j ≠ some d := by
  unfold dstsFine at h
  have := List.all_eq_true.1 h i (by simpa using hi)
  rw [hd] at this
  simp only [Bool.and_eq_true, decide_eq_true_eq, List.all_eq_true, List.mem_range, Bool.or_eq_true, Bool.not_eq_eq_eq_not, Bool.not_true, beq_eq_false_iff_ne] at this
  refine ⟨this.1, fun j hj hne => ?_⟩
  rcases this.2 j hj with h' | h'
  · exact absurd h'.symm hne
  · exact h'
/-- listed are, with each operation, those that must come ahead of it -/
def Closed (ops : Array Oper) (L : Array Bool) : Prop := ∀ j p, ops[j]? = some p → L.getD j false = true → ∀ e ∈ p.after, Region.binds .any e = true → L.getD e.on false = true
theorem set_getD (L : Array Bool) (i j : Nat) (hi : i < L.size) : (L.setIfInBounds i true).getD j false = if j = i then true else L.getD j false := by
  rw [Array.getD_eq_getD_getElem?, Array.getD_eq_getD_getElem?, Array.getElem?_setIfInBounds]
  by_cases h : j = i
  · subst h; simp [hi]
  · rw [if_neg (by omega), if_neg h]
theorem region_det {F : Fence} {n : Nat} {P : Program} {id : Nat} {ops : Array Oper} {Q : Exit → Act → World → Prop} {a0 : Act} {w0 : World} (val : Nat → Value) (Wd : Array Bool → World → Prop)
    (hm : P.follows .mixedOrders = true) (hg : (ops.all fun o => o.guard.isNone) = true) (hdf : dstsFine ops a0.tmps.size = true) (hah : aftersAhead ops = true) (hW0 : Wd (Array.replicate ops.size false) w0.drew)
    (step : ∀ i o, ops[i]? = some o → ∀ (L : Array Bool) (a : Act) (w : World), L.size = ops.size → L.getD i false = false → Closed ops L → Wd L w →
      (∀ k, (∀ j, j < ops.size → dstOf ops j ≠ some k) → a.tmps.getD k undef = a0.tmps.getD k undef) →
      (∀ e ∈ o.after, Region.binds .any e = true → ∀ d, dstOf ops e.on = some d → a.tmps.getD d undef = val e.on) →
      (∀ e ∈ o.after, Region.binds .any e = true → L.getD e.on false = true) →
      o.wpIn F n P a w (fun a' w' => a' = a.put o.dst (val i) ∧ Wd (L.setIfInBounds i true) w') Q)
    (done : ∀ (L : Array Bool) a w, (∀ i, i < ops.size → L.getD i false = true) → Wd L w → a.defers = a0.defers → a.tmps.size = a0.tmps.size →
      (∀ k, (∀ j, j < ops.size → dstOf ops j ≠ some k) → a.tmps.getD k undef = a0.tmps.getD k undef) →
      (∀ i d, i < ops.size → dstOf ops i = some d → a.tmps.getD d undef = val i) → Q .normal a w) :
    (Code.region id ops true).wpIn F n P Q a0 w0 := by
  refine wpIn_region_any hm ?_
  refine wpAnyIn_inv (fun L a w => L.size = ops.size ∧ Closed ops L ∧ Wd L w ∧ a.defers = a0.defers ∧ a.tmps.size = a0.tmps.size ∧
      (∀ k, (∀ j, j < ops.size → dstOf ops j ≠ some k) → a.tmps.getD k undef = a0.tmps.getD k undef) ∧
      (∀ i d, i < ops.size → L.getD i false = true → dstOf ops i = some d → a.tmps.getD d undef = val i)) (fun L a w h => h.1) ?_ ?_ _ _ _ _ ?_ ?_
  · rintro L a w i ⟨h1, hcl, h2, h3, h4, h5, h6⟩ hi
    obtain ⟨o, ho, hlt, hL, haf⟩ := ready_spec hi
    have hLf : L.getD i false = false := by
      rw [Array.getD_eq_getD_getElem?, Array.getElem?_eq_getElem (by omega)] at hL ⊢
      simpa using hL
    have hon : ∀ e ∈ o.after, Region.binds .any e = true → e.on < ops.size := fun e he hb => by
      have := haf e he hb
      rcases Nat.lt_or_ge e.on ops.size with h' | h'
      · exact h'
      · rw [Array.getD_eq_getD_getElem?, Array.getElem?_eq_none (by omega)] at this; simp at this
    have hst := step i o ho L a w h1 hLf hcl h2 h5 (fun e he hb d hd => h6 e.on d (hon e he hb) (haf e he hb) hd) haf
    have hgo : o.guard = none := by
      rw [Array.all_eq_true] at hg
      have := hg i hlt
      have ho' : ops[i] = o := by rw [Array.getElem?_eq_getElem hlt] at ho; injection ho
      rw [ho'] at this
      simpa using this
    unfold wpOpIn
    rw [ho]
    simp only [wanted_none hgo, if_true]
    refine Oper.wpIn_mono ?_ hst
    rintro a' w' ⟨rfl, hW'⟩
    refine ⟨by rw [Array.size_setIfInBounds]; exact h1, ?_, hW', ?_, ?_, ?_, ?_⟩
    · intro j p hp hj e he hb
      rw [set_getD _ _ _ (by omega)] at hj ⊢
      by_cases hji : j = i
      · subst hji
        rw [ho] at hp
        injection hp with hp
        subst hp
        rw [haf e he hb]; simp
      · rw [if_neg hji] at hj
        rw [hcl j p hp hj e he hb]; simp
    · cases o.dst <;> exact h3
    · cases hod : o.dst with
      | none => exact h4
      | some d => simp only [Act.put, Array.size_setIfInBounds]; exact h4
    · intro k hk
      cases hod : o.dst with
      | none => exact h5 k hk
      | some d =>
        have hdi : dstOf ops i = some d := by simp [dstOf, ho, hod]
        rw [getD_put _ _ _ _ (by have := (fine_spec hdf hlt hdi).1; omega), if_neg (fun e => hk i hlt (by rw [e]; exact hdi))]
        exact h5 k hk
    · intro j d hj hLj hdj
      rw [set_getD _ _ _ (by omega)] at hLj
      cases hod : o.dst with
      | none =>
        by_cases hji : j = i
        · subst hji
          have : dstOf ops j = none := by simp [dstOf, ho, hod]
          rw [this] at hdj
          cases hdj
        · rw [if_neg hji] at hLj
          exact h6 j d hj hLj hdj
      | some d' =>
        have hdi : dstOf ops i = some d' := by simp [dstOf, ho, hod]
        have hf := fine_spec hdf hlt hdi
        rw [getD_put _ _ _ _ (by omega)]
        by_cases hji : j = i
        · subst hji
          rw [hdi] at hdj
          injection hdj with hdj
          rw [if_pos hdj.symm]
        · rw [if_neg hji] at hLj
          rw [if_neg (fun e => hf.2 j hj hji (by rw [← e]; exact hdj))]
          exact h6 j d hj hLj hdj
  · rintro L a w ⟨h1, hcl, h2, h3, h4, h5, h6⟩ hr
    have hall := all_listed hah h1 hr
    exact done L a w hall h2 h3 h4 h5 fun i d hi hd => h6 i d hi (hall i hi) hd
  · refine ⟨by simp, ?_, hW0, rfl, rfl, fun _ _ => rfl, fun i d hi h => ?_⟩
    · intro j p hp hj
      rw [Array.getD_eq_getD_getElem?, Array.getElem?_replicate] at hj
      split at hj <;> simp at hj
    · rw [Array.getD_eq_getD_getElem?, Array.getElem?_replicate] at h
      simp [hi] at h
  · unfold left
    exact Nat.le_trans (List.countP_le_length) (by simp)
/-- two frames of one length that read alike are one -/
theorem arr_eq {x y : Array Value} (hs : x.size = y.size) (h : ∀ k, k < y.size → x.getD k undef = y.getD k undef) : x = y := by
  refine Array.ext hs fun i h1 h2 => ?_
  have := h i h2
  rwa [Array.getD_eq_getD_getElem?, Array.getD_eq_getD_getElem?, Array.getElem?_eq_getElem h1, Array.getElem?_eq_getElem h2] at this
end Go.Proofs.Ytabfgoojhangnaa
