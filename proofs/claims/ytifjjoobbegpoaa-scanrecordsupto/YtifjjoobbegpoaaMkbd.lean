/-
  salvorlaw5.locatedOwn: lists of what stands where, each its owner's.
-/
import Derived.Test.YtifjjoobbegpoaaMkad
import Derived.Test.YtifjjoobbegpoaaMkbc
import Derived.Deep.MidRow
namespace Go.Proofs.Ytifjjoobbegpoaa
open Go.ChangeShapes Go.WideShapes Go.ChangeAt Go.RowKit Go.Shelf
namespace Os
open Vt Ow
abbrev LT : TypeId := 43
abbrev LLS : TypeId := 26
theorem info_lls : (Try.prog.info? 26).map (fun i => (i.zero, i.size, i.bytes)) = some (some (.slice none 0 0), 1, 24) := by kernel_rfl
/-- the marks -/
def mkl (i : Nat) : List Value := [.int .i64 0, .int .u64 0, .int .i64 0, .string ⟨#[]⟩, .string ⟨#[]⟩, .int .u64 0, .int .i64 0, .int .i64 0, .int .i64 0, .string ⟨#[]⟩, .int .i64 0, .int .i64 0, .int .i64 0, .int .u32 0, .int .i64 (-7 - (i : Int)), .int .i64 0]
theorem mkl_one (i : Nat) : ∀ u ∈ mkl i, u.oneCell' = true := by
  intro u hu
  simp only [mkl, List.mem_cons, List.mem_nil_iff, or_false] at hu
  rcases hu with rfl | rfl | rfl | rfl | rfl | rfl | rfl | rfl | rfl | rfl | rfl | rfl | rfl | rfl | rfl | rfl <;> rfl
theorem neq_mkl (i : Nat) (w : World) : (binOp .neq 43 (.agg (mkl i).toArray) (.agg (mkl i).toArray)).run Try.prog w = .ok (.bool false) w := by
  unfold mkl
  simp [go_sem, Op.eqFields]
set_option pp.maxSteps 1000000 in
set_option maxRecDepth 100000 in
set_option maxHeartbeats 40000000 in
theorem locown_is (w : World) (base gl cl : Nat) (vs : List Value) (f : Nat → List (List Value)) (hL : JV LLS w base (.slice (some ⟨gl, 0, none⟩) vs.length cl) vs) (hR : RSR LT 16 w base vs f) (hm : vs.length ≤ 40) (hf : ∀ i, (f i).length ≤ 16777216) (hbase : base ≤ w.heap.size) :
    Calls Try.prog 10 #[.slice (some ⟨gl, 0, none⟩) vs.length cl] w fun e w' => e = .returned (.bool true) ∧ Below base w w' ∧ Kept w w' vs := by
  have hQ : Q1 LT LLS 16 mkl w base (.slice (some ⟨gl, 0, none⟩) vs.length cl) vs f w 0 0 := ⟨In1R.start hR (Below.refl _ _) (Kept.refl _ _), hL⟩
  have HQ := hd hQ
  obtain ⟨_, hlc, hcm, hgl, _, _⟩ := hL.at
  unfold maxLen at hcm
  have HGL : Hid (∀ b, (Value.slice (some ⟨gl, 0, none⟩) vs.length cl).ownBlock = some b → b < w.heap.size) := fun b hb => hL.blk_lt b hb
  clear hL hR hQ
  have hmx : Try.prog.follows .mixedOrders = true := by kernel_rfl
  go_enter Try.func10, Try.ntmps10
  go_wp2_with fail
  go_loopw [4] (fun x wr => ∃ i : Nat, i ≤ vs.length ∧ x = .int .i64 (i : Int) ∧ Q1 LT LLS 16 mkl w base (.slice (some ⟨gl, 0, none⟩) vs.length cl) vs f wr i 0) (fun x _ => vs.length - (intOf x).toNat)
  case atStart => exact ⟨0, by omega, rfl, HQ.out⟩
  case round =>
    obtain ⟨i, hi, rfl, hI⟩ := hrel
    have HI2 := hd hI
    clear hI HQ
    by_cases hlt : i < vs.length
    · have hii : ((i : Nat) : Int) < (vs.length : Int) := by omega
      have HLT : Hid (i + 1 ≤ vs.length) := hlt
      have hfi := hf i
      clear hi
      go_wp2_with fail
      go_loopw [5] (fun x wr => ∃ k : Nat, k ≤ (f i).length ∧ x = .int .i64 (k : Int) ∧ Q1 LT LLS 16 mkl w base (.slice (some ⟨gl, 0, none⟩) vs.length cl) vs f wr i k) (fun x _ => (f i).length - (intOf x).toNat)
      case atStart => exact ⟨0, by omega, rfl, HI2.out⟩
      case round =>
        obtain ⟨k, hk, rfl, hI⟩ := hrel
        have HI3 := hd hI
        obtain ⟨a3, c3, hv3, hle3, hcl, hg3⟩ := hI.cells hlt hk
        clear hI HI2
        by_cases hkl : k < (f i).length
        · have hki : ((k : Nat) : Int) < ((f i).length : Int) := by omega
          have HKL : Hid (k + 1 ≤ (f i).length) := hkl
          obtain ⟨g3, rfl⟩ := hg3 hkl
          have hth := HI3.out.there hlt hkl hv3
          obtain ⟨⟨x0, s0⟩, z0⟩ := hth 0 (by decide)
          obtain ⟨⟨x1, s1⟩, z1⟩ := hth 1 (by decide)
          obtain ⟨⟨x2, s2⟩, z2⟩ := hth 2 (by decide)
          obtain ⟨⟨x3, s3⟩, z3⟩ := hth 3 (by decide)
          obtain ⟨⟨x4, s4⟩, z4⟩ := hth 4 (by decide)
          obtain ⟨⟨x5, s5⟩, z5⟩ := hth 5 (by decide)
          obtain ⟨⟨x6, s6⟩, z6⟩ := hth 6 (by decide)
          obtain ⟨⟨x7, s7⟩, z7⟩ := hth 7 (by decide)
          obtain ⟨⟨x8, s8⟩, z8⟩ := hth 8 (by decide)
          obtain ⟨⟨x9, s9⟩, z9⟩ := hth 9 (by decide)
          obtain ⟨⟨x10, s10⟩, z10⟩ := hth 10 (by decide)
          obtain ⟨⟨x11, s11⟩, z11⟩ := hth 11 (by decide)
          obtain ⟨⟨x12, s12⟩, z12⟩ := hth 12 (by decide)
          obtain ⟨⟨x13, s13⟩, z13⟩ := hth 13 (by decide)
          obtain ⟨⟨x14, s14⟩, z14⟩ := hth 14 (by decide)
          obtain ⟨⟨x15, s15⟩, z15⟩ := hth 15 (by decide)
          rw [Nat.add_zero] at s0 z0
          clear hth
          have HV3 := hd hv3
          clear hg3 hv3 hk
          go_wp2_with fail
          exact ⟨⟨k + 1, HKL.out, by go_num, HI3.out.put (by decide) hlt hkl HV3.out rfl (mkl_one i)⟩, by have := HKL.out; simp [intOf]; omega⟩
        · have hki : ¬ ((k : Nat) : Int) < ((f i).length : Int) := by omega
          have HNX : Hid (Q1 LT LLS 16 mkl w base (.slice (some ⟨gl, 0, none⟩) vs.length cl) vs f wr (i + 1) 0) := HI3.out.next (by omega)
          clear hkl hk hg3 hv3
          go_wp2_with fail
          exact ⟨⟨i + 1, HLT.out, by go_num, HNX.out⟩, by have := HLT.out; simp [intOf]; omega⟩
    · have hii : ¬ ((i : Nat) : Int) < (vs.length : Int) := by omega
      have HQ2 : Hid (Q2 LT LLS 16 mkl w base (.slice (some ⟨gl, 0, none⟩) vs.length cl) vs f wr 0 [] (.slice none 0 0)) := by
        have e : i = vs.length := by omega
        have := HI2.out
        rw [e] at this
        exact this.two
      obtain rfl : i = vs.length := by omega
      clear hi hlt HI2
      go_wp2_with fail
      go_loopw [3, 6] (fun V x wr => ∃ (i : Nat) (a : Option Addr) (cc : Nat) (gs : List Value), i ≤ vs.length ∧ x = .int .i64 (i : Int) ∧ V = .slice a i cc ∧ Q2 LT LLS 16 mkl w base (.slice (some ⟨gl, 0, none⟩) vs.length cl) vs f wr i gs V) (fun _ x _ => vs.length - (intOf x).toNat)
      case atStart => exact ⟨0, none, 0, [], by omega, rfl, rfl, HQ2.out⟩
      case round =>
        obtain ⟨i, la, lc, gs, hi, rfl, rfl, hI⟩ := hrel
        have HI2 := hd hI
        clear hI HQ2
        obtain ⟨WI, hWI⟩ : ∃ WI, WI = wr := ⟨_, rfl⟩
        subst hWI
        by_cases hlt : i < vs.length
        · have hii : ((i : Nat) : Int) < (vs.length : Int) := by omega
          have HLT : Hid (i + 1 ≤ vs.length) := hlt
          have hfi := hf i
          obtain ⟨a3, c3, hv3, hle3, hcl⟩ := HI2.out.row hlt
          have HV3 := hd hv3
          have HROW := hd (HI2.out.in2.rows.row i hlt)
          have HWS : Hid (base ≤ WI.heap.size) := Nat.le_trans hbase HI2.out.in2.kept.1
          clear hi hv3
          go_wp2_with fail
          go_loopw [7, 8] (fun gv x wk => ∃ (k : Nat) (a4 : Option Addr) (c4 : Nat), k ≤ 64 ∧ x = .int .i64 (k : Int) ∧ gv = .slice a4 ((f i).length + k) c4 ∧ ExtR LT 16 WI base (vs.getD i Ow.nil) (fug mkl f i) (mkl i) k gv wk) (fun _ x _ => 64 - (intOf x).toNat)
          case atStart => exact ⟨0, a3, c3, by omega, rfl, rfl, by have := ExtR.start HROW.out (mkl i); rw [HV3.out] at this ⊢; exact this⟩
          case round =>
            obtain ⟨k, a4, c4, hk, rfl, rfl, hX⟩ := hrel
            obtain ⟨wk, hwke⟩ : ∃ wk, wk = wr := ⟨_, rfl⟩
            subst hwke
            have HX := hd hX
            have hwk := hX.size
            have hrl : (fug mkl f i ++ List.replicate k (mkl i)).length = (f i).length + k := by rw [List.length_append, fug_len, List.length_replicate]
            have HRL := hd hrl
            have HJA := hd (fun o => hX.row.keepAll ((Below.refl wk.heap.size wk).alloc (Nat.le_refl _) o))
            have HLX := hd (HI2.out.lists (by decide) hlt hX).2
            clear hX hrl
            by_cases hk64 : k < 64
            · have hki : ((k : Nat) : Int) < 64 := by omega
              go_wp2_with (at_builtin; refine wpList_append_keepR (E := LT) (sz := 16) (S := 26) Try.underlying26 info_lc rfl (by decide) _ rfl _ _ rfl base _ (fug mkl f i ++ List.replicate k (mkl i)) ⟨wk.heap.size, 0, none⟩ 1 (mkl i) rfl rfl (HJA.out _) rfl (fun j u hu => by rw [add_at, Nat.zero_add]; exact cell_lit _ _ (mkl i) j u _ rfl hu) (mkl_one i) ((f i).length + k + 1) (by rw [HRL.out]) (by omega) (by unfold maxLen; omega) (by have := HWS.out; simp; omega) ?_; intro a5 c5 w5 hP; have HP := hd hP; clear hP)
              exact ⟨⟨k + 1, a5, c5, by omega, by go_num, rfl, HX.out.step HROW.out HP.out⟩, by simp [intOf]; omega⟩
            · have hki : ¬ ((k : Nat) : Int) < 64 := by omega
              have e64 : k = 64 := by omega
              subst e64
              have HBS : Hid (base ≤ wk.heap.size) := Nat.le_trans HWS.out hwk
              have HGN := hd HI2.out.in2.len
              clear hk hk64 HJA
              go_wp2_with (at_builtin; refine wpList_append_keep (E := LLS) (S := 76) (z := .slice none 0 0) (by_ := 24) Try.underlying76 info_lls rfl _ rfl _ _ rfl base _ gs ⟨wk.heap.size, 0, none⟩ 1 (.slice a4 ((f i).length + 64) c4) rfl rfl (HLX.out.below ((Below.refl wk.heap.size wk).alloc (Nat.le_refl _) _)) (World.cell?_alloc_new _ _ _ _) rfl (i + 1) (by rw [HGN.out]) (by omega) (by unfold maxLen; omega) (by have := HBS.out; simp; omega) ?_; intro a6 c6 w6 hP; have HP := hd hP; clear hP)
              exact ⟨⟨i + 1, a6, c6, gs ++ [.slice a4 ((f i).length + 64) c4], HLT.out, by go_num, by rfl, HI2.out.step (by decide) hbase HGL.out hlt HX.out HP.out⟩, by have := HLT.out; simp [intOf]; omega⟩
        · have hii : ¬ ((i : Nat) : Int) < (vs.length : Int) := by omega
          have e4 : i = vs.length := by omega
          subst e4
          clear hi hlt
          go_wp2_with fail
          go_loopw [9] (fun x wr => ∃ i : Nat, i ≤ vs.length ∧ x = .int .i64 (i : Int) ∧ Q2 LT LLS 16 mkl w base (.slice (some ⟨gl, 0, none⟩) vs.length cl) vs f wr vs.length gs (.slice la vs.length lc)) (fun x _ => vs.length - (intOf x).toNat)
          case atStart => exact ⟨0, by omega, rfl, HI2.out⟩
          case round =>
            obtain ⟨i, hi, rfl, hI⟩ := hrel
            obtain ⟨WJ, hWJ⟩ : ∃ WJ, WJ = wr := ⟨_, rfl⟩
            subst hWJ
            have HI5 := hd hI
            clear hI HI2
            by_cases hlt : i < vs.length
            · have hii : ((i : Nat) : Int) < (vs.length : Int) := by omega
              have HLT : Hid (i + 1 ≤ vs.length) := hlt
              have hfi := hf i
              have HNE := hd (neq_mkl i)
              clear hi
              go_wp2_with fail
              obtain ⟨WX, hWX⟩ : ∃ WX, WX = WJ.alloc (.cells #[.int .i64 0, .int .u64 0, .int .i64 0, .string ⟨#[]⟩, .string ⟨#[]⟩, .int .u64 0, .int .i64 0, .int .i64 0, .int .i64 0, .string ⟨#[]⟩, .int .i64 0, .int .i64 0, .int .i64 0, .int .u32 0, .int .i64 (-7 - (i : Int)), .int .i64 0] 43) := ⟨_, rfl⟩
              rw [← hWX]
              have HXB : Hid (Blk WX WJ.heap.size LT (mkl i)) := by rw [hWX]; exact Blk.new WJ LT (mkl i)
              have HI6 : Hid (Q2 LT LLS 16 mkl w base (.slice (some ⟨gl, 0, none⟩) vs.length cl) vs f WX vs.length gs (.slice la vs.length lc)) := by rw [hWX]; exact HI5.out.keep hbase ((Below.refl _ _).alloc (Nat.le_refl _) _)
              clear hWX
              obtain ⟨g2, c2, a3, c3, g4, c4, hgv, hlc2, hcm2, hcl, hle3, hcl2, hle4, hlong, hrow⟩ := HI6.out.cells hlt
              injection hgv with hg1 hg2 hg3
              subst hg1 hg3
              have HLO := hd hlong
              have HRO := hd hrow
              unfold maxLen at hcm2
              clear hlong hrow hg2
              go_loopw [11] (fun x wr => ∃ k n : Nat, k ≤ (f i).length + 64 ∧ x = .int .i64 (k : Int) ∧ wr = WX.drewN n) (fun x _ => (f i).length + 64 - (intOf x).toNat)
              case atStart => exact ⟨0, 0, by omega, rfl, rfl⟩
              case round =>
                obtain ⟨k, n2, hk, rfl, rfl⟩ := hrel
                by_cases hkl : k < (f i).length + 64
                · have hki : ((k : Nat) : Int) < ((f i).length : Int) + 64 := by omega
                  have HKL : Hid (k + 1 ≤ (f i).length + 64) := hkl
                  have heq := HNE.out
                  have hl4 : ∀ nn, (WX.drewN nn).rangeAt g4 (k * 16) (mkl i) := fun nn j u hu => HLO.out k hkl j u hu
                  have hlx : ∀ nn, (WX.drewN nn).rangeAt WJ.heap.size 0 (mkl i) := fun nn j u hu => by rw [Nat.zero_add]; exact HXB.out.cell j u hu
                  clear hk
                  by_cases hkf : k < (f i).length
                  · have hkj : ((k : Nat) : Int) < ((f i).length : Int) := by omega
                    obtain ⟨g3, hg3, hro⟩ := HRO.out k hkf
                    subst hg3
                    have hl3 : ∀ nn, (WX.drewN nn).rangeAt g3 (k * 16) (mkl i) := fun nn j u hu => hro j u hu
                    clear hro
                    go_wp2_with fail
                    refine region_skip (fun i9 v9 _ => match i9 with
                        | 0 => v9 = Value.slice (some { block := g2, off := 0 }) vs.length lc
                        | 1 => v9 = Value.int IntKind.i64 ((i : Nat) : Int)
                        | 2 => v9 = .pointer (some ⟨g2, i, none⟩)
                        | 3 => v9 = .slice (some ⟨g4, 0, none⟩) ((f i).length + 64) c4
                        | 4 => v9 = Value.int IntKind.i64 ((k : Nat) : Int)
                        | 5 => v9 = .pointer (some ⟨g4, k * 16, none⟩)
                        | 6 => v9 = .agg (mkl i).toArray
                        | 7 => v9 = .agg (mkl i).toArray
                        | 8 => v9 = .bool false
                        | 9 => v9 = .bool false
                        | 10 => v9 = Value.int IntKind.i64 ((k : Nat) : Int)
                        | 11 => v9 = Value.slice (some { block := gl, off := 0 }) vs.length cl
                        | 12 => v9 = Value.int IntKind.i64 ((i : Nat) : Int)
                        | 13 => v9 = .pointer (some ⟨gl, i, none⟩)
                        | 14 => v9 = .slice (some ⟨g3, 0, none⟩) (f i).length c3
                        | 15 => v9 = .int .i64 ((f i).length : Int)
                        | 16 => v9 = .bool true
                        | 17 => v9 = .bool true
                        | 18 => v9 = Value.slice (some { block := gl, off := 0 }) vs.length cl
                        | 19 => v9 = Value.int IntKind.i64 ((i : Nat) : Int)
                        | 20 => v9 = .pointer (some ⟨gl, i, none⟩)
                        | 21 => v9 = .slice (some ⟨g3, 0, none⟩) (f i).length c3
                        | 22 => v9 = Value.int IntKind.i64 ((k : Nat) : Int)
                        | 23 => v9 = .pointer (some ⟨g3, k * 16, none⟩)
                        | 24 => v9 = .agg (mkl i).toArray
                        | 25 => v9 = .agg (mkl i).toArray
                        | 26 => v9 = .bool false
                        | 27 => v9 = .bool false
                        | _ => v9 = .bool false) (fun w => ∃ nn, w = WX.drewN nn) hmx (by kernel_rfl) (by kernel_rfl) ⟨n2 + 1, rfl⟩ ?_ ?_ ?_
                    · as_aux_lemma =>
                        intro i9 v9 w8 w9 _ _ hb hG
                        match i9, hG with
                        | 0, h => exact h
                        | 1, h => exact h
                        | 2, h => exact h
                        | 3, h => exact h
                        | 4, h => exact h
                        | 5, h => exact h
                        | 6, h => exact h
                        | 7, h => exact h
                        | 8, h => exact h
                        | 9, h => exact h
                        | 10, h => exact h
                        | 11, h => exact h
                        | 12, h => exact h
                        | 13, h => exact h
                        | 14, h => exact h
                        | 15, h => exact h
                        | 16, h => exact h
                        | 17, h => exact h
                        | 18, h => exact h
                        | 19, h => exact h
                        | 20, h => exact h
                        | 21, h => exact h
                        | 22, h => exact h
                        | 23, h => exact h
                        | 24, h => exact h
                        | 25, h => exact h
                        | 26, h => exact h
                        | 27, h => exact h
                        | n + 28, h => exact h
                    · as_aux_lemma =>
                        intro i9 o9 ho a9 w9 hW hdf hsz hout haf
                        have ee0 := getq (show a9.tmps.getD 0 undef = Value.slice (some { block := gl, off := 0 }) vs.length cl from hout 0 (notDst_spec (by kernel_rfl)))
                        have ee3 := getq (show a9.tmps.getD 3 undef = Value.slice (some { block := g2, off := 0 }) vs.length lc from hout 3 (notDst_spec (by kernel_rfl)))
                        have ee9 := getq (show a9.tmps.getD 9 undef = Value.int IntKind.i64 ((i : Nat) : Int) from hout 9 (notDst_spec (by kernel_rfl)))
                        have ee10 := getq (show a9.tmps.getD 10 undef = Value.pointer (some { block := WJ.heap.size, off := 0 }) from hout 10 (notDst_spec (by kernel_rfl)))
                        have ee11 := getq (show a9.tmps.getD 11 undef = Value.int IntKind.i64 ((k : Nat) : Int) from hout 11 (notDst_spec (by kernel_rfl)))
                        have h10 : a9.tmps.getD 10 undef = .pointer (some ⟨WJ.heap.size, 0, none⟩) := hout 10 (notDst_spec (by kernel_rfl))
                        have hsz2 : a9.tmps.size = 107 := hsz
                        clear hout hsz hdf
                        match i9, ho, haf with
                        | 0, ho, haf =>
                          obtain rfl := Option.some.inj ho
                          refine skip_good _ (wanted_none rfl) ?_
                          clear haf ho hsz2
                          intro K hK
                          simp only [List.getElem_toArray, List.getElem_cons_zero] at hK ⊢
                          obtain ⟨nn, rfl⟩ := hW
                          go_simp
                          exact hK _ _ ⟨Below.refl _ _, ⟨nn, rfl⟩, rfl⟩
                        | 1, ho, haf =>
                          obtain rfl := Option.some.inj ho
                          refine skip_good _ (wanted_none rfl) ?_
                          clear haf ho hsz2
                          intro K hK
                          simp only [List.getElem_toArray, List.getElem_cons_succ, List.getElem_cons_zero] at hK ⊢
                          obtain ⟨nn, rfl⟩ := hW
                          go_simp
                          exact hK _ _ ⟨Below.refl _ _, ⟨nn, rfl⟩, rfl⟩
                        | 2, ho, haf =>
                          obtain rfl := Option.some.inj ho
                          have f0 := getq (show a9.tmps.getD 78 undef = Value.slice (some { block := g2, off := 0 }) vs.length lc from haf ⟨0, .data⟩ (by simp) rfl)
                          have f1 := getq (show a9.tmps.getD 79 undef = Value.int IntKind.i64 ((i : Nat) : Int) from haf ⟨1, .data⟩ (by simp) rfl)
                          refine skip_good _ (wanted_none rfl) ?_
                          clear haf ho hsz2
                          intro K hK
                          simp only [List.getElem_toArray, List.getElem_cons_succ, List.getElem_cons_zero] at hK ⊢
                          obtain ⟨nn, rfl⟩ := hW
                          go_simp
                          exact hK _ _ ⟨Below.refl _ _, ⟨nn, rfl⟩, rfl⟩
                        | 3, ho, haf =>
                          obtain rfl := Option.some.inj ho
                          have f2 := getq (show a9.tmps.getD 80 undef = .pointer (some ⟨g2, i, none⟩) from haf ⟨2, .data⟩ (by simp) rfl)
                          refine skip_good _ (wanted_none rfl) ?_
                          clear haf ho hsz2
                          intro K hK
                          simp only [List.getElem_toArray, List.getElem_cons_succ, List.getElem_cons_zero] at hK ⊢
                          obtain ⟨nn, rfl⟩ := hW
                          go_simp
                          exact hK _ _ ⟨Below.refl _ _, ⟨nn, rfl⟩, rfl⟩
                        | 4, ho, haf =>
                          obtain rfl := Option.some.inj ho
                          refine skip_good _ (wanted_none rfl) ?_
                          clear haf ho hsz2
                          intro K hK
                          simp only [List.getElem_toArray, List.getElem_cons_succ, List.getElem_cons_zero] at hK ⊢
                          obtain ⟨nn, rfl⟩ := hW
                          go_simp
                          exact hK _ _ ⟨Below.refl _ _, ⟨nn, rfl⟩, rfl⟩
                        | 5, ho, haf =>
                          obtain rfl := Option.some.inj ho
                          have f3 := getq (show a9.tmps.getD 81 undef = .slice (some ⟨g4, 0, none⟩) ((f i).length + 64) c4 from haf ⟨3, .data⟩ (by simp) rfl)
                          have f4 := getq (show a9.tmps.getD 82 undef = Value.int IntKind.i64 ((k : Nat) : Int) from haf ⟨4, .data⟩ (by simp) rfl)
                          refine skip_good _ (wanted_none rfl) ?_
                          clear haf ho hsz2
                          intro K hK
                          simp only [List.getElem_toArray, List.getElem_cons_succ, List.getElem_cons_zero] at hK ⊢
                          obtain ⟨nn, rfl⟩ := hW
                          go_simp
                          exact hK _ _ ⟨Below.refl _ _, ⟨nn, rfl⟩, rfl⟩
                        | 6, ho, haf =>
                          obtain rfl := Option.some.inj ho
                          have f5 := getq (show a9.tmps.getD 83 undef = .pointer (some ⟨g4, k * 16, none⟩) from haf ⟨5, .data⟩ (by simp) rfl)
                          refine skip_good _ (wanted_none rfl) ?_
                          have hx0 : a9.eval (Operand.tmp 83) = .pointer (some ⟨g4, k * 16, none⟩) := haf ⟨5, .data⟩ (by simp) rfl
                          clear haf ho hsz2
                          intro K hK
                          simp only [List.getElem_toArray, List.getElem_cons_succ, List.getElem_cons_zero] at hK ⊢
                          obtain ⟨nn, rfl⟩ := hW
                          exact wp_load_mid 43 _ rfl g4 (k * 16) hx0 (mkl i) _ (hl4 nn) Try.underlying43 rfl (by kernel_rfl) (hK _ _ ⟨Below.refl _ _, ⟨nn, rfl⟩, rfl⟩)
                        | 7, ho, haf =>
                          obtain rfl := Option.some.inj ho
                          refine skip_good _ (wanted_none rfl) ?_
                          have hx0 : a9.eval (Operand.tmp 10) = .pointer (some ⟨WJ.heap.size, 0, none⟩) := h10
                          clear haf ho hsz2
                          intro K hK
                          simp only [List.getElem_toArray, List.getElem_cons_succ, List.getElem_cons_zero] at hK ⊢
                          obtain ⟨nn, rfl⟩ := hW
                          exact wp_load_mid 43 _ rfl WJ.heap.size 0 hx0 (mkl i) _ (hlx nn) Try.underlying43 rfl (by kernel_rfl) (hK _ _ ⟨Below.refl _ _, ⟨nn, rfl⟩, rfl⟩)
                        | 8, ho, haf =>
                          obtain rfl := Option.some.inj ho
                          have f6 := getq (show a9.tmps.getD 84 undef = .agg (mkl i).toArray from haf ⟨6, .data⟩ (by simp) rfl)
                          have f7 := getq (show a9.tmps.getD 85 undef = .agg (mkl i).toArray from haf ⟨7, .data⟩ (by simp) rfl)
                          refine skip_good _ (wanted_none rfl) ?_
                          clear haf ho hsz2
                          intro K hK
                          simp only [List.getElem_toArray, List.getElem_cons_succ, List.getElem_cons_zero] at hK ⊢
                          obtain ⟨nn, rfl⟩ := hW
                          go_simp
                          exact hK _ _ ⟨Below.refl _ _, ⟨nn, rfl⟩, rfl⟩
                        | 9, ho, haf =>
                          obtain rfl := Option.some.inj ho
                          have f8 := getq (show a9.tmps.getD 86 undef = .bool false from haf ⟨8, .data⟩ (by simp) rfl)
                          refine skip_good _ (wanted_none rfl) ?_
                          clear haf ho hsz2
                          intro K hK
                          simp only [List.getElem_toArray, List.getElem_cons_succ, List.getElem_cons_zero] at hK ⊢
                          obtain ⟨nn, rfl⟩ := hW
                          go_simp
                          exact hK _ _ ⟨Below.refl _ _, ⟨nn, rfl⟩, rfl⟩
                        | 10, ho, haf =>
                          obtain rfl := Option.some.inj ho
                          have gg : a9.tmps.getD 87 undef = .bool false := haf ⟨9, .guard⟩ (by simp) rfl
                          refine skip_good _ (wanted_some rfl (yielded_of (d := 87) rfl (by omega) gg)) ?_
                          clear haf ho hsz2 gg
                          intro K hK
                          simp only [List.getElem_toArray, List.getElem_cons_succ, List.getElem_cons_zero] at hK ⊢
                          obtain ⟨nn, rfl⟩ := hW
                          go_simp
                          exact hK _ _ ⟨Below.refl _ _, ⟨nn, rfl⟩, rfl⟩
                        | 11, ho, haf =>
                          obtain rfl := Option.some.inj ho
                          have gg : a9.tmps.getD 87 undef = .bool false := haf ⟨9, .guard⟩ (by simp) rfl
                          refine skip_good _ (wanted_some rfl (yielded_of (d := 87) rfl (by omega) gg)) ?_
                          clear haf ho hsz2 gg
                          intro K hK
                          simp only [List.getElem_toArray, List.getElem_cons_succ, List.getElem_cons_zero] at hK ⊢
                          obtain ⟨nn, rfl⟩ := hW
                          go_simp
                          exact hK _ _ ⟨Below.refl _ _, ⟨nn, rfl⟩, rfl⟩
                        | 12, ho, haf =>
                          obtain rfl := Option.some.inj ho
                          have gg : a9.tmps.getD 87 undef = .bool false := haf ⟨9, .guard⟩ (by simp) rfl
                          refine skip_good _ (wanted_some rfl (yielded_of (d := 87) rfl (by omega) gg)) ?_
                          clear haf ho hsz2 gg
                          intro K hK
                          simp only [List.getElem_toArray, List.getElem_cons_succ, List.getElem_cons_zero] at hK ⊢
                          obtain ⟨nn, rfl⟩ := hW
                          go_simp
                          exact hK _ _ ⟨Below.refl _ _, ⟨nn, rfl⟩, rfl⟩
                        | 13, ho, haf =>
                          obtain rfl := Option.some.inj ho
                          have gg : a9.tmps.getD 87 undef = .bool false := haf ⟨9, .guard⟩ (by simp) rfl
                          have f11 := getq (show a9.tmps.getD 89 undef = Value.slice (some { block := gl, off := 0 }) vs.length cl from haf ⟨11, .data⟩ (by simp) rfl)
                          have f12 := getq (show a9.tmps.getD 90 undef = Value.int IntKind.i64 ((i : Nat) : Int) from haf ⟨12, .data⟩ (by simp) rfl)
                          refine skip_good _ (wanted_some rfl (yielded_of (d := 87) rfl (by omega) gg)) ?_
                          clear haf ho hsz2 gg
                          intro K hK
                          simp only [List.getElem_toArray, List.getElem_cons_succ, List.getElem_cons_zero] at hK ⊢
                          obtain ⟨nn, rfl⟩ := hW
                          go_simp
                          exact hK _ _ ⟨Below.refl _ _, ⟨nn, rfl⟩, rfl⟩
                        | 14, ho, haf =>
                          obtain rfl := Option.some.inj ho
                          have gg : a9.tmps.getD 87 undef = .bool false := haf ⟨9, .guard⟩ (by simp) rfl
                          have f13 := getq (show a9.tmps.getD 91 undef = .pointer (some ⟨gl, i, none⟩) from haf ⟨13, .data⟩ (by simp) rfl)
                          refine skip_good _ (wanted_some rfl (yielded_of (d := 87) rfl (by omega) gg)) ?_
                          clear haf ho hsz2 gg
                          intro K hK
                          simp only [List.getElem_toArray, List.getElem_cons_succ, List.getElem_cons_zero] at hK ⊢
                          obtain ⟨nn, rfl⟩ := hW
                          go_simp
                          exact hK _ _ ⟨Below.refl _ _, ⟨nn, rfl⟩, rfl⟩
                        | 15, ho, haf =>
                          obtain rfl := Option.some.inj ho
                          have gg : a9.tmps.getD 87 undef = .bool false := haf ⟨9, .guard⟩ (by simp) rfl
                          have f14 := getq (show a9.tmps.getD 92 undef = .slice (some ⟨g3, 0, none⟩) (f i).length c3 from haf ⟨14, .data⟩ (by simp) rfl)
                          refine skip_good _ (wanted_some rfl (yielded_of (d := 87) rfl (by omega) gg)) ?_
                          clear haf ho hsz2 gg
                          intro K hK
                          simp only [List.getElem_toArray, List.getElem_cons_succ, List.getElem_cons_zero] at hK ⊢
                          obtain ⟨nn, rfl⟩ := hW
                          go_simp
                          exact hK _ _ ⟨Below.refl _ _, ⟨nn, rfl⟩, rfl⟩
                        | 16, ho, haf =>
                          obtain rfl := Option.some.inj ho
                          have gg : a9.tmps.getD 87 undef = .bool false := haf ⟨9, .guard⟩ (by simp) rfl
                          have f10 := getq (show a9.tmps.getD 88 undef = Value.int IntKind.i64 ((k : Nat) : Int) from haf ⟨10, .data⟩ (by simp) rfl)
                          have f15 := getq (show a9.tmps.getD 93 undef = .int .i64 ((f i).length : Int) from haf ⟨15, .data⟩ (by simp) rfl)
                          refine skip_good _ (wanted_some rfl (yielded_of (d := 87) rfl (by omega) gg)) ?_
                          clear haf ho hsz2 gg
                          intro K hK
                          simp only [List.getElem_toArray, List.getElem_cons_succ, List.getElem_cons_zero] at hK ⊢
                          obtain ⟨nn, rfl⟩ := hW
                          go_simp
                          exact hK _ _ ⟨Below.refl _ _, ⟨nn, rfl⟩, (by first | rfl | (simp only [Value.bool.injEq, decide_eq_false_iff_not]; omega) | (simp only [Value.bool.injEq, decide_eq_true_eq]; omega))⟩
                        | 17, ho, haf =>
                          obtain rfl := Option.some.inj ho
                          have gg : a9.tmps.getD 87 undef = .bool false := haf ⟨9, .guard⟩ (by simp) rfl
                          have f16 := getq (show a9.tmps.getD 94 undef = .bool true from haf ⟨16, .data⟩ (by simp) rfl)
                          refine skip_good _ (wanted_some rfl (yielded_of (d := 87) rfl (by omega) gg)) ?_
                          clear haf ho hsz2 gg
                          intro K hK
                          simp only [List.getElem_toArray, List.getElem_cons_succ, List.getElem_cons_zero] at hK ⊢
                          obtain ⟨nn, rfl⟩ := hW
                          go_simp
                          exact hK _ _ ⟨Below.refl _ _, ⟨nn, rfl⟩, rfl⟩
                        | 18, ho, haf =>
                          obtain rfl := Option.some.inj ho
                          have gg : a9.tmps.getD 95 undef = .bool true := haf ⟨17, .guard⟩ (by simp) rfl
                          refine skip_good _ (wanted_some rfl (yielded_of (d := 95) rfl (by omega) gg)) ?_
                          clear haf ho hsz2 gg
                          intro K hK
                          simp only [List.getElem_toArray, List.getElem_cons_succ, List.getElem_cons_zero] at hK ⊢
                          obtain ⟨nn, rfl⟩ := hW
                          go_simp
                          exact hK _ _ ⟨Below.refl _ _, ⟨nn, rfl⟩, rfl⟩
                        | 19, ho, haf =>
                          obtain rfl := Option.some.inj ho
                          have gg : a9.tmps.getD 95 undef = .bool true := haf ⟨17, .guard⟩ (by simp) rfl
                          refine skip_good _ (wanted_some rfl (yielded_of (d := 95) rfl (by omega) gg)) ?_
                          clear haf ho hsz2 gg
                          intro K hK
                          simp only [List.getElem_toArray, List.getElem_cons_succ, List.getElem_cons_zero] at hK ⊢
                          obtain ⟨nn, rfl⟩ := hW
                          go_simp
                          exact hK _ _ ⟨Below.refl _ _, ⟨nn, rfl⟩, rfl⟩
                        | 20, ho, haf =>
                          obtain rfl := Option.some.inj ho
                          have gg : a9.tmps.getD 95 undef = .bool true := haf ⟨17, .guard⟩ (by simp) rfl
                          have f18 := getq (show a9.tmps.getD 96 undef = Value.slice (some { block := gl, off := 0 }) vs.length cl from haf ⟨18, .data⟩ (by simp) rfl)
                          have f19 := getq (show a9.tmps.getD 97 undef = Value.int IntKind.i64 ((i : Nat) : Int) from haf ⟨19, .data⟩ (by simp) rfl)
                          refine skip_good _ (wanted_some rfl (yielded_of (d := 95) rfl (by omega) gg)) ?_
                          clear haf ho hsz2 gg
                          intro K hK
                          simp only [List.getElem_toArray, List.getElem_cons_succ, List.getElem_cons_zero] at hK ⊢
                          obtain ⟨nn, rfl⟩ := hW
                          go_simp
                          exact hK _ _ ⟨Below.refl _ _, ⟨nn, rfl⟩, rfl⟩
                        | 21, ho, haf =>
                          obtain rfl := Option.some.inj ho
                          have gg : a9.tmps.getD 95 undef = .bool true := haf ⟨17, .guard⟩ (by simp) rfl
                          have f20 := getq (show a9.tmps.getD 98 undef = .pointer (some ⟨gl, i, none⟩) from haf ⟨20, .data⟩ (by simp) rfl)
                          refine skip_good _ (wanted_some rfl (yielded_of (d := 95) rfl (by omega) gg)) ?_
                          clear haf ho hsz2 gg
                          intro K hK
                          simp only [List.getElem_toArray, List.getElem_cons_succ, List.getElem_cons_zero] at hK ⊢
                          obtain ⟨nn, rfl⟩ := hW
                          go_simp
                          exact hK _ _ ⟨Below.refl _ _, ⟨nn, rfl⟩, rfl⟩
                        | 22, ho, haf =>
                          obtain rfl := Option.some.inj ho
                          have gg : a9.tmps.getD 95 undef = .bool true := haf ⟨17, .guard⟩ (by simp) rfl
                          refine skip_good _ (wanted_some rfl (yielded_of (d := 95) rfl (by omega) gg)) ?_
                          clear haf ho hsz2 gg
                          intro K hK
                          simp only [List.getElem_toArray, List.getElem_cons_succ, List.getElem_cons_zero] at hK ⊢
                          obtain ⟨nn, rfl⟩ := hW
                          go_simp
                          exact hK _ _ ⟨Below.refl _ _, ⟨nn, rfl⟩, rfl⟩
                        | 23, ho, haf =>
                          obtain rfl := Option.some.inj ho
                          have gg : a9.tmps.getD 95 undef = .bool true := haf ⟨17, .guard⟩ (by simp) rfl
                          have f21 := getq (show a9.tmps.getD 99 undef = .slice (some ⟨g3, 0, none⟩) (f i).length c3 from haf ⟨21, .data⟩ (by simp) rfl)
                          have f22 := getq (show a9.tmps.getD 100 undef = Value.int IntKind.i64 ((k : Nat) : Int) from haf ⟨22, .data⟩ (by simp) rfl)
                          refine skip_good _ (wanted_some rfl (yielded_of (d := 95) rfl (by omega) gg)) ?_
                          clear haf ho hsz2 gg
                          intro K hK
                          simp only [List.getElem_toArray, List.getElem_cons_succ, List.getElem_cons_zero] at hK ⊢
                          obtain ⟨nn, rfl⟩ := hW
                          go_simp
                          exact hK _ _ ⟨Below.refl _ _, ⟨nn, rfl⟩, rfl⟩
                        | 24, ho, haf =>
                          obtain rfl := Option.some.inj ho
                          have gg : a9.tmps.getD 95 undef = .bool true := haf ⟨17, .guard⟩ (by simp) rfl
                          have f23 := getq (show a9.tmps.getD 101 undef = .pointer (some ⟨g3, k * 16, none⟩) from haf ⟨23, .data⟩ (by simp) rfl)
                          refine skip_good _ (wanted_some rfl (yielded_of (d := 95) rfl (by omega) gg)) ?_
                          have hx0 : a9.eval (Operand.tmp 101) = .pointer (some ⟨g3, k * 16, none⟩) := haf ⟨23, .data⟩ (by simp) rfl
                          clear haf ho hsz2 gg
                          intro K hK
                          simp only [List.getElem_toArray, List.getElem_cons_succ, List.getElem_cons_zero] at hK ⊢
                          obtain ⟨nn, rfl⟩ := hW
                          exact wp_load_mid 43 _ rfl g3 (k * 16) hx0 (mkl i) _ (hl3 nn) Try.underlying43 rfl (by kernel_rfl) (hK _ _ ⟨Below.refl _ _, ⟨nn, rfl⟩, rfl⟩)
                        | 25, ho, haf =>
                          obtain rfl := Option.some.inj ho
                          have gg : a9.tmps.getD 95 undef = .bool true := haf ⟨17, .guard⟩ (by simp) rfl
                          refine skip_good _ (wanted_some rfl (yielded_of (d := 95) rfl (by omega) gg)) ?_
                          have hx0 : a9.eval (Operand.tmp 10) = .pointer (some ⟨WJ.heap.size, 0, none⟩) := h10
                          clear haf ho hsz2 gg
                          intro K hK
                          simp only [List.getElem_toArray, List.getElem_cons_succ, List.getElem_cons_zero] at hK ⊢
                          obtain ⟨nn, rfl⟩ := hW
                          exact wp_load_mid 43 _ rfl WJ.heap.size 0 hx0 (mkl i) _ (hlx nn) Try.underlying43 rfl (by kernel_rfl) (hK _ _ ⟨Below.refl _ _, ⟨nn, rfl⟩, rfl⟩)
                        | 26, ho, haf =>
                          obtain rfl := Option.some.inj ho
                          have gg : a9.tmps.getD 95 undef = .bool true := haf ⟨17, .guard⟩ (by simp) rfl
                          have f24 := getq (show a9.tmps.getD 102 undef = .agg (mkl i).toArray from haf ⟨24, .data⟩ (by simp) rfl)
                          have f25 := getq (show a9.tmps.getD 103 undef = .agg (mkl i).toArray from haf ⟨25, .data⟩ (by simp) rfl)
                          refine skip_good _ (wanted_some rfl (yielded_of (d := 95) rfl (by omega) gg)) ?_
                          clear haf ho hsz2 gg
                          intro K hK
                          simp only [List.getElem_toArray, List.getElem_cons_succ, List.getElem_cons_zero] at hK ⊢
                          obtain ⟨nn, rfl⟩ := hW
                          go_simp
                          exact hK _ _ ⟨Below.refl _ _, ⟨nn, rfl⟩, rfl⟩
                        | 27, ho, haf =>
                          obtain rfl := Option.some.inj ho
                          have gg : a9.tmps.getD 87 undef = .bool false := haf ⟨9, .guard⟩ (by simp) rfl
                          have f17 := getq (show a9.tmps.getD 95 undef = .bool true from haf ⟨17, .data⟩ (by simp) rfl)
                          have f26 := getq (show a9.tmps.getD 104 undef = .bool false from haf ⟨26, .data⟩ (by simp) rfl)
                          refine skip_good _ (wanted_some rfl (yielded_of (d := 87) rfl (by omega) gg)) ?_
                          clear haf ho hsz2 gg
                          intro K hK
                          simp only [List.getElem_toArray, List.getElem_cons_succ, List.getElem_cons_zero] at hK ⊢
                          obtain ⟨nn, rfl⟩ := hW
                          go_simp
                          exact hK _ _ ⟨Below.refl _ _, ⟨nn, rfl⟩, rfl⟩
                        | 28, ho, haf =>
                          obtain rfl := Option.some.inj ho
                          have f9 := getq (show a9.tmps.getD 87 undef = .bool false from haf ⟨9, .data⟩ (by simp) rfl)
                          have f27 := getq (show a9.tmps.getD 105 undef = .bool false from haf ⟨27, .data⟩ (by simp) rfl)
                          refine skip_good _ (wanted_none rfl) ?_
                          clear haf ho hsz2
                          intro K hK
                          simp only [List.getElem_toArray, List.getElem_cons_succ, List.getElem_cons_zero] at hK ⊢
                          obtain ⟨nn, rfl⟩ := hW
                          go_simp
                          exact hK _ _ ⟨Below.refl _ _, ⟨nn, rfl⟩, rfl⟩
                        | n + 29, ho, haf => simp at ho
                    · as_aux_lemma =>
                        intro aa w9 hW hdf hsz hout hall
                        have hat : aa.tmps = #[Value.slice (some { block := gl, off := 0 }) vs.length cl, undef, u2, Value.slice (some { block := g2, off := 0 }) vs.length lc, Value.int IntKind.i64 ((vs.length : Nat) : Int), u5, Value.int IntKind.i64 ((vs.length : Nat) : Int), u7, u8, Value.int IntKind.i64 ((i : Nat) : Int), Value.pointer (some { block := WJ.heap.size, off := 0 }), Value.int IntKind.i64 ((k : Nat) : Int), Value.int IntKind.i64 ((vs.length : Nat) : Int), Value.slice (some { block := gl, off := 0 }) vs.length cl, Value.int IntKind.i64 ((vs.length : Nat) : Int), Value.bool false, u16, u17, u18, u19, u20, u21, u22, u23, u24, u25, u26, u27, u28, u29, u30, u31, u32, u33, u34, u35, Value.int IntKind.i64 ((vs.length : Nat) : Int), Value.slice (some { block := gl, off := 0 }) vs.length cl, Value.int IntKind.i64 ((vs.length : Nat) : Int), Value.bool false, u40, u41, u42, u43, u44, u45, u46, u47, u48, u49, u50, u51, u52, u53, u54, u55, u56, u57, u58, u59, Value.int IntKind.i64 ((i : Nat) : Int), Value.slice (some { block := gl, off := 0 }) vs.length cl, Value.int IntKind.i64 ((vs.length : Nat) : Int), Value.bool true, u64, u65, Value.int IntKind.i64 ((i : Nat) : Int), Value.int IntKind.i64 (-7 - ((i : Nat) : Int)), Value.agg #[Value.int IntKind.i64 0, Value.int IntKind.u64 0, Value.int IntKind.i64 0, Value.string { data := #[] }, Value.string { data := #[] }, Value.int IntKind.u64 0, Value.int IntKind.i64 0, Value.int IntKind.i64 0, Value.int IntKind.i64 0, Value.string { data := #[] }, Value.int IntKind.i64 0, Value.int IntKind.i64 0, Value.int IntKind.i64 0, Value.int IntKind.u32 0, Value.int IntKind.i64 (-7 - ((i : Nat) : Int)), Value.int IntKind.i64 0], Value.int IntKind.i64 ((k : Nat) : Int), Value.slice (some { block := g2, off := 0 }) vs.length lc, Value.int IntKind.i64 ((i : Nat) : Int), Value.pointer (some { block := g2, off := i }), Value.slice (some { block := g4, off := 0 }) ((f i).length + 64) c4, Value.int IntKind.i64 ((((f i).length : Nat) : Int) + 64), Value.bool true, u76, u77, Value.slice (some { block := g2, off := 0 }) vs.length lc, Value.int IntKind.i64 ((i : Nat) : Int), .pointer (some ⟨g2, i, none⟩), .slice (some ⟨g4, 0, none⟩) ((f i).length + 64) c4, Value.int IntKind.i64 ((k : Nat) : Int), .pointer (some ⟨g4, k * 16, none⟩), .agg (mkl i).toArray, .agg (mkl i).toArray, .bool false, .bool false, Value.int IntKind.i64 ((k : Nat) : Int), Value.slice (some { block := gl, off := 0 }) vs.length cl, Value.int IntKind.i64 ((i : Nat) : Int), .pointer (some ⟨gl, i, none⟩), .slice (some ⟨g3, 0, none⟩) (f i).length c3, .int .i64 ((f i).length : Int), .bool true, .bool true, Value.slice (some { block := gl, off := 0 }) vs.length cl, Value.int IntKind.i64 ((i : Nat) : Int), .pointer (some ⟨gl, i, none⟩), .slice (some ⟨g3, 0, none⟩) (f i).length c3, Value.int IntKind.i64 ((k : Nat) : Int), .pointer (some ⟨g3, k * 16, none⟩), .agg (mkl i).toArray, .agg (mkl i).toArray, .bool false, .bool false, .bool false] := by
                          refine (tmps_of (lo := 78) (vs := [Value.slice (some { block := g2, off := 0 }) vs.length lc, Value.int IntKind.i64 ((i : Nat) : Int), .pointer (some ⟨g2, i, none⟩), .slice (some ⟨g4, 0, none⟩) ((f i).length + 64) c4, Value.int IntKind.i64 ((k : Nat) : Int), .pointer (some ⟨g4, k * 16, none⟩), .agg (mkl i).toArray, .agg (mkl i).toArray, .bool false, .bool false, Value.int IntKind.i64 ((k : Nat) : Int), Value.slice (some { block := gl, off := 0 }) vs.length cl, Value.int IntKind.i64 ((i : Nat) : Int), .pointer (some ⟨gl, i, none⟩), .slice (some ⟨g3, 0, none⟩) (f i).length c3, .int .i64 ((f i).length : Int), .bool true, .bool true, Value.slice (some { block := gl, off := 0 }) vs.length cl, Value.int IntKind.i64 ((i : Nat) : Int), .pointer (some ⟨gl, i, none⟩), .slice (some ⟨g3, 0, none⟩) (f i).length c3, Value.int IntKind.i64 ((k : Nat) : Int), .pointer (some ⟨g3, k * 16, none⟩), .agg (mkl i).toArray, .agg (mkl i).toArray, .bool false, .bool false, .bool false]) hsz (by kernel_rfl) (Nat.le_of_ble_eq_true (by kernel_rfl)) hout (fun i hi => ?_)).trans ?_
                          · match i, hi with
                            | 0, _ => exact hall 0 (by decide)
                            | 1, _ => exact hall 1 (by decide)
                            | 2, _ => exact hall 2 (by decide)
                            | 3, _ => exact hall 3 (by decide)
                            | 4, _ => exact hall 4 (by decide)
                            | 5, _ => exact hall 5 (by decide)
                            | 6, _ => exact hall 6 (by decide)
                            | 7, _ => exact hall 7 (by decide)
                            | 8, _ => exact hall 8 (by decide)
                            | 9, _ => exact hall 9 (by decide)
                            | 10, _ => exact hall 10 (by decide)
                            | 11, _ => exact hall 11 (by decide)
                            | 12, _ => exact hall 12 (by decide)
                            | 13, _ => exact hall 13 (by decide)
                            | 14, _ => exact hall 14 (by decide)
                            | 15, _ => exact hall 15 (by decide)
                            | 16, _ => exact hall 16 (by decide)
                            | 17, _ => exact hall 17 (by decide)
                            | 18, _ => exact hall 18 (by decide)
                            | 19, _ => exact hall 19 (by decide)
                            | 20, _ => exact hall 20 (by decide)
                            | 21, _ => exact hall 21 (by decide)
                            | 22, _ => exact hall 22 (by decide)
                            | 23, _ => exact hall 23 (by decide)
                            | 24, _ => exact hall 24 (by decide)
                            | 25, _ => exact hall 25 (by decide)
                            | 26, _ => exact hall 26 (by decide)
                            | 27, _ => exact hall 27 (by decide)
                            | 28, _ => exact hall 28 (by decide)
                            | n + 29, h => exact absurd h (by simp)
                          · rfl
                        obtain ⟨tt, dd⟩ := aa
                        simp only at hat hdf
                        subst hat hdf
                        clear hsz hout hall
                        obtain ⟨nn, rfl⟩ := hW
                        go_wp2_with fail
                        go_roundw
                        case rel => exact ⟨k + 1, _, HKL.out, by go_num, rfl⟩
                        case measure => have := HKL.out; simp [intOf]; omega
                  · have hkj : ¬ ((k : Nat) : Int) < ((f i).length : Int) := by omega
                    go_wp2_with fail
                    refine region_skip (fun i9 v9 _ => match i9 with
                        | 0 => v9 = Value.slice (some { block := g2, off := 0 }) vs.length lc
                        | 1 => v9 = Value.int IntKind.i64 ((i : Nat) : Int)
                        | 2 => v9 = .pointer (some ⟨g2, i, none⟩)
                        | 3 => v9 = .slice (some ⟨g4, 0, none⟩) ((f i).length + 64) c4
                        | 4 => v9 = Value.int IntKind.i64 ((k : Nat) : Int)
                        | 5 => v9 = .pointer (some ⟨g4, k * 16, none⟩)
                        | 6 => v9 = .agg (mkl i).toArray
                        | 7 => v9 = .agg (mkl i).toArray
                        | 8 => v9 = .bool false
                        | 9 => v9 = .bool false
                        | 10 => v9 = Value.int IntKind.i64 ((k : Nat) : Int)
                        | 11 => v9 = Value.slice (some { block := gl, off := 0 }) vs.length cl
                        | 12 => v9 = Value.int IntKind.i64 ((i : Nat) : Int)
                        | 13 => v9 = .pointer (some ⟨gl, i, none⟩)
                        | 14 => v9 = .slice a3 (f i).length c3
                        | 15 => v9 = .int .i64 ((f i).length : Int)
                        | 16 => v9 = .bool false
                        | 17 => v9 = .bool false
                        | 18 => v9 = undef
                        | 19 => v9 = undef
                        | 20 => v9 = undef
                        | 21 => v9 = undef
                        | 22 => v9 = undef
                        | 23 => v9 = undef
                        | 24 => v9 = undef
                        | 25 => v9 = undef
                        | 26 => v9 = undef
                        | 27 => v9 = .bool false
                        | _ => v9 = .bool false) (fun w => ∃ nn, w = WX.drewN nn) hmx (by kernel_rfl) (by kernel_rfl) ⟨n2 + 1, rfl⟩ ?_ ?_ ?_
                    · as_aux_lemma =>
                        intro i9 v9 w8 w9 _ _ hb hG
                        match i9, hG with
                        | 0, h => exact h
                        | 1, h => exact h
                        | 2, h => exact h
                        | 3, h => exact h
                        | 4, h => exact h
                        | 5, h => exact h
                        | 6, h => exact h
                        | 7, h => exact h
                        | 8, h => exact h
                        | 9, h => exact h
                        | 10, h => exact h
                        | 11, h => exact h
                        | 12, h => exact h
                        | 13, h => exact h
                        | 14, h => exact h
                        | 15, h => exact h
                        | 16, h => exact h
                        | 17, h => exact h
                        | 18, h => exact h
                        | 19, h => exact h
                        | 20, h => exact h
                        | 21, h => exact h
                        | 22, h => exact h
                        | 23, h => exact h
                        | 24, h => exact h
                        | 25, h => exact h
                        | 26, h => exact h
                        | 27, h => exact h
                        | n + 28, h => exact h
                    · as_aux_lemma =>
                        intro i9 o9 ho a9 w9 hW hdf hsz hout haf
                        have ee0 := getq (show a9.tmps.getD 0 undef = Value.slice (some { block := gl, off := 0 }) vs.length cl from hout 0 (notDst_spec (by kernel_rfl)))
                        have ee3 := getq (show a9.tmps.getD 3 undef = Value.slice (some { block := g2, off := 0 }) vs.length lc from hout 3 (notDst_spec (by kernel_rfl)))
                        have ee9 := getq (show a9.tmps.getD 9 undef = Value.int IntKind.i64 ((i : Nat) : Int) from hout 9 (notDst_spec (by kernel_rfl)))
                        have ee10 := getq (show a9.tmps.getD 10 undef = Value.pointer (some { block := WJ.heap.size, off := 0 }) from hout 10 (notDst_spec (by kernel_rfl)))
                        have ee11 := getq (show a9.tmps.getD 11 undef = Value.int IntKind.i64 ((k : Nat) : Int) from hout 11 (notDst_spec (by kernel_rfl)))
                        have h10 : a9.tmps.getD 10 undef = .pointer (some ⟨WJ.heap.size, 0, none⟩) := hout 10 (notDst_spec (by kernel_rfl))
                        have hsz2 : a9.tmps.size = 107 := hsz
                        clear hout hsz hdf
                        match i9, ho, haf with
                        | 0, ho, haf =>
                          obtain rfl := Option.some.inj ho
                          refine skip_good _ (wanted_none rfl) ?_
                          clear haf ho hsz2
                          intro K hK
                          simp only [List.getElem_toArray, List.getElem_cons_zero] at hK ⊢
                          obtain ⟨nn, rfl⟩ := hW
                          go_simp
                          exact hK _ _ ⟨Below.refl _ _, ⟨nn, rfl⟩, rfl⟩
                        | 1, ho, haf =>
                          obtain rfl := Option.some.inj ho
                          refine skip_good _ (wanted_none rfl) ?_
                          clear haf ho hsz2
                          intro K hK
                          simp only [List.getElem_toArray, List.getElem_cons_succ, List.getElem_cons_zero] at hK ⊢
                          obtain ⟨nn, rfl⟩ := hW
                          go_simp
                          exact hK _ _ ⟨Below.refl _ _, ⟨nn, rfl⟩, rfl⟩
                        | 2, ho, haf =>
                          obtain rfl := Option.some.inj ho
                          have f0 := getq (show a9.tmps.getD 78 undef = Value.slice (some { block := g2, off := 0 }) vs.length lc from haf ⟨0, .data⟩ (by simp) rfl)
                          have f1 := getq (show a9.tmps.getD 79 undef = Value.int IntKind.i64 ((i : Nat) : Int) from haf ⟨1, .data⟩ (by simp) rfl)
                          refine skip_good _ (wanted_none rfl) ?_
                          clear haf ho hsz2
                          intro K hK
                          simp only [List.getElem_toArray, List.getElem_cons_succ, List.getElem_cons_zero] at hK ⊢
                          obtain ⟨nn, rfl⟩ := hW
                          go_simp
                          exact hK _ _ ⟨Below.refl _ _, ⟨nn, rfl⟩, rfl⟩
                        | 3, ho, haf =>
                          obtain rfl := Option.some.inj ho
                          have f2 := getq (show a9.tmps.getD 80 undef = .pointer (some ⟨g2, i, none⟩) from haf ⟨2, .data⟩ (by simp) rfl)
                          refine skip_good _ (wanted_none rfl) ?_
                          clear haf ho hsz2
                          intro K hK
                          simp only [List.getElem_toArray, List.getElem_cons_succ, List.getElem_cons_zero] at hK ⊢
                          obtain ⟨nn, rfl⟩ := hW
                          go_simp
                          exact hK _ _ ⟨Below.refl _ _, ⟨nn, rfl⟩, rfl⟩
                        | 4, ho, haf =>
                          obtain rfl := Option.some.inj ho
                          refine skip_good _ (wanted_none rfl) ?_
                          clear haf ho hsz2
                          intro K hK
                          simp only [List.getElem_toArray, List.getElem_cons_succ, List.getElem_cons_zero] at hK ⊢
                          obtain ⟨nn, rfl⟩ := hW
                          go_simp
                          exact hK _ _ ⟨Below.refl _ _, ⟨nn, rfl⟩, rfl⟩
                        | 5, ho, haf =>
                          obtain rfl := Option.some.inj ho
                          have f3 := getq (show a9.tmps.getD 81 undef = .slice (some ⟨g4, 0, none⟩) ((f i).length + 64) c4 from haf ⟨3, .data⟩ (by simp) rfl)
                          have f4 := getq (show a9.tmps.getD 82 undef = Value.int IntKind.i64 ((k : Nat) : Int) from haf ⟨4, .data⟩ (by simp) rfl)
                          refine skip_good _ (wanted_none rfl) ?_
                          clear haf ho hsz2
                          intro K hK
                          simp only [List.getElem_toArray, List.getElem_cons_succ, List.getElem_cons_zero] at hK ⊢
                          obtain ⟨nn, rfl⟩ := hW
                          go_simp
                          exact hK _ _ ⟨Below.refl _ _, ⟨nn, rfl⟩, rfl⟩
                        | 6, ho, haf =>
                          obtain rfl := Option.some.inj ho
                          have f5 := getq (show a9.tmps.getD 83 undef = .pointer (some ⟨g4, k * 16, none⟩) from haf ⟨5, .data⟩ (by simp) rfl)
                          refine skip_good _ (wanted_none rfl) ?_
                          have hx0 : a9.eval (Operand.tmp 83) = .pointer (some ⟨g4, k * 16, none⟩) := haf ⟨5, .data⟩ (by simp) rfl
                          clear haf ho hsz2
                          intro K hK
                          simp only [List.getElem_toArray, List.getElem_cons_succ, List.getElem_cons_zero] at hK ⊢
                          obtain ⟨nn, rfl⟩ := hW
                          exact wp_load_mid 43 _ rfl g4 (k * 16) hx0 (mkl i) _ (hl4 nn) Try.underlying43 rfl (by kernel_rfl) (hK _ _ ⟨Below.refl _ _, ⟨nn, rfl⟩, rfl⟩)
                        | 7, ho, haf =>
                          obtain rfl := Option.some.inj ho
                          refine skip_good _ (wanted_none rfl) ?_
                          have hx0 : a9.eval (Operand.tmp 10) = .pointer (some ⟨WJ.heap.size, 0, none⟩) := h10
                          clear haf ho hsz2
                          intro K hK
                          simp only [List.getElem_toArray, List.getElem_cons_succ, List.getElem_cons_zero] at hK ⊢
                          obtain ⟨nn, rfl⟩ := hW
                          exact wp_load_mid 43 _ rfl WJ.heap.size 0 hx0 (mkl i) _ (hlx nn) Try.underlying43 rfl (by kernel_rfl) (hK _ _ ⟨Below.refl _ _, ⟨nn, rfl⟩, rfl⟩)
                        | 8, ho, haf =>
                          obtain rfl := Option.some.inj ho
                          have f6 := getq (show a9.tmps.getD 84 undef = .agg (mkl i).toArray from haf ⟨6, .data⟩ (by simp) rfl)
                          have f7 := getq (show a9.tmps.getD 85 undef = .agg (mkl i).toArray from haf ⟨7, .data⟩ (by simp) rfl)
                          refine skip_good _ (wanted_none rfl) ?_
                          clear haf ho hsz2
                          intro K hK
                          simp only [List.getElem_toArray, List.getElem_cons_succ, List.getElem_cons_zero] at hK ⊢
                          obtain ⟨nn, rfl⟩ := hW
                          go_simp
                          exact hK _ _ ⟨Below.refl _ _, ⟨nn, rfl⟩, rfl⟩
                        | 9, ho, haf =>
                          obtain rfl := Option.some.inj ho
                          have f8 := getq (show a9.tmps.getD 86 undef = .bool false from haf ⟨8, .data⟩ (by simp) rfl)
                          refine skip_good _ (wanted_none rfl) ?_
                          clear haf ho hsz2
                          intro K hK
                          simp only [List.getElem_toArray, List.getElem_cons_succ, List.getElem_cons_zero] at hK ⊢
                          obtain ⟨nn, rfl⟩ := hW
                          go_simp
                          exact hK _ _ ⟨Below.refl _ _, ⟨nn, rfl⟩, rfl⟩
                        | 10, ho, haf =>
                          obtain rfl := Option.some.inj ho
                          have gg : a9.tmps.getD 87 undef = .bool false := haf ⟨9, .guard⟩ (by simp) rfl
                          refine skip_good _ (wanted_some rfl (yielded_of (d := 87) rfl (by omega) gg)) ?_
                          clear haf ho hsz2 gg
                          intro K hK
                          simp only [List.getElem_toArray, List.getElem_cons_succ, List.getElem_cons_zero] at hK ⊢
                          obtain ⟨nn, rfl⟩ := hW
                          go_simp
                          exact hK _ _ ⟨Below.refl _ _, ⟨nn, rfl⟩, rfl⟩
                        | 11, ho, haf =>
                          obtain rfl := Option.some.inj ho
                          have gg : a9.tmps.getD 87 undef = .bool false := haf ⟨9, .guard⟩ (by simp) rfl
                          refine skip_good _ (wanted_some rfl (yielded_of (d := 87) rfl (by omega) gg)) ?_
                          clear haf ho hsz2 gg
                          intro K hK
                          simp only [List.getElem_toArray, List.getElem_cons_succ, List.getElem_cons_zero] at hK ⊢
                          obtain ⟨nn, rfl⟩ := hW
                          go_simp
                          exact hK _ _ ⟨Below.refl _ _, ⟨nn, rfl⟩, rfl⟩
                        | 12, ho, haf =>
                          obtain rfl := Option.some.inj ho
                          have gg : a9.tmps.getD 87 undef = .bool false := haf ⟨9, .guard⟩ (by simp) rfl
                          refine skip_good _ (wanted_some rfl (yielded_of (d := 87) rfl (by omega) gg)) ?_
                          clear haf ho hsz2 gg
                          intro K hK
                          simp only [List.getElem_toArray, List.getElem_cons_succ, List.getElem_cons_zero] at hK ⊢
                          obtain ⟨nn, rfl⟩ := hW
                          go_simp
                          exact hK _ _ ⟨Below.refl _ _, ⟨nn, rfl⟩, rfl⟩
                        | 13, ho, haf =>
                          obtain rfl := Option.some.inj ho
                          have gg : a9.tmps.getD 87 undef = .bool false := haf ⟨9, .guard⟩ (by simp) rfl
                          have f11 := getq (show a9.tmps.getD 89 undef = Value.slice (some { block := gl, off := 0 }) vs.length cl from haf ⟨11, .data⟩ (by simp) rfl)
                          have f12 := getq (show a9.tmps.getD 90 undef = Value.int IntKind.i64 ((i : Nat) : Int) from haf ⟨12, .data⟩ (by simp) rfl)
                          refine skip_good _ (wanted_some rfl (yielded_of (d := 87) rfl (by omega) gg)) ?_
                          clear haf ho hsz2 gg
                          intro K hK
                          simp only [List.getElem_toArray, List.getElem_cons_succ, List.getElem_cons_zero] at hK ⊢
                          obtain ⟨nn, rfl⟩ := hW
                          go_simp
                          exact hK _ _ ⟨Below.refl _ _, ⟨nn, rfl⟩, rfl⟩
                        | 14, ho, haf =>
                          obtain rfl := Option.some.inj ho
                          have gg : a9.tmps.getD 87 undef = .bool false := haf ⟨9, .guard⟩ (by simp) rfl
                          have f13 := getq (show a9.tmps.getD 91 undef = .pointer (some ⟨gl, i, none⟩) from haf ⟨13, .data⟩ (by simp) rfl)
                          refine skip_good _ (wanted_some rfl (yielded_of (d := 87) rfl (by omega) gg)) ?_
                          clear haf ho hsz2 gg
                          intro K hK
                          simp only [List.getElem_toArray, List.getElem_cons_succ, List.getElem_cons_zero] at hK ⊢
                          obtain ⟨nn, rfl⟩ := hW
                          go_simp
                          exact hK _ _ ⟨Below.refl _ _, ⟨nn, rfl⟩, rfl⟩
                        | 15, ho, haf =>
                          obtain rfl := Option.some.inj ho
                          have gg : a9.tmps.getD 87 undef = .bool false := haf ⟨9, .guard⟩ (by simp) rfl
                          have f14 := getq (show a9.tmps.getD 92 undef = .slice a3 (f i).length c3 from haf ⟨14, .data⟩ (by simp) rfl)
                          refine skip_good _ (wanted_some rfl (yielded_of (d := 87) rfl (by omega) gg)) ?_
                          clear haf ho hsz2 gg
                          intro K hK
                          simp only [List.getElem_toArray, List.getElem_cons_succ, List.getElem_cons_zero] at hK ⊢
                          obtain ⟨nn, rfl⟩ := hW
                          go_simp
                          exact hK _ _ ⟨Below.refl _ _, ⟨nn, rfl⟩, rfl⟩
                        | 16, ho, haf =>
                          obtain rfl := Option.some.inj ho
                          have gg : a9.tmps.getD 87 undef = .bool false := haf ⟨9, .guard⟩ (by simp) rfl
                          have f10 := getq (show a9.tmps.getD 88 undef = Value.int IntKind.i64 ((k : Nat) : Int) from haf ⟨10, .data⟩ (by simp) rfl)
                          have f15 := getq (show a9.tmps.getD 93 undef = .int .i64 ((f i).length : Int) from haf ⟨15, .data⟩ (by simp) rfl)
                          refine skip_good _ (wanted_some rfl (yielded_of (d := 87) rfl (by omega) gg)) ?_
                          clear haf ho hsz2 gg
                          intro K hK
                          simp only [List.getElem_toArray, List.getElem_cons_succ, List.getElem_cons_zero] at hK ⊢
                          obtain ⟨nn, rfl⟩ := hW
                          go_simp
                          exact hK _ _ ⟨Below.refl _ _, ⟨nn, rfl⟩, (by first | rfl | (simp only [Value.bool.injEq, decide_eq_false_iff_not]; omega) | (simp only [Value.bool.injEq, decide_eq_true_eq]; omega))⟩
                        | 17, ho, haf =>
                          obtain rfl := Option.some.inj ho
                          have gg : a9.tmps.getD 87 undef = .bool false := haf ⟨9, .guard⟩ (by simp) rfl
                          have f16 := getq (show a9.tmps.getD 94 undef = .bool false from haf ⟨16, .data⟩ (by simp) rfl)
                          refine skip_good _ (wanted_some rfl (yielded_of (d := 87) rfl (by omega) gg)) ?_
                          clear haf ho hsz2 gg
                          intro K hK
                          simp only [List.getElem_toArray, List.getElem_cons_succ, List.getElem_cons_zero] at hK ⊢
                          obtain ⟨nn, rfl⟩ := hW
                          go_simp
                          exact hK _ _ ⟨Below.refl _ _, ⟨nn, rfl⟩, rfl⟩
                        | 18, ho, haf =>
                          obtain rfl := Option.some.inj ho
                          have gg : a9.tmps.getD 95 undef = .bool false := haf ⟨17, .guard⟩ (by simp) rfl
                          exact skip_no (b := false) rfl (yielded_of (d := 95) rfl (by omega) gg) rfl
                        | 19, ho, haf =>
                          obtain rfl := Option.some.inj ho
                          have gg : a9.tmps.getD 95 undef = .bool false := haf ⟨17, .guard⟩ (by simp) rfl
                          exact skip_no (b := false) rfl (yielded_of (d := 95) rfl (by omega) gg) rfl
                        | 20, ho, haf =>
                          obtain rfl := Option.some.inj ho
                          have gg : a9.tmps.getD 95 undef = .bool false := haf ⟨17, .guard⟩ (by simp) rfl
                          exact skip_no (b := false) rfl (yielded_of (d := 95) rfl (by omega) gg) rfl
                        | 21, ho, haf =>
                          obtain rfl := Option.some.inj ho
                          have gg : a9.tmps.getD 95 undef = .bool false := haf ⟨17, .guard⟩ (by simp) rfl
                          exact skip_no (b := false) rfl (yielded_of (d := 95) rfl (by omega) gg) rfl
                        | 22, ho, haf =>
                          obtain rfl := Option.some.inj ho
                          have gg : a9.tmps.getD 95 undef = .bool false := haf ⟨17, .guard⟩ (by simp) rfl
                          exact skip_no (b := false) rfl (yielded_of (d := 95) rfl (by omega) gg) rfl
                        | 23, ho, haf =>
                          obtain rfl := Option.some.inj ho
                          have gg : a9.tmps.getD 95 undef = .bool false := haf ⟨17, .guard⟩ (by simp) rfl
                          exact skip_no (b := false) rfl (yielded_of (d := 95) rfl (by omega) gg) rfl
                        | 24, ho, haf =>
                          obtain rfl := Option.some.inj ho
                          have gg : a9.tmps.getD 95 undef = .bool false := haf ⟨17, .guard⟩ (by simp) rfl
                          exact skip_no (b := false) rfl (yielded_of (d := 95) rfl (by omega) gg) rfl
                        | 25, ho, haf =>
                          obtain rfl := Option.some.inj ho
                          have gg : a9.tmps.getD 95 undef = .bool false := haf ⟨17, .guard⟩ (by simp) rfl
                          exact skip_no (b := false) rfl (yielded_of (d := 95) rfl (by omega) gg) rfl
                        | 26, ho, haf =>
                          obtain rfl := Option.some.inj ho
                          have gg : a9.tmps.getD 95 undef = .bool false := haf ⟨17, .guard⟩ (by simp) rfl
                          exact skip_no (b := false) rfl (yielded_of (d := 95) rfl (by omega) gg) rfl
                        | 27, ho, haf =>
                          obtain rfl := Option.some.inj ho
                          have gg : a9.tmps.getD 87 undef = .bool false := haf ⟨9, .guard⟩ (by simp) rfl
                          have f17 := getq (show a9.tmps.getD 95 undef = .bool false from haf ⟨17, .data⟩ (by simp) rfl)
                          have f26 := getq (show a9.tmps.getD 104 undef = undef from haf ⟨26, .data⟩ (by simp) rfl)
                          refine skip_good _ (wanted_some rfl (yielded_of (d := 87) rfl (by omega) gg)) ?_
                          clear haf ho hsz2 gg
                          intro K hK
                          simp only [List.getElem_toArray, List.getElem_cons_succ, List.getElem_cons_zero] at hK ⊢
                          obtain ⟨nn, rfl⟩ := hW
                          go_simp
                          exact hK _ _ ⟨Below.refl _ _, ⟨nn, rfl⟩, rfl⟩
                        | 28, ho, haf =>
                          obtain rfl := Option.some.inj ho
                          have f9 := getq (show a9.tmps.getD 87 undef = .bool false from haf ⟨9, .data⟩ (by simp) rfl)
                          have f27 := getq (show a9.tmps.getD 105 undef = .bool false from haf ⟨27, .data⟩ (by simp) rfl)
                          refine skip_good _ (wanted_none rfl) ?_
                          clear haf ho hsz2
                          intro K hK
                          simp only [List.getElem_toArray, List.getElem_cons_succ, List.getElem_cons_zero] at hK ⊢
                          obtain ⟨nn, rfl⟩ := hW
                          go_simp
                          exact hK _ _ ⟨Below.refl _ _, ⟨nn, rfl⟩, rfl⟩
                        | n + 29, ho, haf => simp at ho
                    · as_aux_lemma =>
                        intro aa w9 hW hdf hsz hout hall
                        have hat : aa.tmps = #[Value.slice (some { block := gl, off := 0 }) vs.length cl, undef, u2, Value.slice (some { block := g2, off := 0 }) vs.length lc, Value.int IntKind.i64 ((vs.length : Nat) : Int), u5, Value.int IntKind.i64 ((vs.length : Nat) : Int), u7, u8, Value.int IntKind.i64 ((i : Nat) : Int), Value.pointer (some { block := WJ.heap.size, off := 0 }), Value.int IntKind.i64 ((k : Nat) : Int), Value.int IntKind.i64 ((vs.length : Nat) : Int), Value.slice (some { block := gl, off := 0 }) vs.length cl, Value.int IntKind.i64 ((vs.length : Nat) : Int), Value.bool false, u16, u17, u18, u19, u20, u21, u22, u23, u24, u25, u26, u27, u28, u29, u30, u31, u32, u33, u34, u35, Value.int IntKind.i64 ((vs.length : Nat) : Int), Value.slice (some { block := gl, off := 0 }) vs.length cl, Value.int IntKind.i64 ((vs.length : Nat) : Int), Value.bool false, u40, u41, u42, u43, u44, u45, u46, u47, u48, u49, u50, u51, u52, u53, u54, u55, u56, u57, u58, u59, Value.int IntKind.i64 ((i : Nat) : Int), Value.slice (some { block := gl, off := 0 }) vs.length cl, Value.int IntKind.i64 ((vs.length : Nat) : Int), Value.bool true, u64, u65, Value.int IntKind.i64 ((i : Nat) : Int), Value.int IntKind.i64 (-7 - ((i : Nat) : Int)), Value.agg #[Value.int IntKind.i64 0, Value.int IntKind.u64 0, Value.int IntKind.i64 0, Value.string { data := #[] }, Value.string { data := #[] }, Value.int IntKind.u64 0, Value.int IntKind.i64 0, Value.int IntKind.i64 0, Value.int IntKind.i64 0, Value.string { data := #[] }, Value.int IntKind.i64 0, Value.int IntKind.i64 0, Value.int IntKind.i64 0, Value.int IntKind.u32 0, Value.int IntKind.i64 (-7 - ((i : Nat) : Int)), Value.int IntKind.i64 0], Value.int IntKind.i64 ((k : Nat) : Int), Value.slice (some { block := g2, off := 0 }) vs.length lc, Value.int IntKind.i64 ((i : Nat) : Int), Value.pointer (some { block := g2, off := i }), Value.slice (some { block := g4, off := 0 }) ((f i).length + 64) c4, Value.int IntKind.i64 ((((f i).length : Nat) : Int) + 64), Value.bool true, u76, u77, Value.slice (some { block := g2, off := 0 }) vs.length lc, Value.int IntKind.i64 ((i : Nat) : Int), .pointer (some ⟨g2, i, none⟩), .slice (some ⟨g4, 0, none⟩) ((f i).length + 64) c4, Value.int IntKind.i64 ((k : Nat) : Int), .pointer (some ⟨g4, k * 16, none⟩), .agg (mkl i).toArray, .agg (mkl i).toArray, .bool false, .bool false, Value.int IntKind.i64 ((k : Nat) : Int), Value.slice (some { block := gl, off := 0 }) vs.length cl, Value.int IntKind.i64 ((i : Nat) : Int), .pointer (some ⟨gl, i, none⟩), .slice a3 (f i).length c3, .int .i64 ((f i).length : Int), .bool false, .bool false, undef, undef, undef, undef, undef, undef, undef, undef, undef, .bool false, .bool false] := by
                          refine (tmps_of (lo := 78) (vs := [Value.slice (some { block := g2, off := 0 }) vs.length lc, Value.int IntKind.i64 ((i : Nat) : Int), .pointer (some ⟨g2, i, none⟩), .slice (some ⟨g4, 0, none⟩) ((f i).length + 64) c4, Value.int IntKind.i64 ((k : Nat) : Int), .pointer (some ⟨g4, k * 16, none⟩), .agg (mkl i).toArray, .agg (mkl i).toArray, .bool false, .bool false, Value.int IntKind.i64 ((k : Nat) : Int), Value.slice (some { block := gl, off := 0 }) vs.length cl, Value.int IntKind.i64 ((i : Nat) : Int), .pointer (some ⟨gl, i, none⟩), .slice a3 (f i).length c3, .int .i64 ((f i).length : Int), .bool false, .bool false, undef, undef, undef, undef, undef, undef, undef, undef, undef, .bool false, .bool false]) hsz (by kernel_rfl) (Nat.le_of_ble_eq_true (by kernel_rfl)) hout (fun i hi => ?_)).trans ?_
                          · match i, hi with
                            | 0, _ => exact hall 0 (by decide)
                            | 1, _ => exact hall 1 (by decide)
                            | 2, _ => exact hall 2 (by decide)
                            | 3, _ => exact hall 3 (by decide)
                            | 4, _ => exact hall 4 (by decide)
                            | 5, _ => exact hall 5 (by decide)
                            | 6, _ => exact hall 6 (by decide)
                            | 7, _ => exact hall 7 (by decide)
                            | 8, _ => exact hall 8 (by decide)
                            | 9, _ => exact hall 9 (by decide)
                            | 10, _ => exact hall 10 (by decide)
                            | 11, _ => exact hall 11 (by decide)
                            | 12, _ => exact hall 12 (by decide)
                            | 13, _ => exact hall 13 (by decide)
                            | 14, _ => exact hall 14 (by decide)
                            | 15, _ => exact hall 15 (by decide)
                            | 16, _ => exact hall 16 (by decide)
                            | 17, _ => exact hall 17 (by decide)
                            | 18, _ => exact hall 18 (by decide)
                            | 19, _ => exact hall 19 (by decide)
                            | 20, _ => exact hall 20 (by decide)
                            | 21, _ => exact hall 21 (by decide)
                            | 22, _ => exact hall 22 (by decide)
                            | 23, _ => exact hall 23 (by decide)
                            | 24, _ => exact hall 24 (by decide)
                            | 25, _ => exact hall 25 (by decide)
                            | 26, _ => exact hall 26 (by decide)
                            | 27, _ => exact hall 27 (by decide)
                            | 28, _ => exact hall 28 (by decide)
                            | n + 29, h => exact absurd h (by simp)
                          · rfl
                        obtain ⟨tt, dd⟩ := aa
                        simp only at hat hdf
                        subst hat hdf
                        clear hsz hout hall
                        obtain ⟨nn, rfl⟩ := hW
                        go_wp2_with fail
                        go_roundw
                        case rel => exact ⟨k + 1, _, HKL.out, by go_num, rfl⟩
                        case measure => have := HKL.out; simp [intOf]; omega
                · have hki : ¬ ((k : Nat) : Int) < ((f i).length : Int) + 64 := by omega
                  clear hk hkl
                  go_wp2_with fail
                  exact ⟨⟨i + 1, HLT.out, by go_num, HI6.out.keep hbase (below_drewN (Below.refl _ _) _)⟩, by have := HLT.out; simp [intOf]; omega⟩
            · have hii : ¬ ((i : Nat) : Int) < (vs.length : Int) := by omega
              have HBE := hd HI5.out.in2.below
              have HKE : Hid (Kept w WJ vs) := HI5.out.in2.kept
              clear hi hlt
              go_wp2_with fail
              go_ret
              exact ⟨rfl, HBE.out, HKE.out⟩
end Os
end Go.Proofs.Ytifjjoobbegpoaa
