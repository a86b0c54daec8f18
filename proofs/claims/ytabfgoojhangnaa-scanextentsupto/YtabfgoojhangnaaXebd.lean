/-
  salvorlaw5's Book: all its lists, and the longer ones, are looked at ('looks').
-/
import Derived.Test.YtabfgoojhangnaaXebc
import Derived.Deep.MidRow
namespace Go.Proofs.Ytabfgoojhangnaa
open Go.ChangeShapes Go.WideShapes Go.ChangeAt Go.RowKit Go.Shelf
namespace Os
open Vt Ow
theorem neq_mke (i : Nat) (w : World) : (binOp .neq 59 (.agg (mke i).toArray) (.agg (mke i).toArray)).run Try.prog w = .ok (.bool false) w := by
  unfold mke
  simp [go_sem, Op.eqFields]
set_option pp.maxSteps 1000000 in
set_option maxRecDepth 100000 in
set_option maxHeartbeats 40000000 in
theorem blooks_is (w : World) (base X gl cl : Nat) (vs gs : List Value) (f : Nat → List (List Value)) (la : Option Addr) (lc : Nat) (h : B3 XE XS XB 3 mke base X (.slice (some ⟨gl, 0, none⟩) vs.length cl) vs f w gs (.slice la vs.length lc)) (hm : vs.length ≤ 40) (hf : ∀ i, (f i).length ≤ 16777216) :
    Calls Try.prog 17 #[.pointer (some ⟨X, 0, none⟩)] w fun e w' => e = .returned (.bool true) ∧ Below w.heap.size w w' := by
  have H := hd h
  obtain ⟨_, hlc, hcm, hgl, _, _⟩ := h.list.at
  unfold maxLen at hcm
  clear h
  have hmx : Try.prog.follows .mixedOrders = true := by kernel_rfl
  go_enter Try.func17, Try.ntmps17
  go_wp2_with fail
  go_loopw [3] (fun x wr => ∃ i : Nat, i ≤ vs.length ∧ x = .int .i64 (i : Int) ∧ Below w.heap.size w wr) (fun x _ => vs.length - (intOf x).toNat)
  case atStart => exact ⟨0, by omega, rfl, Below.refl _ _⟩
  case round =>
    obtain ⟨i, hi, rfl, hI⟩ := hrel
    obtain ⟨WJ, hWJ⟩ : ∃ WJ, WJ = wr := ⟨_, rfl⟩
    subst hWJ
    have HI5 := hd hI
    have HJ := hd (H.out.keep hI)
    have hb1 := HJ.out.box.cell 1 _ rfl
    clear hI
    by_cases hlt : i < vs.length
    · have hii : ((i : Nat) : Int) < (vs.length : Int) := by omega
      have HLT : Hid (i + 1 ≤ vs.length) := hlt
      have hfi := hf i
      have HNE := hd (neq_mke i)
      clear hi
      go_wp2_with fail
      obtain ⟨WX, hWX⟩ : ∃ WX, WX = WJ.alloc (.cells #[.bool false, .int .i64 (-1000 - (i : Int)), .int .i64 (-1000 - (i : Int))] 59) := ⟨_, rfl⟩
      rw [← hWX]
      have HXB : Hid (Blk WX WJ.heap.size XE (mke i)) := by rw [hWX]; exact Blk.new WJ XE (mke i)
      have HBX : Hid (Below w.heap.size w WX) := by rw [hWX]; exact HI5.out.alloc HI5.out.size _
      have HI6 := hd (H.out.keep HBX.out)
      have hb0 := HI6.out.box.cell 0 _ rfl
      have hb1x := HI6.out.box.cell 1 _ rfl
      clear hWX
      obtain ⟨g2, c2, a3, c3, g4, c4, hgv, hlc2, hcm2, hcl, hle3, hcl2, hle4, hlong, hrow⟩ := HI6.out.cells hlt
      injection hgv with hg1 hg2 hg3
      subst hg1 hg3
      have HLO := hd hlong
      have HRO := hd hrow
      unfold maxLen at hcm2
      clear hlong hrow hg2
      go_loopw [5] (fun x wr => ∃ k n : Nat, k ≤ (f i).length + 64 ∧ x = .int .i64 (k : Int) ∧ wr = WX.drewN n) (fun x _ => (f i).length + 64 - (intOf x).toNat)
      case atStart => exact ⟨0, 0, by omega, rfl, rfl⟩
      case round =>
        obtain ⟨k, n2, hk, rfl, rfl⟩ := hrel
        by_cases hkl : k < (f i).length + 64
        · have hki : ((k : Nat) : Int) < ((f i).length : Int) + 64 := by omega
          have HKL : Hid (k + 1 ≤ (f i).length + 64) := hkl
          have heq := HNE.out
          have hl4 : ∀ nn, (WX.drewN nn).rangeAt g4 (k * 3) (mke i) := fun nn j u hu => HLO.out k hkl j u hu
          have hlx : ∀ nn, (WX.drewN nn).rangeAt WJ.heap.size 0 (mke i) := fun nn j u hu => by rw [Nat.zero_add]; exact HXB.out.cell j u hu
          clear hk
          by_cases hkf : k < (f i).length
          · have hkj : ((k : Nat) : Int) < ((f i).length : Int) := by omega
            obtain ⟨g3, hg3, hro⟩ := HRO.out k hkf
            subst hg3
            have hl3 : ∀ nn, (WX.drewN nn).rangeAt g3 (k * 3) (mke i) := fun nn j u hu => hro j u hu
            clear hro
            go_wp2_with fail
            refine region_skip (fun i9 v9 _ => match i9 with
                | 0 => v9 = Value.pointer (some { block := X, off := 0 })
                | 1 => v9 = .pointer (some ⟨X, 0, none⟩)
                | 2 => v9 = .pointer (some ⟨X, 1, none⟩)
                | 3 => v9 = .slice (some ⟨g2, 0, none⟩) vs.length lc
                | 4 => v9 = Value.int IntKind.i64 ((i : Nat) : Int)
                | 5 => v9 = .pointer (some ⟨g2, i, none⟩)
                | 6 => v9 = .slice (some ⟨g4, 0, none⟩) ((f i).length + 64) c4
                | 7 => v9 = Value.int IntKind.i64 ((k : Nat) : Int)
                | 8 => v9 = .pointer (some ⟨g4, k * 3, none⟩)
                | 9 => v9 = .agg (mke i).toArray
                | 10 => v9 = .agg (mke i).toArray
                | 11 => v9 = .bool false
                | 12 => v9 = .bool false
                | 13 => v9 = Value.int IntKind.i64 ((k : Nat) : Int)
                | 14 => v9 = Value.pointer (some { block := X, off := 0 })
                | 15 => v9 = .pointer (some ⟨X, 0, none⟩)
                | 16 => v9 = .pointer (some ⟨X, 0, none⟩)
                | 17 => v9 = .slice (some ⟨gl, 0, none⟩) vs.length cl
                | 18 => v9 = Value.int IntKind.i64 ((i : Nat) : Int)
                | 19 => v9 = .pointer (some ⟨gl, i, none⟩)
                | 20 => v9 = .slice (some ⟨g3, 0, none⟩) (f i).length c3
                | 21 => v9 = .int .i64 ((f i).length : Int)
                | 22 => v9 = .bool true
                | 23 => v9 = .bool true
                | 24 => v9 = Value.pointer (some { block := X, off := 0 })
                | 25 => v9 = .pointer (some ⟨X, 0, none⟩)
                | 26 => v9 = .pointer (some ⟨X, 0, none⟩)
                | 27 => v9 = .slice (some ⟨gl, 0, none⟩) vs.length cl
                | 28 => v9 = Value.int IntKind.i64 ((i : Nat) : Int)
                | 29 => v9 = .pointer (some ⟨gl, i, none⟩)
                | 30 => v9 = .slice (some ⟨g3, 0, none⟩) (f i).length c3
                | 31 => v9 = Value.int IntKind.i64 ((k : Nat) : Int)
                | 32 => v9 = .pointer (some ⟨g3, k * 3, none⟩)
                | 33 => v9 = .agg (mke i).toArray
                | 34 => v9 = .agg (mke i).toArray
                | 35 => v9 = .bool false
                | 36 => v9 = .bool false
                | _ => v9 = .bool false) (fun w => ∃ nn, w = WX.drewN nn) hmx (by kernel_rfl) (by kernel_rfl) ⟨n2 + 1, rfl⟩ ?_ ?_ ?_
            · as_aux_lemma =>
                intro i9 v9 w8 w9 _ _ hb hG
                match i9, hG with
                | 0, h => exact h
                | 1, h => exact h
                | 2, h => exact h
                | 3, h => exact h
                | 4, h => exact h
                | 5, h => exact h
                | 6, h => exact h
                | 7, h => exact h
                | 8, h => exact h
                | 9, h => exact h
                | 10, h => exact h
                | 11, h => exact h
                | 12, h => exact h
                | 13, h => exact h
                | 14, h => exact h
                | 15, h => exact h
                | 16, h => exact h
                | 17, h => exact h
                | 18, h => exact h
                | 19, h => exact h
                | 20, h => exact h
                | 21, h => exact h
                | 22, h => exact h
                | 23, h => exact h
                | 24, h => exact h
                | 25, h => exact h
                | 26, h => exact h
                | 27, h => exact h
                | 28, h => exact h
                | 29, h => exact h
                | 30, h => exact h
                | 31, h => exact h
                | 32, h => exact h
                | 33, h => exact h
                | 34, h => exact h
                | 35, h => exact h
                | 36, h => exact h
                | n + 37, h => exact h
            · as_aux_lemma =>
                intro i9 o9 ho a9 w9 hW hdf hsz hout haf
                have ee0 := getq (show a9.tmps.getD 0 undef = Value.pointer (some { block := X, off := 0 }) from hout 0 (notDst_spec (by kernel_rfl)))
                have ee3 := getq (show a9.tmps.getD 3 undef = Value.int IntKind.i64 ((i : Nat) : Int) from hout 3 (notDst_spec (by kernel_rfl)))
                have ee4 := getq (show a9.tmps.getD 4 undef = Value.pointer (some { block := WJ.heap.size, off := 0 }) from hout 4 (notDst_spec (by kernel_rfl)))
                have ee5 := getq (show a9.tmps.getD 5 undef = Value.int IntKind.i64 ((k : Nat) : Int) from hout 5 (notDst_spec (by kernel_rfl)))
                have h10 : a9.tmps.getD 4 undef = .pointer (some ⟨WJ.heap.size, 0, none⟩) := hout 4 (notDst_spec (by kernel_rfl))
                have hsz2 : a9.tmps.size = 70 := hsz
                clear hout hsz hdf
                match i9, ho, haf with
                | 0, ho, haf =>
                  obtain rfl := Option.some.inj ho
                  refine skip_good _ (wanted_none rfl) ?_
                  clear haf ho hsz2
                  intro K hK
                  simp only [List.getElem_toArray, List.getElem_cons_zero] at hK ⊢
                  obtain ⟨nn, rfl⟩ := hW
                  go_simp
                  exact hK _ _ ⟨Below.refl _ _, ⟨nn, rfl⟩, rfl⟩
                | 1, ho, haf =>
                  obtain rfl := Option.some.inj ho
                  have f0 := getq (show a9.tmps.getD 32 undef = Value.pointer (some { block := X, off := 0 }) from haf ⟨0, .data⟩ (by simp) rfl)
                  refine skip_good _ (wanted_none rfl) ?_
                  clear haf ho hsz2
                  intro K hK
                  simp only [List.getElem_toArray, List.getElem_cons_succ, List.getElem_cons_zero] at hK ⊢
                  obtain ⟨nn, rfl⟩ := hW
                  go_simp
                  exact hK _ _ ⟨Below.refl _ _, ⟨nn, rfl⟩, rfl⟩
                | 2, ho, haf =>
                  obtain rfl := Option.some.inj ho
                  have f1 := getq (show a9.tmps.getD 33 undef = .pointer (some ⟨X, 0, none⟩) from haf ⟨1, .data⟩ (by simp) rfl)
                  refine skip_good _ (wanted_none rfl) ?_
                  clear haf ho hsz2
                  intro K hK
                  simp only [List.getElem_toArray, List.getElem_cons_succ, List.getElem_cons_zero] at hK ⊢
                  obtain ⟨nn, rfl⟩ := hW
                  go_simp
                  exact hK _ _ ⟨Below.refl _ _, ⟨nn, rfl⟩, rfl⟩
                | 3, ho, haf =>
                  obtain rfl := Option.some.inj ho
                  have f2 := getq (show a9.tmps.getD 34 undef = .pointer (some ⟨X, 1, none⟩) from haf ⟨2, .data⟩ (by simp) rfl)
                  refine skip_good _ (wanted_none rfl) ?_
                  clear haf ho hsz2
                  intro K hK
                  simp only [List.getElem_toArray, List.getElem_cons_succ, List.getElem_cons_zero] at hK ⊢
                  obtain ⟨nn, rfl⟩ := hW
                  go_simp
                  exact hK _ _ ⟨Below.refl _ _, ⟨nn, rfl⟩, rfl⟩
                | 4, ho, haf =>
                  obtain rfl := Option.some.inj ho
                  refine skip_good _ (wanted_none rfl) ?_
                  clear haf ho hsz2
                  intro K hK
                  simp only [List.getElem_toArray, List.getElem_cons_succ, List.getElem_cons_zero] at hK ⊢
                  obtain ⟨nn, rfl⟩ := hW
                  go_simp
                  exact hK _ _ ⟨Below.refl _ _, ⟨nn, rfl⟩, rfl⟩
                | 5, ho, haf =>
                  obtain rfl := Option.some.inj ho
                  have f3 := getq (show a9.tmps.getD 35 undef = .slice (some ⟨g2, 0, none⟩) vs.length lc from haf ⟨3, .data⟩ (by simp) rfl)
                  have f4 := getq (show a9.tmps.getD 36 undef = Value.int IntKind.i64 ((i : Nat) : Int) from haf ⟨4, .data⟩ (by simp) rfl)
                  refine skip_good _ (wanted_none rfl) ?_
                  clear haf ho hsz2
                  intro K hK
                  simp only [List.getElem_toArray, List.getElem_cons_succ, List.getElem_cons_zero] at hK ⊢
                  obtain ⟨nn, rfl⟩ := hW
                  go_simp
                  exact hK _ _ ⟨Below.refl _ _, ⟨nn, rfl⟩, rfl⟩
                | 6, ho, haf =>
                  obtain rfl := Option.some.inj ho
                  have f5 := getq (show a9.tmps.getD 37 undef = .pointer (some ⟨g2, i, none⟩) from haf ⟨5, .data⟩ (by simp) rfl)
                  refine skip_good _ (wanted_none rfl) ?_
                  clear haf ho hsz2
                  intro K hK
                  simp only [List.getElem_toArray, List.getElem_cons_succ, List.getElem_cons_zero] at hK ⊢
                  obtain ⟨nn, rfl⟩ := hW
                  go_simp
                  exact hK _ _ ⟨Below.refl _ _, ⟨nn, rfl⟩, rfl⟩
                | 7, ho, haf =>
                  obtain rfl := Option.some.inj ho
                  refine skip_good _ (wanted_none rfl) ?_
                  clear haf ho hsz2
                  intro K hK
                  simp only [List.getElem_toArray, List.getElem_cons_succ, List.getElem_cons_zero] at hK ⊢
                  obtain ⟨nn, rfl⟩ := hW
                  go_simp
                  exact hK _ _ ⟨Below.refl _ _, ⟨nn, rfl⟩, rfl⟩
                | 8, ho, haf =>
                  obtain rfl := Option.some.inj ho
                  have f6 := getq (show a9.tmps.getD 38 undef = .slice (some ⟨g4, 0, none⟩) ((f i).length + 64) c4 from haf ⟨6, .data⟩ (by simp) rfl)
                  have f7 := getq (show a9.tmps.getD 39 undef = Value.int IntKind.i64 ((k : Nat) : Int) from haf ⟨7, .data⟩ (by simp) rfl)
                  refine skip_good _ (wanted_none rfl) ?_
                  clear haf ho hsz2
                  intro K hK
                  simp only [List.getElem_toArray, List.getElem_cons_succ, List.getElem_cons_zero] at hK ⊢
                  obtain ⟨nn, rfl⟩ := hW
                  go_simp
                  exact hK _ _ ⟨Below.refl _ _, ⟨nn, rfl⟩, rfl⟩
                | 9, ho, haf =>
                  obtain rfl := Option.some.inj ho
                  have f8 := getq (show a9.tmps.getD 40 undef = .pointer (some ⟨g4, k * 3, none⟩) from haf ⟨8, .data⟩ (by simp) rfl)
                  refine skip_good _ (wanted_none rfl) ?_
                  have hx0 : a9.eval (Operand.tmp 40) = .pointer (some ⟨g4, k * 3, none⟩) := haf ⟨8, .data⟩ (by simp) rfl
                  clear haf ho hsz2
                  intro K hK
                  simp only [List.getElem_toArray, List.getElem_cons_succ, List.getElem_cons_zero] at hK ⊢
                  obtain ⟨nn, rfl⟩ := hW
                  exact wp_load_mid 59 _ rfl g4 (k * 3) hx0 (mke i) _ (hl4 nn) Try.underlying59 rfl (by kernel_rfl) (hK _ _ ⟨Below.refl _ _, ⟨nn, rfl⟩, rfl⟩)
                | 10, ho, haf =>
                  obtain rfl := Option.some.inj ho
                  refine skip_good _ (wanted_none rfl) ?_
                  have hx0 : a9.eval (Operand.tmp 4) = .pointer (some ⟨WJ.heap.size, 0, none⟩) := h10
                  clear haf ho hsz2
                  intro K hK
                  simp only [List.getElem_toArray, List.getElem_cons_succ, List.getElem_cons_zero] at hK ⊢
                  obtain ⟨nn, rfl⟩ := hW
                  exact wp_load_mid 59 _ rfl WJ.heap.size 0 hx0 (mke i) _ (hlx nn) Try.underlying59 rfl (by kernel_rfl) (hK _ _ ⟨Below.refl _ _, ⟨nn, rfl⟩, rfl⟩)
                | 11, ho, haf =>
                  obtain rfl := Option.some.inj ho
                  have f9 := getq (show a9.tmps.getD 41 undef = .agg (mke i).toArray from haf ⟨9, .data⟩ (by simp) rfl)
                  have f10 := getq (show a9.tmps.getD 42 undef = .agg (mke i).toArray from haf ⟨10, .data⟩ (by simp) rfl)
                  refine skip_good _ (wanted_none rfl) ?_
                  clear haf ho hsz2
                  intro K hK
                  simp only [List.getElem_toArray, List.getElem_cons_succ, List.getElem_cons_zero] at hK ⊢
                  obtain ⟨nn, rfl⟩ := hW
                  go_simp
                  exact hK _ _ ⟨Below.refl _ _, ⟨nn, rfl⟩, rfl⟩
                | 12, ho, haf =>
                  obtain rfl := Option.some.inj ho
                  have f11 := getq (show a9.tmps.getD 43 undef = .bool false from haf ⟨11, .data⟩ (by simp) rfl)
                  refine skip_good _ (wanted_none rfl) ?_
                  clear haf ho hsz2
                  intro K hK
                  simp only [List.getElem_toArray, List.getElem_cons_succ, List.getElem_cons_zero] at hK ⊢
                  obtain ⟨nn, rfl⟩ := hW
                  go_simp
                  exact hK _ _ ⟨Below.refl _ _, ⟨nn, rfl⟩, rfl⟩
                | 13, ho, haf =>
                  obtain rfl := Option.some.inj ho
                  have gg : a9.tmps.getD 44 undef = .bool false := haf ⟨12, .guard⟩ (by simp) rfl
                  refine skip_good _ (wanted_some rfl (yielded_of (d := 44) rfl (by omega) gg)) ?_
                  clear haf ho hsz2 gg
                  intro K hK
                  simp only [List.getElem_toArray, List.getElem_cons_succ, List.getElem_cons_zero] at hK ⊢
                  obtain ⟨nn, rfl⟩ := hW
                  go_simp
                  exact hK _ _ ⟨Below.refl _ _, ⟨nn, rfl⟩, rfl⟩
                | 14, ho, haf =>
                  obtain rfl := Option.some.inj ho
                  have gg : a9.tmps.getD 44 undef = .bool false := haf ⟨12, .guard⟩ (by simp) rfl
                  refine skip_good _ (wanted_some rfl (yielded_of (d := 44) rfl (by omega) gg)) ?_
                  clear haf ho hsz2 gg
                  intro K hK
                  simp only [List.getElem_toArray, List.getElem_cons_succ, List.getElem_cons_zero] at hK ⊢
                  obtain ⟨nn, rfl⟩ := hW
                  go_simp
                  exact hK _ _ ⟨Below.refl _ _, ⟨nn, rfl⟩, rfl⟩
                | 15, ho, haf =>
                  obtain rfl := Option.some.inj ho
                  have gg : a9.tmps.getD 44 undef = .bool false := haf ⟨12, .guard⟩ (by simp) rfl
                  have f14 := getq (show a9.tmps.getD 46 undef = Value.pointer (some { block := X, off := 0 }) from haf ⟨14, .data⟩ (by simp) rfl)
                  refine skip_good _ (wanted_some rfl (yielded_of (d := 44) rfl (by omega) gg)) ?_
                  clear haf ho hsz2 gg
                  intro K hK
                  simp only [List.getElem_toArray, List.getElem_cons_succ, List.getElem_cons_zero] at hK ⊢
                  obtain ⟨nn, rfl⟩ := hW
                  go_simp
                  exact hK _ _ ⟨Below.refl _ _, ⟨nn, rfl⟩, rfl⟩
                | 16, ho, haf =>
                  obtain rfl := Option.some.inj ho
                  have gg : a9.tmps.getD 44 undef = .bool false := haf ⟨12, .guard⟩ (by simp) rfl
                  have f15 := getq (show a9.tmps.getD 47 undef = .pointer (some ⟨X, 0, none⟩) from haf ⟨15, .data⟩ (by simp) rfl)
                  refine skip_good _ (wanted_some rfl (yielded_of (d := 44) rfl (by omega) gg)) ?_
                  clear haf ho hsz2 gg
                  intro K hK
                  simp only [List.getElem_toArray, List.getElem_cons_succ, List.getElem_cons_zero] at hK ⊢
                  obtain ⟨nn, rfl⟩ := hW
                  go_simp
                  exact hK _ _ ⟨Below.refl _ _, ⟨nn, rfl⟩, rfl⟩
                | 17, ho, haf =>
                  obtain rfl := Option.some.inj ho
                  have gg : a9.tmps.getD 44 undef = .bool false := haf ⟨12, .guard⟩ (by simp) rfl
                  have f16 := getq (show a9.tmps.getD 48 undef = .pointer (some ⟨X, 0, none⟩) from haf ⟨16, .data⟩ (by simp) rfl)
                  refine skip_good _ (wanted_some rfl (yielded_of (d := 44) rfl (by omega) gg)) ?_
                  clear haf ho hsz2 gg
                  intro K hK
                  simp only [List.getElem_toArray, List.getElem_cons_succ, List.getElem_cons_zero] at hK ⊢
                  obtain ⟨nn, rfl⟩ := hW
                  go_simp
                  exact hK _ _ ⟨Below.refl _ _, ⟨nn, rfl⟩, rfl⟩
                | 18, ho, haf =>
                  obtain rfl := Option.some.inj ho
                  have gg : a9.tmps.getD 44 undef = .bool false := haf ⟨12, .guard⟩ (by simp) rfl
                  refine skip_good _ (wanted_some rfl (yielded_of (d := 44) rfl (by omega) gg)) ?_
                  clear haf ho hsz2 gg
                  intro K hK
                  simp only [List.getElem_toArray, List.getElem_cons_succ, List.getElem_cons_zero] at hK ⊢
                  obtain ⟨nn, rfl⟩ := hW
                  go_simp
                  exact hK _ _ ⟨Below.refl _ _, ⟨nn, rfl⟩, rfl⟩
                | 19, ho, haf =>
                  obtain rfl := Option.some.inj ho
                  have gg : a9.tmps.getD 44 undef = .bool false := haf ⟨12, .guard⟩ (by simp) rfl
                  have f17 := getq (show a9.tmps.getD 49 undef = .slice (some ⟨gl, 0, none⟩) vs.length cl from haf ⟨17, .data⟩ (by simp) rfl)
                  have f18 := getq (show a9.tmps.getD 50 undef = Value.int IntKind.i64 ((i : Nat) : Int) from haf ⟨18, .data⟩ (by simp) rfl)
                  refine skip_good _ (wanted_some rfl (yielded_of (d := 44) rfl (by omega) gg)) ?_
                  clear haf ho hsz2 gg
                  intro K hK
                  simp only [List.getElem_toArray, List.getElem_cons_succ, List.getElem_cons_zero] at hK ⊢
                  obtain ⟨nn, rfl⟩ := hW
                  go_simp
                  exact hK _ _ ⟨Below.refl _ _, ⟨nn, rfl⟩, rfl⟩
                | 20, ho, haf =>
                  obtain rfl := Option.some.inj ho
                  have gg : a9.tmps.getD 44 undef = .bool false := haf ⟨12, .guard⟩ (by simp) rfl
                  have f19 := getq (show a9.tmps.getD 51 undef = .pointer (some ⟨gl, i, none⟩) from haf ⟨19, .data⟩ (by simp) rfl)
                  refine skip_good _ (wanted_some rfl (yielded_of (d := 44) rfl (by omega) gg)) ?_
                  clear haf ho hsz2 gg
                  intro K hK
                  simp only [List.getElem_toArray, List.getElem_cons_succ, List.getElem_cons_zero] at hK ⊢
                  obtain ⟨nn, rfl⟩ := hW
                  go_simp
                  exact hK _ _ ⟨Below.refl _ _, ⟨nn, rfl⟩, rfl⟩
                | 21, ho, haf =>
                  obtain rfl := Option.some.inj ho
                  have gg : a9.tmps.getD 44 undef = .bool false := haf ⟨12, .guard⟩ (by simp) rfl
                  have f20 := getq (show a9.tmps.getD 52 undef = .slice (some ⟨g3, 0, none⟩) (f i).length c3 from haf ⟨20, .data⟩ (by simp) rfl)
                  refine skip_good _ (wanted_some rfl (yielded_of (d := 44) rfl (by omega) gg)) ?_
                  clear haf ho hsz2 gg
                  intro K hK
                  simp only [List.getElem_toArray, List.getElem_cons_succ, List.getElem_cons_zero] at hK ⊢
                  obtain ⟨nn, rfl⟩ := hW
                  go_simp
                  exact hK _ _ ⟨Below.refl _ _, ⟨nn, rfl⟩, rfl⟩
                | 22, ho, haf =>
                  obtain rfl := Option.some.inj ho
                  have gg : a9.tmps.getD 44 undef = .bool false := haf ⟨12, .guard⟩ (by simp) rfl
                  have f13 := getq (show a9.tmps.getD 45 undef = Value.int IntKind.i64 ((k : Nat) : Int) from haf ⟨13, .data⟩ (by simp) rfl)
                  have f21 := getq (show a9.tmps.getD 53 undef = .int .i64 ((f i).length : Int) from haf ⟨21, .data⟩ (by simp) rfl)
                  refine skip_good _ (wanted_some rfl (yielded_of (d := 44) rfl (by omega) gg)) ?_
                  clear haf ho hsz2 gg
                  intro K hK
                  simp only [List.getElem_toArray, List.getElem_cons_succ, List.getElem_cons_zero] at hK ⊢
                  obtain ⟨nn, rfl⟩ := hW
                  go_simp
                  exact hK _ _ ⟨Below.refl _ _, ⟨nn, rfl⟩, (by first | rfl | (simp only [Value.bool.injEq, decide_eq_false_iff_not]; omega) | (simp only [Value.bool.injEq, decide_eq_true_eq]; omega))⟩
                | 23, ho, haf =>
                  obtain rfl := Option.some.inj ho
                  have gg : a9.tmps.getD 44 undef = .bool false := haf ⟨12, .guard⟩ (by simp) rfl
                  have f22 := getq (show a9.tmps.getD 54 undef = .bool true from haf ⟨22, .data⟩ (by simp) rfl)
                  refine skip_good _ (wanted_some rfl (yielded_of (d := 44) rfl (by omega) gg)) ?_
                  clear haf ho hsz2 gg
                  intro K hK
                  simp only [List.getElem_toArray, List.getElem_cons_succ, List.getElem_cons_zero] at hK ⊢
                  obtain ⟨nn, rfl⟩ := hW
                  go_simp
                  exact hK _ _ ⟨Below.refl _ _, ⟨nn, rfl⟩, rfl⟩
                | 24, ho, haf =>
                  obtain rfl := Option.some.inj ho
                  have gg : a9.tmps.getD 55 undef = .bool true := haf ⟨23, .guard⟩ (by simp) rfl
                  refine skip_good _ (wanted_some rfl (yielded_of (d := 55) rfl (by omega) gg)) ?_
                  clear haf ho hsz2 gg
                  intro K hK
                  simp only [List.getElem_toArray, List.getElem_cons_succ, List.getElem_cons_zero] at hK ⊢
                  obtain ⟨nn, rfl⟩ := hW
                  go_simp
                  exact hK _ _ ⟨Below.refl _ _, ⟨nn, rfl⟩, rfl⟩
                | 25, ho, haf =>
                  obtain rfl := Option.some.inj ho
                  have gg : a9.tmps.getD 55 undef = .bool true := haf ⟨23, .guard⟩ (by simp) rfl
                  have f24 := getq (show a9.tmps.getD 56 undef = Value.pointer (some { block := X, off := 0 }) from haf ⟨24, .data⟩ (by simp) rfl)
                  refine skip_good _ (wanted_some rfl (yielded_of (d := 55) rfl (by omega) gg)) ?_
                  clear haf ho hsz2 gg
                  intro K hK
                  simp only [List.getElem_toArray, List.getElem_cons_succ, List.getElem_cons_zero] at hK ⊢
                  obtain ⟨nn, rfl⟩ := hW
                  go_simp
                  exact hK _ _ ⟨Below.refl _ _, ⟨nn, rfl⟩, rfl⟩
                | 26, ho, haf =>
                  obtain rfl := Option.some.inj ho
                  have gg : a9.tmps.getD 55 undef = .bool true := haf ⟨23, .guard⟩ (by simp) rfl
                  have f25 := getq (show a9.tmps.getD 57 undef = .pointer (some ⟨X, 0, none⟩) from haf ⟨25, .data⟩ (by simp) rfl)
                  refine skip_good _ (wanted_some rfl (yielded_of (d := 55) rfl (by omega) gg)) ?_
                  clear haf ho hsz2 gg
                  intro K hK
                  simp only [List.getElem_toArray, List.getElem_cons_succ, List.getElem_cons_zero] at hK ⊢
                  obtain ⟨nn, rfl⟩ := hW
                  go_simp
                  exact hK _ _ ⟨Below.refl _ _, ⟨nn, rfl⟩, rfl⟩
                | 27, ho, haf =>
                  obtain rfl := Option.some.inj ho
                  have gg : a9.tmps.getD 55 undef = .bool true := haf ⟨23, .guard⟩ (by simp) rfl
                  have f26 := getq (show a9.tmps.getD 58 undef = .pointer (some ⟨X, 0, none⟩) from haf ⟨26, .data⟩ (by simp) rfl)
                  refine skip_good _ (wanted_some rfl (yielded_of (d := 55) rfl (by omega) gg)) ?_
                  clear haf ho hsz2 gg
                  intro K hK
                  simp only [List.getElem_toArray, List.getElem_cons_succ, List.getElem_cons_zero] at hK ⊢
                  obtain ⟨nn, rfl⟩ := hW
                  go_simp
                  exact hK _ _ ⟨Below.refl _ _, ⟨nn, rfl⟩, rfl⟩
                | 28, ho, haf =>
                  obtain rfl := Option.some.inj ho
                  have gg : a9.tmps.getD 55 undef = .bool true := haf ⟨23, .guard⟩ (by simp) rfl
                  refine skip_good _ (wanted_some rfl (yielded_of (d := 55) rfl (by omega) gg)) ?_
                  clear haf ho hsz2 gg
                  intro K hK
                  simp only [List.getElem_toArray, List.getElem_cons_succ, List.getElem_cons_zero] at hK ⊢
                  obtain ⟨nn, rfl⟩ := hW
                  go_simp
                  exact hK _ _ ⟨Below.refl _ _, ⟨nn, rfl⟩, rfl⟩
                | 29, ho, haf =>
                  obtain rfl := Option.some.inj ho
                  have gg : a9.tmps.getD 55 undef = .bool true := haf ⟨23, .guard⟩ (by simp) rfl
                  have f27 := getq (show a9.tmps.getD 59 undef = .slice (some ⟨gl, 0, none⟩) vs.length cl from haf ⟨27, .data⟩ (by simp) rfl)
                  have f28 := getq (show a9.tmps.getD 60 undef = Value.int IntKind.i64 ((i : Nat) : Int) from haf ⟨28, .data⟩ (by simp) rfl)
                  refine skip_good _ (wanted_some rfl (yielded_of (d := 55) rfl (by omega) gg)) ?_
                  clear haf ho hsz2 gg
                  intro K hK
                  simp only [List.getElem_toArray, List.getElem_cons_succ, List.getElem_cons_zero] at hK ⊢
                  obtain ⟨nn, rfl⟩ := hW
                  go_simp
                  exact hK _ _ ⟨Below.refl _ _, ⟨nn, rfl⟩, rfl⟩
                | 30, ho, haf =>
                  obtain rfl := Option.some.inj ho
                  have gg : a9.tmps.getD 55 undef = .bool true := haf ⟨23, .guard⟩ (by simp) rfl
                  have f29 := getq (show a9.tmps.getD 61 undef = .pointer (some ⟨gl, i, none⟩) from haf ⟨29, .data⟩ (by simp) rfl)
                  refine skip_good _ (wanted_some rfl (yielded_of (d := 55) rfl (by omega) gg)) ?_
                  clear haf ho hsz2 gg
                  intro K hK
                  simp only [List.getElem_toArray, List.getElem_cons_succ, List.getElem_cons_zero] at hK ⊢
                  obtain ⟨nn, rfl⟩ := hW
                  go_simp
                  exact hK _ _ ⟨Below.refl _ _, ⟨nn, rfl⟩, rfl⟩
                | 31, ho, haf =>
                  obtain rfl := Option.some.inj ho
                  have gg : a9.tmps.getD 55 undef = .bool true := haf ⟨23, .guard⟩ (by simp) rfl
                  refine skip_good _ (wanted_some rfl (yielded_of (d := 55) rfl (by omega) gg)) ?_
                  clear haf ho hsz2 gg
                  intro K hK
                  simp only [List.getElem_toArray, List.getElem_cons_succ, List.getElem_cons_zero] at hK ⊢
                  obtain ⟨nn, rfl⟩ := hW
                  go_simp
                  exact hK _ _ ⟨Below.refl _ _, ⟨nn, rfl⟩, rfl⟩
                | 32, ho, haf =>
                  obtain rfl := Option.some.inj ho
                  have gg : a9.tmps.getD 55 undef = .bool true := haf ⟨23, .guard⟩ (by simp) rfl
                  have f30 := getq (show a9.tmps.getD 62 undef = .slice (some ⟨g3, 0, none⟩) (f i).length c3 from haf ⟨30, .data⟩ (by simp) rfl)
                  have f31 := getq (show a9.tmps.getD 63 undef = Value.int IntKind.i64 ((k : Nat) : Int) from haf ⟨31, .data⟩ (by simp) rfl)
                  refine skip_good _ (wanted_some rfl (yielded_of (d := 55) rfl (by omega) gg)) ?_
                  clear haf ho hsz2 gg
                  intro K hK
                  simp only [List.getElem_toArray, List.getElem_cons_succ, List.getElem_cons_zero] at hK ⊢
                  obtain ⟨nn, rfl⟩ := hW
                  go_simp
                  exact hK _ _ ⟨Below.refl _ _, ⟨nn, rfl⟩, rfl⟩
                | 33, ho, haf =>
                  obtain rfl := Option.some.inj ho
                  have gg : a9.tmps.getD 55 undef = .bool true := haf ⟨23, .guard⟩ (by simp) rfl
                  have f32 := getq (show a9.tmps.getD 64 undef = .pointer (some ⟨g3, k * 3, none⟩) from haf ⟨32, .data⟩ (by simp) rfl)
                  refine skip_good _ (wanted_some rfl (yielded_of (d := 55) rfl (by omega) gg)) ?_
                  have hx0 : a9.eval (Operand.tmp 64) = .pointer (some ⟨g3, k * 3, none⟩) := haf ⟨32, .data⟩ (by simp) rfl
                  clear haf ho hsz2 gg
                  intro K hK
                  simp only [List.getElem_toArray, List.getElem_cons_succ, List.getElem_cons_zero] at hK ⊢
                  obtain ⟨nn, rfl⟩ := hW
                  exact wp_load_mid 59 _ rfl g3 (k * 3) hx0 (mke i) _ (hl3 nn) Try.underlying59 rfl (by kernel_rfl) (hK _ _ ⟨Below.refl _ _, ⟨nn, rfl⟩, rfl⟩)
                | 34, ho, haf =>
                  obtain rfl := Option.some.inj ho
                  have gg : a9.tmps.getD 55 undef = .bool true := haf ⟨23, .guard⟩ (by simp) rfl
                  refine skip_good _ (wanted_some rfl (yielded_of (d := 55) rfl (by omega) gg)) ?_
                  have hx0 : a9.eval (Operand.tmp 4) = .pointer (some ⟨WJ.heap.size, 0, none⟩) := h10
                  clear haf ho hsz2 gg
                  intro K hK
                  simp only [List.getElem_toArray, List.getElem_cons_succ, List.getElem_cons_zero] at hK ⊢
                  obtain ⟨nn, rfl⟩ := hW
                  exact wp_load_mid 59 _ rfl WJ.heap.size 0 hx0 (mke i) _ (hlx nn) Try.underlying59 rfl (by kernel_rfl) (hK _ _ ⟨Below.refl _ _, ⟨nn, rfl⟩, rfl⟩)
                | 35, ho, haf =>
                  obtain rfl := Option.some.inj ho
                  have gg : a9.tmps.getD 55 undef = .bool true := haf ⟨23, .guard⟩ (by simp) rfl
                  have f33 := getq (show a9.tmps.getD 65 undef = .agg (mke i).toArray from haf ⟨33, .data⟩ (by simp) rfl)
                  have f34 := getq (show a9.tmps.getD 66 undef = .agg (mke i).toArray from haf ⟨34, .data⟩ (by simp) rfl)
                  refine skip_good _ (wanted_some rfl (yielded_of (d := 55) rfl (by omega) gg)) ?_
                  clear haf ho hsz2 gg
                  intro K hK
                  simp only [List.getElem_toArray, List.getElem_cons_succ, List.getElem_cons_zero] at hK ⊢
                  obtain ⟨nn, rfl⟩ := hW
                  go_simp
                  exact hK _ _ ⟨Below.refl _ _, ⟨nn, rfl⟩, rfl⟩
                | 36, ho, haf =>
                  obtain rfl := Option.some.inj ho
                  have gg : a9.tmps.getD 44 undef = .bool false := haf ⟨12, .guard⟩ (by simp) rfl
                  have f23 := getq (show a9.tmps.getD 55 undef = .bool true from haf ⟨23, .data⟩ (by simp) rfl)
                  have f35 := getq (show a9.tmps.getD 67 undef = .bool false from haf ⟨35, .data⟩ (by simp) rfl)
                  refine skip_good _ (wanted_some rfl (yielded_of (d := 44) rfl (by omega) gg)) ?_
                  clear haf ho hsz2 gg
                  intro K hK
                  simp only [List.getElem_toArray, List.getElem_cons_succ, List.getElem_cons_zero] at hK ⊢
                  obtain ⟨nn, rfl⟩ := hW
                  go_simp
                  exact hK _ _ ⟨Below.refl _ _, ⟨nn, rfl⟩, rfl⟩
                | 37, ho, haf =>
                  obtain rfl := Option.some.inj ho
                  have f12 := getq (show a9.tmps.getD 44 undef = .bool false from haf ⟨12, .data⟩ (by simp) rfl)
                  have f36 := getq (show a9.tmps.getD 68 undef = .bool false from haf ⟨36, .data⟩ (by simp) rfl)
                  refine skip_good _ (wanted_none rfl) ?_
                  clear haf ho hsz2
                  intro K hK
                  simp only [List.getElem_toArray, List.getElem_cons_succ, List.getElem_cons_zero] at hK ⊢
                  obtain ⟨nn, rfl⟩ := hW
                  go_simp
                  exact hK _ _ ⟨Below.refl _ _, ⟨nn, rfl⟩, rfl⟩
                | n + 38, ho, haf => simp at ho
            · as_aux_lemma =>
                intro aa w9 hW hdf hsz hout hall
                have hat : aa.tmps = #[Value.pointer (some { block := X, off := 0 }), undef, u2, Value.int IntKind.i64 ((i : Nat) : Int), Value.pointer (some { block := WJ.heap.size, off := 0 }), Value.int IntKind.i64 ((k : Nat) : Int), Value.int IntKind.i64 ((i : Nat) : Int), Value.pointer (some { block := X, off := 0 }), Value.pointer (some { block := X, off := 0 }), Value.pointer (some { block := X, off := 1 }), Value.slice (some { block := g2, off := 0 }) vs.length lc, Value.int IntKind.i64 ((vs.length : Nat) : Int), Value.bool true, u13, u14, Value.int IntKind.i64 ((i : Nat) : Int), Value.int IntKind.i64 (-1000 - ((i : Nat) : Int)), Value.int IntKind.i64 ((i : Nat) : Int), Value.int IntKind.i64 (-1000 - ((i : Nat) : Int)), Value.agg #[Value.bool false, Value.int IntKind.i64 (-1000 - ((i : Nat) : Int)), Value.int IntKind.i64 (-1000 - ((i : Nat) : Int))], Value.int IntKind.i64 ((k : Nat) : Int), Value.pointer (some { block := X, off := 0 }), Value.pointer (some { block := X, off := 0 }), Value.pointer (some { block := X, off := 1 }), Value.slice (some { block := g2, off := 0 }) vs.length lc, Value.int IntKind.i64 ((i : Nat) : Int), Value.pointer (some { block := g2, off := i }), Value.slice (some { block := g4, off := 0 }) ((f i).length + 64) c4, Value.int IntKind.i64 ((((f i).length : Nat) : Int) + 64), Value.bool true, u30, u31, Value.pointer (some { block := X, off := 0 }), .pointer (some ⟨X, 0, none⟩), .pointer (some ⟨X, 1, none⟩), .slice (some ⟨g2, 0, none⟩) vs.length lc, Value.int IntKind.i64 ((i : Nat) : Int), .pointer (some ⟨g2, i, none⟩), .slice (some ⟨g4, 0, none⟩) ((f i).length + 64) c4, Value.int IntKind.i64 ((k : Nat) : Int), .pointer (some ⟨g4, k * 3, none⟩), .agg (mke i).toArray, .agg (mke i).toArray, .bool false, .bool false, Value.int IntKind.i64 ((k : Nat) : Int), Value.pointer (some { block := X, off := 0 }), .pointer (some ⟨X, 0, none⟩), .pointer (some ⟨X, 0, none⟩), .slice (some ⟨gl, 0, none⟩) vs.length cl, Value.int IntKind.i64 ((i : Nat) : Int), .pointer (some ⟨gl, i, none⟩), .slice (some ⟨g3, 0, none⟩) (f i).length c3, .int .i64 ((f i).length : Int), .bool true, .bool true, Value.pointer (some { block := X, off := 0 }), .pointer (some ⟨X, 0, none⟩), .pointer (some ⟨X, 0, none⟩), .slice (some ⟨gl, 0, none⟩) vs.length cl, Value.int IntKind.i64 ((i : Nat) : Int), .pointer (some ⟨gl, i, none⟩), .slice (some ⟨g3, 0, none⟩) (f i).length c3, Value.int IntKind.i64 ((k : Nat) : Int), .pointer (some ⟨g3, k * 3, none⟩), .agg (mke i).toArray, .agg (mke i).toArray, .bool false, .bool false, .bool false] := by
                  refine (tmps_of (lo := 32) (vs := [Value.pointer (some { block := X, off := 0 }), .pointer (some ⟨X, 0, none⟩), .pointer (some ⟨X, 1, none⟩), .slice (some ⟨g2, 0, none⟩) vs.length lc, Value.int IntKind.i64 ((i : Nat) : Int), .pointer (some ⟨g2, i, none⟩), .slice (some ⟨g4, 0, none⟩) ((f i).length + 64) c4, Value.int IntKind.i64 ((k : Nat) : Int), .pointer (some ⟨g4, k * 3, none⟩), .agg (mke i).toArray, .agg (mke i).toArray, .bool false, .bool false, Value.int IntKind.i64 ((k : Nat) : Int), Value.pointer (some { block := X, off := 0 }), .pointer (some ⟨X, 0, none⟩), .pointer (some ⟨X, 0, none⟩), .slice (some ⟨gl, 0, none⟩) vs.length cl, Value.int IntKind.i64 ((i : Nat) : Int), .pointer (some ⟨gl, i, none⟩), .slice (some ⟨g3, 0, none⟩) (f i).length c3, .int .i64 ((f i).length : Int), .bool true, .bool true, Value.pointer (some { block := X, off := 0 }), .pointer (some ⟨X, 0, none⟩), .pointer (some ⟨X, 0, none⟩), .slice (some ⟨gl, 0, none⟩) vs.length cl, Value.int IntKind.i64 ((i : Nat) : Int), .pointer (some ⟨gl, i, none⟩), .slice (some ⟨g3, 0, none⟩) (f i).length c3, Value.int IntKind.i64 ((k : Nat) : Int), .pointer (some ⟨g3, k * 3, none⟩), .agg (mke i).toArray, .agg (mke i).toArray, .bool false, .bool false, .bool false]) hsz (by kernel_rfl) (Nat.le_of_ble_eq_true (by kernel_rfl)) hout (fun i hi => ?_)).trans ?_
                  · match i, hi with
                    | 0, _ => exact hall 0 (by decide)
                    | 1, _ => exact hall 1 (by decide)
                    | 2, _ => exact hall 2 (by decide)
                    | 3, _ => exact hall 3 (by decide)
                    | 4, _ => exact hall 4 (by decide)
                    | 5, _ => exact hall 5 (by decide)
                    | 6, _ => exact hall 6 (by decide)
                    | 7, _ => exact hall 7 (by decide)
                    | 8, _ => exact hall 8 (by decide)
                    | 9, _ => exact hall 9 (by decide)
                    | 10, _ => exact hall 10 (by decide)
                    | 11, _ => exact hall 11 (by decide)
                    | 12, _ => exact hall 12 (by decide)
                    | 13, _ => exact hall 13 (by decide)
                    | 14, _ => exact hall 14 (by decide)
                    | 15, _ => exact hall 15 (by decide)
                    | 16, _ => exact hall 16 (by decide)
                    | 17, _ => exact hall 17 (by decide)
                    | 18, _ => exact hall 18 (by decide)
                    | 19, _ => exact hall 19 (by decide)
                    | 20, _ => exact hall 20 (by decide)
                    | 21, _ => exact hall 21 (by decide)
                    | 22, _ => exact hall 22 (by decide)
                    | 23, _ => exact hall 23 (by decide)
                    | 24, _ => exact hall 24 (by decide)
                    | 25, _ => exact hall 25 (by decide)
                    | 26, _ => exact hall 26 (by decide)
                    | 27, _ => exact hall 27 (by decide)
                    | 28, _ => exact hall 28 (by decide)
                    | 29, _ => exact hall 29 (by decide)
                    | 30, _ => exact hall 30 (by decide)
                    | 31, _ => exact hall 31 (by decide)
                    | 32, _ => exact hall 32 (by decide)
                    | 33, _ => exact hall 33 (by decide)
                    | 34, _ => exact hall 34 (by decide)
                    | 35, _ => exact hall 35 (by decide)
                    | 36, _ => exact hall 36 (by decide)
                    | 37, _ => exact hall 37 (by decide)
                    | n + 38, h => exact absurd h (by simp)
                  · rfl
                obtain ⟨tt, dd⟩ := aa
                simp only at hat hdf
                subst hat hdf
                clear hsz hout hall
                obtain ⟨nn, rfl⟩ := hW
                go_wp2_with fail
                go_roundw
                case rel => exact ⟨k + 1, _, HKL.out, by go_num, rfl⟩
                case measure => have := HKL.out; simp [intOf]; omega
          · have hkj : ¬ ((k : Nat) : Int) < ((f i).length : Int) := by omega
            go_wp2_with fail
            refine region_skip (fun i9 v9 _ => match i9 with
                | 0 => v9 = Value.pointer (some { block := X, off := 0 })
                | 1 => v9 = .pointer (some ⟨X, 0, none⟩)
                | 2 => v9 = .pointer (some ⟨X, 1, none⟩)
                | 3 => v9 = .slice (some ⟨g2, 0, none⟩) vs.length lc
                | 4 => v9 = Value.int IntKind.i64 ((i : Nat) : Int)
                | 5 => v9 = .pointer (some ⟨g2, i, none⟩)
                | 6 => v9 = .slice (some ⟨g4, 0, none⟩) ((f i).length + 64) c4
                | 7 => v9 = Value.int IntKind.i64 ((k : Nat) : Int)
                | 8 => v9 = .pointer (some ⟨g4, k * 3, none⟩)
                | 9 => v9 = .agg (mke i).toArray
                | 10 => v9 = .agg (mke i).toArray
                | 11 => v9 = .bool false
                | 12 => v9 = .bool false
                | 13 => v9 = Value.int IntKind.i64 ((k : Nat) : Int)
                | 14 => v9 = Value.pointer (some { block := X, off := 0 })
                | 15 => v9 = .pointer (some ⟨X, 0, none⟩)
                | 16 => v9 = .pointer (some ⟨X, 0, none⟩)
                | 17 => v9 = .slice (some ⟨gl, 0, none⟩) vs.length cl
                | 18 => v9 = Value.int IntKind.i64 ((i : Nat) : Int)
                | 19 => v9 = .pointer (some ⟨gl, i, none⟩)
                | 20 => v9 = .slice a3 (f i).length c3
                | 21 => v9 = .int .i64 ((f i).length : Int)
                | 22 => v9 = .bool false
                | 23 => v9 = .bool false
                | 24 => v9 = undef
                | 25 => v9 = undef
                | 26 => v9 = undef
                | 27 => v9 = undef
                | 28 => v9 = undef
                | 29 => v9 = undef
                | 30 => v9 = undef
                | 31 => v9 = undef
                | 32 => v9 = undef
                | 33 => v9 = undef
                | 34 => v9 = undef
                | 35 => v9 = undef
                | 36 => v9 = .bool false
                | _ => v9 = .bool false) (fun w => ∃ nn, w = WX.drewN nn) hmx (by kernel_rfl) (by kernel_rfl) ⟨n2 + 1, rfl⟩ ?_ ?_ ?_
            · as_aux_lemma =>
                intro i9 v9 w8 w9 _ _ hb hG
                match i9, hG with
                | 0, h => exact h
                | 1, h => exact h
                | 2, h => exact h
                | 3, h => exact h
                | 4, h => exact h
                | 5, h => exact h
                | 6, h => exact h
                | 7, h => exact h
                | 8, h => exact h
                | 9, h => exact h
                | 10, h => exact h
                | 11, h => exact h
                | 12, h => exact h
                | 13, h => exact h
                | 14, h => exact h
                | 15, h => exact h
                | 16, h => exact h
                | 17, h => exact h
                | 18, h => exact h
                | 19, h => exact h
                | 20, h => exact h
                | 21, h => exact h
                | 22, h => exact h
                | 23, h => exact h
                | 24, h => exact h
                | 25, h => exact h
                | 26, h => exact h
                | 27, h => exact h
                | 28, h => exact h
                | 29, h => exact h
                | 30, h => exact h
                | 31, h => exact h
                | 32, h => exact h
                | 33, h => exact h
                | 34, h => exact h
                | 35, h => exact h
                | 36, h => exact h
                | n + 37, h => exact h
            · as_aux_lemma =>
                intro i9 o9 ho a9 w9 hW hdf hsz hout haf
                have ee0 := getq (show a9.tmps.getD 0 undef = Value.pointer (some { block := X, off := 0 }) from hout 0 (notDst_spec (by kernel_rfl)))
                have ee3 := getq (show a9.tmps.getD 3 undef = Value.int IntKind.i64 ((i : Nat) : Int) from hout 3 (notDst_spec (by kernel_rfl)))
                have ee4 := getq (show a9.tmps.getD 4 undef = Value.pointer (some { block := WJ.heap.size, off := 0 }) from hout 4 (notDst_spec (by kernel_rfl)))
                have ee5 := getq (show a9.tmps.getD 5 undef = Value.int IntKind.i64 ((k : Nat) : Int) from hout 5 (notDst_spec (by kernel_rfl)))
                have h10 : a9.tmps.getD 4 undef = .pointer (some ⟨WJ.heap.size, 0, none⟩) := hout 4 (notDst_spec (by kernel_rfl))
                have hsz2 : a9.tmps.size = 70 := hsz
                clear hout hsz hdf
                match i9, ho, haf with
                | 0, ho, haf =>
                  obtain rfl := Option.some.inj ho
                  refine skip_good _ (wanted_none rfl) ?_
                  clear haf ho hsz2
                  intro K hK
                  simp only [List.getElem_toArray, List.getElem_cons_zero] at hK ⊢
                  obtain ⟨nn, rfl⟩ := hW
                  go_simp
                  exact hK _ _ ⟨Below.refl _ _, ⟨nn, rfl⟩, rfl⟩
                | 1, ho, haf =>
                  obtain rfl := Option.some.inj ho
                  have f0 := getq (show a9.tmps.getD 32 undef = Value.pointer (some { block := X, off := 0 }) from haf ⟨0, .data⟩ (by simp) rfl)
                  refine skip_good _ (wanted_none rfl) ?_
                  clear haf ho hsz2
                  intro K hK
                  simp only [List.getElem_toArray, List.getElem_cons_succ, List.getElem_cons_zero] at hK ⊢
                  obtain ⟨nn, rfl⟩ := hW
                  go_simp
                  exact hK _ _ ⟨Below.refl _ _, ⟨nn, rfl⟩, rfl⟩
                | 2, ho, haf =>
                  obtain rfl := Option.some.inj ho
                  have f1 := getq (show a9.tmps.getD 33 undef = .pointer (some ⟨X, 0, none⟩) from haf ⟨1, .data⟩ (by simp) rfl)
                  refine skip_good _ (wanted_none rfl) ?_
                  clear haf ho hsz2
                  intro K hK
                  simp only [List.getElem_toArray, List.getElem_cons_succ, List.getElem_cons_zero] at hK ⊢
                  obtain ⟨nn, rfl⟩ := hW
                  go_simp
                  exact hK _ _ ⟨Below.refl _ _, ⟨nn, rfl⟩, rfl⟩
                | 3, ho, haf =>
                  obtain rfl := Option.some.inj ho
                  have f2 := getq (show a9.tmps.getD 34 undef = .pointer (some ⟨X, 1, none⟩) from haf ⟨2, .data⟩ (by simp) rfl)
                  refine skip_good _ (wanted_none rfl) ?_
                  clear haf ho hsz2
                  intro K hK
                  simp only [List.getElem_toArray, List.getElem_cons_succ, List.getElem_cons_zero] at hK ⊢
                  obtain ⟨nn, rfl⟩ := hW
                  go_simp
                  exact hK _ _ ⟨Below.refl _ _, ⟨nn, rfl⟩, rfl⟩
                | 4, ho, haf =>
                  obtain rfl := Option.some.inj ho
                  refine skip_good _ (wanted_none rfl) ?_
                  clear haf ho hsz2
                  intro K hK
                  simp only [List.getElem_toArray, List.getElem_cons_succ, List.getElem_cons_zero] at hK ⊢
                  obtain ⟨nn, rfl⟩ := hW
                  go_simp
                  exact hK _ _ ⟨Below.refl _ _, ⟨nn, rfl⟩, rfl⟩
                | 5, ho, haf =>
                  obtain rfl := Option.some.inj ho
                  have f3 := getq (show a9.tmps.getD 35 undef = .slice (some ⟨g2, 0, none⟩) vs.length lc from haf ⟨3, .data⟩ (by simp) rfl)
                  have f4 := getq (show a9.tmps.getD 36 undef = Value.int IntKind.i64 ((i : Nat) : Int) from haf ⟨4, .data⟩ (by simp) rfl)
                  refine skip_good _ (wanted_none rfl) ?_
                  clear haf ho hsz2
                  intro K hK
                  simp only [List.getElem_toArray, List.getElem_cons_succ, List.getElem_cons_zero] at hK ⊢
                  obtain ⟨nn, rfl⟩ := hW
                  go_simp
                  exact hK _ _ ⟨Below.refl _ _, ⟨nn, rfl⟩, rfl⟩
                | 6, ho, haf =>
                  obtain rfl := Option.some.inj ho
                  have f5 := getq (show a9.tmps.getD 37 undef = .pointer (some ⟨g2, i, none⟩) from haf ⟨5, .data⟩ (by simp) rfl)
                  refine skip_good _ (wanted_none rfl) ?_
                  clear haf ho hsz2
                  intro K hK
                  simp only [List.getElem_toArray, List.getElem_cons_succ, List.getElem_cons_zero] at hK ⊢
                  obtain ⟨nn, rfl⟩ := hW
                  go_simp
                  exact hK _ _ ⟨Below.refl _ _, ⟨nn, rfl⟩, rfl⟩
                | 7, ho, haf =>
                  obtain rfl := Option.some.inj ho
                  refine skip_good _ (wanted_none rfl) ?_
                  clear haf ho hsz2
                  intro K hK
                  simp only [List.getElem_toArray, List.getElem_cons_succ, List.getElem_cons_zero] at hK ⊢
                  obtain ⟨nn, rfl⟩ := hW
                  go_simp
                  exact hK _ _ ⟨Below.refl _ _, ⟨nn, rfl⟩, rfl⟩
                | 8, ho, haf =>
                  obtain rfl := Option.some.inj ho
                  have f6 := getq (show a9.tmps.getD 38 undef = .slice (some ⟨g4, 0, none⟩) ((f i).length + 64) c4 from haf ⟨6, .data⟩ (by simp) rfl)
                  have f7 := getq (show a9.tmps.getD 39 undef = Value.int IntKind.i64 ((k : Nat) : Int) from haf ⟨7, .data⟩ (by simp) rfl)
                  refine skip_good _ (wanted_none rfl) ?_
                  clear haf ho hsz2
                  intro K hK
                  simp only [List.getElem_toArray, List.getElem_cons_succ, List.getElem_cons_zero] at hK ⊢
                  obtain ⟨nn, rfl⟩ := hW
                  go_simp
                  exact hK _ _ ⟨Below.refl _ _, ⟨nn, rfl⟩, rfl⟩
                | 9, ho, haf =>
                  obtain rfl := Option.some.inj ho
                  have f8 := getq (show a9.tmps.getD 40 undef = .pointer (some ⟨g4, k * 3, none⟩) from haf ⟨8, .data⟩ (by simp) rfl)
                  refine skip_good _ (wanted_none rfl) ?_
                  have hx0 : a9.eval (Operand.tmp 40) = .pointer (some ⟨g4, k * 3, none⟩) := haf ⟨8, .data⟩ (by simp) rfl
                  clear haf ho hsz2
                  intro K hK
                  simp only [List.getElem_toArray, List.getElem_cons_succ, List.getElem_cons_zero] at hK ⊢
                  obtain ⟨nn, rfl⟩ := hW
                  exact wp_load_mid 59 _ rfl g4 (k * 3) hx0 (mke i) _ (hl4 nn) Try.underlying59 rfl (by kernel_rfl) (hK _ _ ⟨Below.refl _ _, ⟨nn, rfl⟩, rfl⟩)
                | 10, ho, haf =>
                  obtain rfl := Option.some.inj ho
                  refine skip_good _ (wanted_none rfl) ?_
                  have hx0 : a9.eval (Operand.tmp 4) = .pointer (some ⟨WJ.heap.size, 0, none⟩) := h10
                  clear haf ho hsz2
                  intro K hK
                  simp only [List.getElem_toArray, List.getElem_cons_succ, List.getElem_cons_zero] at hK ⊢
                  obtain ⟨nn, rfl⟩ := hW
                  exact wp_load_mid 59 _ rfl WJ.heap.size 0 hx0 (mke i) _ (hlx nn) Try.underlying59 rfl (by kernel_rfl) (hK _ _ ⟨Below.refl _ _, ⟨nn, rfl⟩, rfl⟩)
                | 11, ho, haf =>
                  obtain rfl := Option.some.inj ho
                  have f9 := getq (show a9.tmps.getD 41 undef = .agg (mke i).toArray from haf ⟨9, .data⟩ (by simp) rfl)
                  have f10 := getq (show a9.tmps.getD 42 undef = .agg (mke i).toArray from haf ⟨10, .data⟩ (by simp) rfl)
                  refine skip_good _ (wanted_none rfl) ?_
                  clear haf ho hsz2
                  intro K hK
                  simp only [List.getElem_toArray, List.getElem_cons_succ, List.getElem_cons_zero] at hK ⊢
                  obtain ⟨nn, rfl⟩ := hW
                  go_simp
                  exact hK _ _ ⟨Below.refl _ _, ⟨nn, rfl⟩, rfl⟩
                | 12, ho, haf =>
                  obtain rfl := Option.some.inj ho
                  have f11 := getq (show a9.tmps.getD 43 undef = .bool false from haf ⟨11, .data⟩ (by simp) rfl)
                  refine skip_good _ (wanted_none rfl) ?_
                  clear haf ho hsz2
                  intro K hK
                  simp only [List.getElem_toArray, List.getElem_cons_succ, List.getElem_cons_zero] at hK ⊢
                  obtain ⟨nn, rfl⟩ := hW
                  go_simp
                  exact hK _ _ ⟨Below.refl _ _, ⟨nn, rfl⟩, rfl⟩
                | 13, ho, haf =>
                  obtain rfl := Option.some.inj ho
                  have gg : a9.tmps.getD 44 undef = .bool false := haf ⟨12, .guard⟩ (by simp) rfl
                  refine skip_good _ (wanted_some rfl (yielded_of (d := 44) rfl (by omega) gg)) ?_
                  clear haf ho hsz2 gg
                  intro K hK
                  simp only [List.getElem_toArray, List.getElem_cons_succ, List.getElem_cons_zero] at hK ⊢
                  obtain ⟨nn, rfl⟩ := hW
                  go_simp
                  exact hK _ _ ⟨Below.refl _ _, ⟨nn, rfl⟩, rfl⟩
                | 14, ho, haf =>
                  obtain rfl := Option.some.inj ho
                  have gg : a9.tmps.getD 44 undef = .bool false := haf ⟨12, .guard⟩ (by simp) rfl
                  refine skip_good _ (wanted_some rfl (yielded_of (d := 44) rfl (by omega) gg)) ?_
                  clear haf ho hsz2 gg
                  intro K hK
                  simp only [List.getElem_toArray, List.getElem_cons_succ, List.getElem_cons_zero] at hK ⊢
                  obtain ⟨nn, rfl⟩ := hW
                  go_simp
                  exact hK _ _ ⟨Below.refl _ _, ⟨nn, rfl⟩, rfl⟩
                | 15, ho, haf =>
                  obtain rfl := Option.some.inj ho
                  have gg : a9.tmps.getD 44 undef = .bool false := haf ⟨12, .guard⟩ (by simp) rfl
                  have f14 := getq (show a9.tmps.getD 46 undef = Value.pointer (some { block := X, off := 0 }) from haf ⟨14, .data⟩ (by simp) rfl)
                  refine skip_good _ (wanted_some rfl (yielded_of (d := 44) rfl (by omega) gg)) ?_
                  clear haf ho hsz2 gg
                  intro K hK
                  simp only [List.getElem_toArray, List.getElem_cons_succ, List.getElem_cons_zero] at hK ⊢
                  obtain ⟨nn, rfl⟩ := hW
                  go_simp
                  exact hK _ _ ⟨Below.refl _ _, ⟨nn, rfl⟩, rfl⟩
                | 16, ho, haf =>
                  obtain rfl := Option.some.inj ho
                  have gg : a9.tmps.getD 44 undef = .bool false := haf ⟨12, .guard⟩ (by simp) rfl
                  have f15 := getq (show a9.tmps.getD 47 undef = .pointer (some ⟨X, 0, none⟩) from haf ⟨15, .data⟩ (by simp) rfl)
                  refine skip_good _ (wanted_some rfl (yielded_of (d := 44) rfl (by omega) gg)) ?_
                  clear haf ho hsz2 gg
                  intro K hK
                  simp only [List.getElem_toArray, List.getElem_cons_succ, List.getElem_cons_zero] at hK ⊢
                  obtain ⟨nn, rfl⟩ := hW
                  go_simp
                  exact hK _ _ ⟨Below.refl _ _, ⟨nn, rfl⟩, rfl⟩
                | 17, ho, haf =>
                  obtain rfl := Option.some.inj ho
                  have gg : a9.tmps.getD 44 undef = .bool false := haf ⟨12, .guard⟩ (by simp) rfl
                  have f16 := getq (show a9.tmps.getD 48 undef = .pointer (some ⟨X, 0, none⟩) from haf ⟨16, .data⟩ (by simp) rfl)
                  refine skip_good _ (wanted_some rfl (yielded_of (d := 44) rfl (by omega) gg)) ?_
                  clear haf ho hsz2 gg
                  intro K hK
                  simp only [List.getElem_toArray, List.getElem_cons_succ, List.getElem_cons_zero] at hK ⊢
                  obtain ⟨nn, rfl⟩ := hW
                  go_simp
                  exact hK _ _ ⟨Below.refl _ _, ⟨nn, rfl⟩, rfl⟩
                | 18, ho, haf =>
                  obtain rfl := Option.some.inj ho
                  have gg : a9.tmps.getD 44 undef = .bool false := haf ⟨12, .guard⟩ (by simp) rfl
                  refine skip_good _ (wanted_some rfl (yielded_of (d := 44) rfl (by omega) gg)) ?_
                  clear haf ho hsz2 gg
                  intro K hK
                  simp only [List.getElem_toArray, List.getElem_cons_succ, List.getElem_cons_zero] at hK ⊢
                  obtain ⟨nn, rfl⟩ := hW
                  go_simp
                  exact hK _ _ ⟨Below.refl _ _, ⟨nn, rfl⟩, rfl⟩
                | 19, ho, haf =>
                  obtain rfl := Option.some.inj ho
                  have gg : a9.tmps.getD 44 undef = .bool false := haf ⟨12, .guard⟩ (by simp) rfl
                  have f17 := getq (show a9.tmps.getD 49 undef = .slice (some ⟨gl, 0, none⟩) vs.length cl from haf ⟨17, .data⟩ (by simp) rfl)
                  have f18 := getq (show a9.tmps.getD 50 undef = Value.int IntKind.i64 ((i : Nat) : Int) from haf ⟨18, .data⟩ (by simp) rfl)
                  refine skip_good _ (wanted_some rfl (yielded_of (d := 44) rfl (by omega) gg)) ?_
                  clear haf ho hsz2 gg
                  intro K hK
                  simp only [List.getElem_toArray, List.getElem_cons_succ, List.getElem_cons_zero] at hK ⊢
                  obtain ⟨nn, rfl⟩ := hW
                  go_simp
                  exact hK _ _ ⟨Below.refl _ _, ⟨nn, rfl⟩, rfl⟩
                | 20, ho, haf =>
                  obtain rfl := Option.some.inj ho
                  have gg : a9.tmps.getD 44 undef = .bool false := haf ⟨12, .guard⟩ (by simp) rfl
                  have f19 := getq (show a9.tmps.getD 51 undef = .pointer (some ⟨gl, i, none⟩) from haf ⟨19, .data⟩ (by simp) rfl)
                  refine skip_good _ (wanted_some rfl (yielded_of (d := 44) rfl (by omega) gg)) ?_
                  clear haf ho hsz2 gg
                  intro K hK
                  simp only [List.getElem_toArray, List.getElem_cons_succ, List.getElem_cons_zero] at hK ⊢
                  obtain ⟨nn, rfl⟩ := hW
                  go_simp
                  exact hK _ _ ⟨Below.refl _ _, ⟨nn, rfl⟩, rfl⟩
                | 21, ho, haf =>
                  obtain rfl := Option.some.inj ho
                  have gg : a9.tmps.getD 44 undef = .bool false := haf ⟨12, .guard⟩ (by simp) rfl
                  have f20 := getq (show a9.tmps.getD 52 undef = .slice a3 (f i).length c3 from haf ⟨20, .data⟩ (by simp) rfl)
                  refine skip_good _ (wanted_some rfl (yielded_of (d := 44) rfl (by omega) gg)) ?_
                  clear haf ho hsz2 gg
                  intro K hK
                  simp only [List.getElem_toArray, List.getElem_cons_succ, List.getElem_cons_zero] at hK ⊢
                  obtain ⟨nn, rfl⟩ := hW
                  go_simp
                  exact hK _ _ ⟨Below.refl _ _, ⟨nn, rfl⟩, rfl⟩
                | 22, ho, haf =>
                  obtain rfl := Option.some.inj ho
                  have gg : a9.tmps.getD 44 undef = .bool false := haf ⟨12, .guard⟩ (by simp) rfl
                  have f13 := getq (show a9.tmps.getD 45 undef = Value.int IntKind.i64 ((k : Nat) : Int) from haf ⟨13, .data⟩ (by simp) rfl)
                  have f21 := getq (show a9.tmps.getD 53 undef = .int .i64 ((f i).length : Int) from haf ⟨21, .data⟩ (by simp) rfl)
                  refine skip_good _ (wanted_some rfl (yielded_of (d := 44) rfl (by omega) gg)) ?_
                  clear haf ho hsz2 gg
                  intro K hK
                  simp only [List.getElem_toArray, List.getElem_cons_succ, List.getElem_cons_zero] at hK ⊢
                  obtain ⟨nn, rfl⟩ := hW
                  go_simp
                  exact hK _ _ ⟨Below.refl _ _, ⟨nn, rfl⟩, (by first | rfl | (simp only [Value.bool.injEq, decide_eq_false_iff_not]; omega) | (simp only [Value.bool.injEq, decide_eq_true_eq]; omega))⟩
                | 23, ho, haf =>
                  obtain rfl := Option.some.inj ho
                  have gg : a9.tmps.getD 44 undef = .bool false := haf ⟨12, .guard⟩ (by simp) rfl
                  have f22 := getq (show a9.tmps.getD 54 undef = .bool false from haf ⟨22, .data⟩ (by simp) rfl)
                  refine skip_good _ (wanted_some rfl (yielded_of (d := 44) rfl (by omega) gg)) ?_
                  clear haf ho hsz2 gg
                  intro K hK
                  simp only [List.getElem_toArray, List.getElem_cons_succ, List.getElem_cons_zero] at hK ⊢
                  obtain ⟨nn, rfl⟩ := hW
                  go_simp
                  exact hK _ _ ⟨Below.refl _ _, ⟨nn, rfl⟩, rfl⟩
                | 24, ho, haf =>
                  obtain rfl := Option.some.inj ho
                  have gg : a9.tmps.getD 55 undef = .bool false := haf ⟨23, .guard⟩ (by simp) rfl
                  exact skip_no (b := false) rfl (yielded_of (d := 55) rfl (by omega) gg) rfl
                | 25, ho, haf =>
                  obtain rfl := Option.some.inj ho
                  have gg : a9.tmps.getD 55 undef = .bool false := haf ⟨23, .guard⟩ (by simp) rfl
                  exact skip_no (b := false) rfl (yielded_of (d := 55) rfl (by omega) gg) rfl
                | 26, ho, haf =>
                  obtain rfl := Option.some.inj ho
                  have gg : a9.tmps.getD 55 undef = .bool false := haf ⟨23, .guard⟩ (by simp) rfl
                  exact skip_no (b := false) rfl (yielded_of (d := 55) rfl (by omega) gg) rfl
                | 27, ho, haf =>
                  obtain rfl := Option.some.inj ho
                  have gg : a9.tmps.getD 55 undef = .bool false := haf ⟨23, .guard⟩ (by simp) rfl
                  exact skip_no (b := false) rfl (yielded_of (d := 55) rfl (by omega) gg) rfl
                | 28, ho, haf =>
                  obtain rfl := Option.some.inj ho
                  have gg : a9.tmps.getD 55 undef = .bool false := haf ⟨23, .guard⟩ (by simp) rfl
                  exact skip_no (b := false) rfl (yielded_of (d := 55) rfl (by omega) gg) rfl
                | 29, ho, haf =>
                  obtain rfl := Option.some.inj ho
                  have gg : a9.tmps.getD 55 undef = .bool false := haf ⟨23, .guard⟩ (by simp) rfl
                  exact skip_no (b := false) rfl (yielded_of (d := 55) rfl (by omega) gg) rfl
                | 30, ho, haf =>
                  obtain rfl := Option.some.inj ho
                  have gg : a9.tmps.getD 55 undef = .bool false := haf ⟨23, .guard⟩ (by simp) rfl
                  exact skip_no (b := false) rfl (yielded_of (d := 55) rfl (by omega) gg) rfl
                | 31, ho, haf =>
                  obtain rfl := Option.some.inj ho
                  have gg : a9.tmps.getD 55 undef = .bool false := haf ⟨23, .guard⟩ (by simp) rfl
                  exact skip_no (b := false) rfl (yielded_of (d := 55) rfl (by omega) gg) rfl
                | 32, ho, haf =>
                  obtain rfl := Option.some.inj ho
                  have gg : a9.tmps.getD 55 undef = .bool false := haf ⟨23, .guard⟩ (by simp) rfl
                  exact skip_no (b := false) rfl (yielded_of (d := 55) rfl (by omega) gg) rfl
                | 33, ho, haf =>
                  obtain rfl := Option.some.inj ho
                  have gg : a9.tmps.getD 55 undef = .bool false := haf ⟨23, .guard⟩ (by simp) rfl
                  exact skip_no (b := false) rfl (yielded_of (d := 55) rfl (by omega) gg) rfl
                | 34, ho, haf =>
                  obtain rfl := Option.some.inj ho
                  have gg : a9.tmps.getD 55 undef = .bool false := haf ⟨23, .guard⟩ (by simp) rfl
                  exact skip_no (b := false) rfl (yielded_of (d := 55) rfl (by omega) gg) rfl
                | 35, ho, haf =>
                  obtain rfl := Option.some.inj ho
                  have gg : a9.tmps.getD 55 undef = .bool false := haf ⟨23, .guard⟩ (by simp) rfl
                  exact skip_no (b := false) rfl (yielded_of (d := 55) rfl (by omega) gg) rfl
                | 36, ho, haf =>
                  obtain rfl := Option.some.inj ho
                  have gg : a9.tmps.getD 44 undef = .bool false := haf ⟨12, .guard⟩ (by simp) rfl
                  have f23 := getq (show a9.tmps.getD 55 undef = .bool false from haf ⟨23, .data⟩ (by simp) rfl)
                  have f35 := getq (show a9.tmps.getD 67 undef = undef from haf ⟨35, .data⟩ (by simp) rfl)
                  refine skip_good _ (wanted_some rfl (yielded_of (d := 44) rfl (by omega) gg)) ?_
                  clear haf ho hsz2 gg
                  intro K hK
                  simp only [List.getElem_toArray, List.getElem_cons_succ, List.getElem_cons_zero] at hK ⊢
                  obtain ⟨nn, rfl⟩ := hW
                  go_simp
                  exact hK _ _ ⟨Below.refl _ _, ⟨nn, rfl⟩, rfl⟩
                | 37, ho, haf =>
                  obtain rfl := Option.some.inj ho
                  have f12 := getq (show a9.tmps.getD 44 undef = .bool false from haf ⟨12, .data⟩ (by simp) rfl)
                  have f36 := getq (show a9.tmps.getD 68 undef = .bool false from haf ⟨36, .data⟩ (by simp) rfl)
                  refine skip_good _ (wanted_none rfl) ?_
                  clear haf ho hsz2
                  intro K hK
                  simp only [List.getElem_toArray, List.getElem_cons_succ, List.getElem_cons_zero] at hK ⊢
                  obtain ⟨nn, rfl⟩ := hW
                  go_simp
                  exact hK _ _ ⟨Below.refl _ _, ⟨nn, rfl⟩, rfl⟩
                | n + 38, ho, haf => simp at ho
            · as_aux_lemma =>
                intro aa w9 hW hdf hsz hout hall
                have hat : aa.tmps = #[Value.pointer (some { block := X, off := 0 }), undef, u2, Value.int IntKind.i64 ((i : Nat) : Int), Value.pointer (some { block := WJ.heap.size, off := 0 }), Value.int IntKind.i64 ((k : Nat) : Int), Value.int IntKind.i64 ((i : Nat) : Int), Value.pointer (some { block := X, off := 0 }), Value.pointer (some { block := X, off := 0 }), Value.pointer (some { block := X, off := 1 }), Value.slice (some { block := g2, off := 0 }) vs.length lc, Value.int IntKind.i64 ((vs.length : Nat) : Int), Value.bool true, u13, u14, Value.int IntKind.i64 ((i : Nat) : Int), Value.int IntKind.i64 (-1000 - ((i : Nat) : Int)), Value.int IntKind.i64 ((i : Nat) : Int), Value.int IntKind.i64 (-1000 - ((i : Nat) : Int)), Value.agg #[Value.bool false, Value.int IntKind.i64 (-1000 - ((i : Nat) : Int)), Value.int IntKind.i64 (-1000 - ((i : Nat) : Int))], Value.int IntKind.i64 ((k : Nat) : Int), Value.pointer (some { block := X, off := 0 }), Value.pointer (some { block := X, off := 0 }), Value.pointer (some { block := X, off := 1 }), Value.slice (some { block := g2, off := 0 }) vs.length lc, Value.int IntKind.i64 ((i : Nat) : Int), Value.pointer (some { block := g2, off := i }), Value.slice (some { block := g4, off := 0 }) ((f i).length + 64) c4, Value.int IntKind.i64 ((((f i).length : Nat) : Int) + 64), Value.bool true, u30, u31, Value.pointer (some { block := X, off := 0 }), .pointer (some ⟨X, 0, none⟩), .pointer (some ⟨X, 1, none⟩), .slice (some ⟨g2, 0, none⟩) vs.length lc, Value.int IntKind.i64 ((i : Nat) : Int), .pointer (some ⟨g2, i, none⟩), .slice (some ⟨g4, 0, none⟩) ((f i).length + 64) c4, Value.int IntKind.i64 ((k : Nat) : Int), .pointer (some ⟨g4, k * 3, none⟩), .agg (mke i).toArray, .agg (mke i).toArray, .bool false, .bool false, Value.int IntKind.i64 ((k : Nat) : Int), Value.pointer (some { block := X, off := 0 }), .pointer (some ⟨X, 0, none⟩), .pointer (some ⟨X, 0, none⟩), .slice (some ⟨gl, 0, none⟩) vs.length cl, Value.int IntKind.i64 ((i : Nat) : Int), .pointer (some ⟨gl, i, none⟩), .slice a3 (f i).length c3, .int .i64 ((f i).length : Int), .bool false, .bool false, undef, undef, undef, undef, undef, undef, undef, undef, undef, undef, undef, undef, .bool false, .bool false] := by
                  refine (tmps_of (lo := 32) (vs := [Value.pointer (some { block := X, off := 0 }), .pointer (some ⟨X, 0, none⟩), .pointer (some ⟨X, 1, none⟩), .slice (some ⟨g2, 0, none⟩) vs.length lc, Value.int IntKind.i64 ((i : Nat) : Int), .pointer (some ⟨g2, i, none⟩), .slice (some ⟨g4, 0, none⟩) ((f i).length + 64) c4, Value.int IntKind.i64 ((k : Nat) : Int), .pointer (some ⟨g4, k * 3, none⟩), .agg (mke i).toArray, .agg (mke i).toArray, .bool false, .bool false, Value.int IntKind.i64 ((k : Nat) : Int), Value.pointer (some { block := X, off := 0 }), .pointer (some ⟨X, 0, none⟩), .pointer (some ⟨X, 0, none⟩), .slice (some ⟨gl, 0, none⟩) vs.length cl, Value.int IntKind.i64 ((i : Nat) : Int), .pointer (some ⟨gl, i, none⟩), .slice a3 (f i).length c3, .int .i64 ((f i).length : Int), .bool false, .bool false, undef, undef, undef, undef, undef, undef, undef, undef, undef, undef, undef, undef, .bool false, .bool false]) hsz (by kernel_rfl) (Nat.le_of_ble_eq_true (by kernel_rfl)) hout (fun i hi => ?_)).trans ?_
                  · match i, hi with
                    | 0, _ => exact hall 0 (by decide)
                    | 1, _ => exact hall 1 (by decide)
                    | 2, _ => exact hall 2 (by decide)
                    | 3, _ => exact hall 3 (by decide)
                    | 4, _ => exact hall 4 (by decide)
                    | 5, _ => exact hall 5 (by decide)
                    | 6, _ => exact hall 6 (by decide)
                    | 7, _ => exact hall 7 (by decide)
                    | 8, _ => exact hall 8 (by decide)
                    | 9, _ => exact hall 9 (by decide)
                    | 10, _ => exact hall 10 (by decide)
                    | 11, _ => exact hall 11 (by decide)
                    | 12, _ => exact hall 12 (by decide)
                    | 13, _ => exact hall 13 (by decide)
                    | 14, _ => exact hall 14 (by decide)
                    | 15, _ => exact hall 15 (by decide)
                    | 16, _ => exact hall 16 (by decide)
                    | 17, _ => exact hall 17 (by decide)
                    | 18, _ => exact hall 18 (by decide)
                    | 19, _ => exact hall 19 (by decide)
                    | 20, _ => exact hall 20 (by decide)
                    | 21, _ => exact hall 21 (by decide)
                    | 22, _ => exact hall 22 (by decide)
                    | 23, _ => exact hall 23 (by decide)
                    | 24, _ => exact hall 24 (by decide)
                    | 25, _ => exact hall 25 (by decide)
                    | 26, _ => exact hall 26 (by decide)
                    | 27, _ => exact hall 27 (by decide)
                    | 28, _ => exact hall 28 (by decide)
                    | 29, _ => exact hall 29 (by decide)
                    | 30, _ => exact hall 30 (by decide)
                    | 31, _ => exact hall 31 (by decide)
                    | 32, _ => exact hall 32 (by decide)
                    | 33, _ => exact hall 33 (by decide)
                    | 34, _ => exact hall 34 (by decide)
                    | 35, _ => exact hall 35 (by decide)
                    | 36, _ => exact hall 36 (by decide)
                    | 37, _ => exact hall 37 (by decide)
                    | n + 38, h => exact absurd h (by simp)
                  · rfl
                obtain ⟨tt, dd⟩ := aa
                simp only at hat hdf
                subst hat hdf
                clear hsz hout hall
                obtain ⟨nn, rfl⟩ := hW
                go_wp2_with fail
                go_roundw
                case rel => exact ⟨k + 1, _, HKL.out, by go_num, rfl⟩
                case measure => have := HKL.out; simp [intOf]; omega
        · have hki : ¬ ((k : Nat) : Int) < ((f i).length : Int) + 64 := by omega
          clear hk hkl
          go_wp2_with fail
          exact ⟨⟨i + 1, HLT.out, by go_num, below_drewN HBX.out _⟩, by have := HLT.out; simp [intOf]; omega⟩
    · have hii : ¬ ((i : Nat) : Int) < (vs.length : Int) := by omega
      clear hi hlt
      go_wp2_with fail
      go_ret
      exact ⟨rfl, HI5.out⟩
end Os
end Go.Proofs.Ytabfgoojhangnaa
