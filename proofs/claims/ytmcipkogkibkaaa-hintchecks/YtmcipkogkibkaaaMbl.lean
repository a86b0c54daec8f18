/-
  THE WALKS OF the law's own 'first' and 'known': the document's first example is written and read.
  A FRAME, A RECORD AS AN ARGUMENT: what the form of a call says of its cells.
-/
import Derived.Test.YtmcipkogkibkaaaMau
import Derived.Test.YtmcipkogkibkaaaMaw
import Derived.Test.YtmcipkogkibkaaaMax
namespace Go.Proofs.Ytmcipkogkibkaaa
open Go.RowKit
namespace Vt
def F0 : Fr := ofR ⟨1, 1, ⟨#[107]⟩, ⟨#[118]⟩⟩
theorem rf_F0 : rf F0 = 0 := by
  unfold rf
  rw [if_pos (.inl rfl)]
  unfold rfR
  rw [if_neg (fun q => q rfl), if_neg (by show ¬ (1 : Nat) = 0; omega), if_neg (fun q => q ⟨by show 1 ≤ 1; omega, by show 1 ≤ 64; omega⟩), if_neg (by show ¬ (if (1 : Int) = 2 then 0 else 2048) < 1; rw [if_neg (by omega)]; omega), if_neg (fun q => q rfl)]
theorem wf_F0 : F0.Wf := ⟨by show 1 < 18446744073709551616; omega, by show 0 < 18446744073709551616; omega, by show 0 < 4294967296; omega⟩
theorem bd_F0 : bd F0 = [1, 1, 1, 107, 118] := by
  have v1 : vrt 1 = [1] := vrt_small (by omega)
  unfold bd bp
  rw [if_pos (show F0.kind = 1 from rfl)]
  show ([[1], vs [1, 1], [107], [118]] : List (List Nat)).flatten = _
  simp [vs, v1]
theorem wr_F0 : wr (bd F0) = [1, 1, 1, 107, 118] := by rw [bd_F0]; decide
theorem en_F0 : ∃ s, en F0 = 167 :: ([0, 0, 5] ++ ([1, 1, 1, 107, 118] ++ s)) ∧ s.length = 5 := ⟨_, by rw [en_eq, wr_F0]; rfl, dg_len _ _⟩
theorem bodyOk_F0 : BodyOk F0 := fun w => body_1 1 ⟨#[107]⟩ ⟨#[118]⟩ w (by omega) rf_F0
set_option maxRecDepth 100000 in
set_option maxHeartbeats 400000 in
theorem firstF_is (w : World) : Calls Try.prog 15 #[] w fun e w' => e = .returned (.agg #[.int .i64 1, .int .u64 1, .int .i64 1, .string ⟨#[107]⟩, .string ⟨#[118]⟩, .int .u64 0, .int .i64 0, .int .i64 0, .int .i64 0, .string ⟨#[]⟩, .int .i64 0, .int .i64 0, .int .i64 0, .int .u32 0]) ∧ w' = w.alloc (.cells #[.int .i64 1, .int .u64 1, .int .i64 1, .string ⟨#[107]⟩, .string ⟨#[118]⟩, .int .u64 0, .int .i64 0, .int .i64 0, .int .i64 0, .string ⟨#[]⟩, .int .i64 0, .int .i64 0, .int .i64 0, .int .u32 0] 36) := by
  go_enter Try.func15, Try.ntmps15
  go_wp2
  refine bodyPost_ret (results_cell_row rfl _ _ w.heap.size 36 _ (0, 0) _ rfl (heap_alloc_new _ _) Try.underlying36 rfl (by kernel_rfl)) rfl ?_
  exact ⟨rfl, rfl⟩
theorem decF_zero {f : Fr} (hw : f.Wf) (h : rf f = 0) (r : List Nat) : decF (en f ++ r) 0 = (f, (en f).length, 0) := by
  unfold decF
  rw [if_neg (by have := en_pos f; rw [List.length_append]; omega), show (0 : Int).toNat = 0 from rfl, List.drop_zero]
  exact dcd_en hw h r
set_option maxRecDepth 100000 in
set_option maxHeartbeats 1000000 in
theorem known_is (w : World) : Calls Try.prog 5 #[] w fun e w' => e = .returned (.bool true) ∧ Below w.heap.size w w' := by
  have HENC : Hid (∀ w, Calls Try.prog 14 #[.agg #[.int .i64 1, .int .u64 1, .int .i64 1, .string ⟨#[107]⟩, .string ⟨#[118]⟩, .int .u64 0, .int .i64 0, .int .i64 0, .int .i64 0, .string ⟨#[]⟩, .int .i64 0, .int .i64 0, .int .i64 0, .int .u32 0]] w fun e w' => ∃ u, e = .returned (.tuple #[u, .int .i64 0]) ∧ JB w' w.heap.size u (en F0) ∧ Below w.heap.size w w') := fun w => encF_ok F0 w wf_F0 rf_F0 bodyOk_F0
  obtain ⟨s, hs1, hs2⟩ := en_F0
  have HL : Hid ((en F0).length = 14) := by show (en F0).length = 14; rw [hs1]; simp [hs2]
  have HDV : Hid (dval (decF (en F0) 0) = .tuple #[.agg #[.int .i64 1, .int .u64 1, .int .i64 1, .string ⟨#[107]⟩, .string ⟨#[118]⟩, .int .u64 0, .int .i64 0, .int .i64 0, .int .i64 0, .string ⟨#[]⟩, .int .i64 0, .int .i64 0, .int .i64 0, .int .u32 0], .int .i64 14, .int .i64 0]) := by
    show dval (decF (en F0) 0) = _
    have := decF_zero wf_F0 rf_F0 []
    rw [List.append_nil] at this
    rw [this, HL.out]
    rfl
  have HG : Hid ((en F0).getD 0 0 = 167 ∧ (en F0).getD 3 0 = 5 ∧ (en F0).getD 4 0 = 1 ∧ (en F0).getD 8 0 = 118) := by
    show (en F0).getD 0 0 = 167 ∧ _
    rw [hs1]; exact ⟨rfl, rfl, rfl, rfl⟩
  clear hs1 hs2
  go_enter Try.func5, Try.ntmps5
  go_wp2_with fail
  refine Calls.mono (firstF_is w) ?_
  rintro e w' ⟨rfl, hw'⟩
  subst hw'
  go_wp2_with fail
  refine Calls.mono (HENC.out _) ?_
  rintro e w1 ⟨u, rfl, hj, hb⟩
  have HB1 := hd (below_alloc1 hb)
  have HI1 := hd hj.isB
  obtain ⟨ua, uc, rfl, hcap⟩ := hj.shape
  rw [HL.out] at HI1 hcap ⊢
  clear hj hb HENC
  go_wp2_with fail
  refine Calls.mono (decode_all _ (en F0) 0 w1 HI1.out) ?_
  rw [HDV.out]
  rintro e w2 ⟨rfl, hb⟩
  have HB2 : Hid (Below w.heap.size w w2) := HB1.out.trans (hb.mono HB1.out.size)
  have HI2 := hd (HI1.out.below hb)
  have hs2 := hb.size
  clear hb HI1 HDV
  obtain ⟨g, off, hg⟩ : ∃ g off, ua = some ⟨g, off, none⟩ := by
    obtain ⟨_, _, ⟨q, _⟩ | ⟨b, off, c', e, _⟩⟩ := HI2.out
    · rw [q] at HL; exact absurd HL.out (by simp)
    · injection e with e1
      exact ⟨b, off, e1⟩
  subst hg
  have hblk : g < w2.heap.size := lt_of_cell (HI2.out.row 0 (by rw [HL.out]; omega))
  have r0 := HI2.out.row 0 (by rw [HL.out]; omega)
  have r3 := HI2.out.row 3 (by rw [HL.out]; omega)
  have r4 := HI2.out.row 4 (by rw [HL.out]; omega)
  have r8 := HI2.out.row 8 (by rw [HL.out]; omega)
  rw [HG.out.1] at r0
  rw [HG.out.2.1] at r3
  rw [HG.out.2.2.1] at r4
  rw [HG.out.2.2.2] at r8
  rw [Nat.add_zero] at r0
  have n1 : ¬ g = w2.heap.size := by omega
  have n2 : ¬ w2.heap.size = g := by omega
  clear HG HI2 HL
  go_wp2_with fail
  clear r0 r3 r4 r8 n1 n2 hblk hcap hs2
  have HW2 : Hid (Blk (w2.alloc (.cells #[.int .i64 1, .int .u64 1, .int .i64 1, .string ⟨#[107]⟩, .string ⟨#[118]⟩, .int .u64 0, .int .i64 0, .int .i64 0, .int .i64 0, .string ⟨#[]⟩, .int .i64 0, .int .i64 0, .int .i64 0, .int .u32 0] 36)) w2.heap.size 36 [.int .i64 1, .int .u64 1, .int .i64 1, .string ⟨#[107]⟩, .string ⟨#[118]⟩, .int .u64 0, .int .i64 0, .int .i64 0, .int .i64 0, .string ⟨#[]⟩, .int .i64 0, .int .i64 0, .int .i64 0, .int .u32 0]) := Blk.new w2 _ _
  have HB3 : Hid (Below w.heap.size w (w2.alloc (.cells #[.int .i64 1, .int .u64 1, .int .i64 1, .string ⟨#[107]⟩, .string ⟨#[118]⟩, .int .u64 0, .int .i64 0, .int .i64 0, .int .i64 0, .string ⟨#[]⟩, .int .i64 0, .int .i64 0, .int .i64 0, .int .u32 0] 36))) := HB2.out.alloc HB2.out.size _
  refine region_inv (fun i v w => match i with
    | 0 => v = .bool true
    | 1 => v = .bool true
    | 2 => v = .agg #[.int .i64 1, .int .u64 1, .int .i64 1, .string ⟨#[107]⟩, .string ⟨#[118]⟩, .int .u64 0, .int .i64 0, .int .i64 0, .int .i64 0, .string ⟨#[]⟩, .int .i64 0, .int .i64 0, .int .i64 0, .int .u32 0]
    | 3 => v = .agg #[.int .i64 1, .int .u64 1, .int .i64 1, .string ⟨#[107]⟩, .string ⟨#[118]⟩, .int .u64 0, .int .i64 0, .int .i64 0, .int .i64 0, .string ⟨#[]⟩, .int .i64 0, .int .i64 0, .int .i64 0, .int .u32 0]
    | 4 => v = .bool true
    | 5 => v = .bool true
    | 6 => v = .bool true
    | 7 => v = .int .i64 14
    | 8 => v = .bool true
    | 9 => v = .bool true
    | 10 => v = .bool true
    | 11 => v = .int .i64 0
    | 12 => v = .bool true
    | 13 => v = .bool true
    | _ => v = .bool true) (fun w => Below (w2.alloc (.cells #[.int .i64 1, .int .u64 1, .int .i64 1, .string ⟨#[107]⟩, .string ⟨#[118]⟩, .int .u64 0, .int .i64 0, .int .i64 0, .int .i64 0, .string ⟨#[]⟩, .int .i64 0, .int .i64 0, .int .i64 0, .int .u32 0] 36)).heap.size (w2.alloc (.cells #[.int .i64 1, .int .u64 1, .int .i64 1, .string ⟨#[107]⟩, .string ⟨#[118]⟩, .int .u64 0, .int .i64 0, .int .i64 0, .int .i64 0, .string ⟨#[]⟩, .int .i64 0, .int .i64 0, .int .i64 0, .int .u32 0] 36)) w) (by kernel_rfl) (by kernel_rfl) (by kernel_rfl) (Below.drew (Below.refl _ _)) ?_ ?_ ?_
  · intro i v w w' _ _ hb hG
    match i, hG with
    | 0, h => exact h
    | 1, h => exact h
    | 2, h => exact h
    | 3, h => exact h
    | 4, h => exact h
    | 5, h => exact h
    | 6, h => exact h
    | 7, h => exact h
    | 8, h => exact h
    | 9, h => exact h
    | 10, h => exact h
    | 11, h => exact h
    | 12, h => exact h
    | 13, h => exact h
    | n + 14, h => exact h
  · intro i o ho a w hW hdf hsz hout haf
    have e3 : a.tmps.getD 3 undef = .pointer (some ⟨w2.heap.size, 0, none⟩) := hout 3 (notDst_spec (by kernel_rfl))
    have e4 : a.tmps.getD 4 undef = .int .i64 14 := hout 4 (notDst_spec (by kernel_rfl))
    have e5 : a.tmps.getD 5 undef = .int .i64 0 := hout 5 (notDst_spec (by kernel_rfl))
    have e6 : a.tmps.getD 6 undef = .bool true := hout 6 (notDst_spec (by kernel_rfl))
    have hsz2 : a.tmps.size = 61 := hsz
    clear hout hsz hdf
    match i, ho, haf with
    | 0, ho, haf =>
      obtain rfl := Option.some.inj ho
      refine step_good _ (wanted_none rfl) ?_
      intro K hK
      show K (a.put (some 47) (a.eval (.tmp 6))) w
      rw [show a.eval (.tmp 6) = .bool true from e6]
      exact hK _ _ ⟨Below.refl _ _, hW, rfl⟩
    | 1, ho, haf =>
      obtain rfl := Option.some.inj ho
      have d0 : a.tmps.getD 47 undef = .bool true := haf ⟨0, .data⟩ (by simp) rfl
      refine step_good _ (wanted_none rfl) ?_
      intro K hK
      show K (a.put (some 48) (a.eval (.tmp 47))) w
      rw [show a.eval (.tmp 47) = .bool true from d0]
      exact hK _ _ ⟨Below.refl _ _, hW, rfl⟩
    | 2, ho, haf =>
      obtain rfl := Option.some.inj ho
      have gg : a.tmps.getD 48 undef = .bool true := haf ⟨1, .guard⟩ (by simp) rfl
      have HBL := (HW2.out.keep hW : Blk w w2.heap.size 36 [.int .i64 1, .int .u64 1, .int .i64 1, .string ⟨#[107]⟩, .string ⟨#[118]⟩, .int .u64 0, .int .i64 0, .int .i64 0, .int .i64 0, .string ⟨#[]⟩, .int .i64 0, .int .i64 0, .int .i64 0, .int .u32 0])
      refine step_good _ (wanted_some rfl (yielded_of (d := 48) rfl (by omega) gg)) ?_
      clear haf ho hsz2
      intro K hK
      exact wp_load_row 36 (.tmp 3) rfl w2.heap.size e3 36 #[.int .i64 1, .int .u64 1, .int .i64 1, .string ⟨#[107]⟩, .string ⟨#[118]⟩, .int .u64 0, .int .i64 0, .int .i64 0, .int .i64 0, .string ⟨#[]⟩, .int .i64 0, .int .i64 0, .int .i64 0, .int .u32 0] (0, 0) _ HBL Try.underlying36 rfl (by kernel_rfl) (hK _ _ ⟨Below.refl _ _, hW, rfl⟩)
    | 3, ho, haf =>
      obtain rfl := Option.some.inj ho
      have gg : a.tmps.getD 48 undef = .bool true := haf ⟨1, .guard⟩ (by simp) rfl
      refine step_good _ (wanted_some rfl (yielded_of (d := 48) rfl (by omega) gg)) ?_
      clear haf ho hsz2
      intro K hK
      simp only [List.getElem_toArray, List.getElem_cons_succ, List.getElem_cons_zero] at hK ⊢
      go_simp
      refine Calls.mono (firstF_is w) ?_
      rintro e w' ⟨rfl, rfl⟩
      exact hK _ _ ⟨(Below.refl _ _).alloc (Nat.le_refl _) _, hW.alloc hW.size _, rfl⟩
    | 4, ho, haf =>
      obtain rfl := Option.some.inj ho
      have gg : a.tmps.getD 48 undef = .bool true := haf ⟨1, .guard⟩ (by simp) rfl
      have g2 := getq (show a.tmps.getD 49 undef = .agg #[.int .i64 1, .int .u64 1, .int .i64 1, .string ⟨#[107]⟩, .string ⟨#[118]⟩, .int .u64 0, .int .i64 0, .int .i64 0, .int .i64 0, .string ⟨#[]⟩, .int .i64 0, .int .i64 0, .int .i64 0, .int .u32 0] from haf ⟨2, .data⟩ (by simp) rfl)
      have g3 := getq (show a.tmps.getD 50 undef = .agg #[.int .i64 1, .int .u64 1, .int .i64 1, .string ⟨#[107]⟩, .string ⟨#[118]⟩, .int .u64 0, .int .i64 0, .int .i64 0, .int .i64 0, .string ⟨#[]⟩, .int .i64 0, .int .i64 0, .int .i64 0, .int .u32 0] from haf ⟨3, .data⟩ (by simp) rfl)
      refine step_good _ (wanted_some rfl (yielded_of (d := 48) rfl (by omega) gg)) ?_
      clear haf ho hsz2
      intro K hK
      simp only [List.getElem_toArray, List.getElem_cons_succ, List.getElem_cons_zero] at hK ⊢
      have heq : ∀ w, (binOp .eql 36 (.agg #[.int .i64 1, .int .u64 1, .int .i64 1, .string ⟨#[107]⟩, .string ⟨#[118]⟩, .int .u64 0, .int .i64 0, .int .i64 0, .int .i64 0, .string ⟨#[]⟩, .int .i64 0, .int .i64 0, .int .i64 0, .int .u32 0]) (.agg #[.int .i64 1, .int .u64 1, .int .i64 1, .string ⟨#[107]⟩, .string ⟨#[118]⟩, .int .u64 0, .int .i64 0, .int .i64 0, .int .i64 0, .string ⟨#[]⟩, .int .i64 0, .int .i64 0, .int .i64 0, .int .u32 0])).run Try.prog w = .ok (.bool true) w := eql_yes (f := F0) (g := F0) rfl
      go_simp
      exact hK _ _ ⟨Below.refl _ _, hW, rfl⟩
    | 5, ho, haf =>
      obtain rfl := Option.some.inj ho
      have g1 := getq (show a.tmps.getD 48 undef = .bool true from haf ⟨1, .data⟩ (by simp) rfl)
      have g4 := getq (show a.tmps.getD 51 undef = .bool true from haf ⟨4, .data⟩ (by simp) rfl)
      refine step_good _ (wanted_none rfl) ?_
      clear haf ho hsz2
      intro K hK
      simp only [List.getElem_toArray, List.getElem_cons_succ, List.getElem_cons_zero] at hK ⊢
      go_simp
      exact hK _ _ ⟨Below.refl _ _, hW, rfl⟩
    | 6, ho, haf =>
      obtain rfl := Option.some.inj ho
      have d5 : a.tmps.getD 52 undef = .bool true := haf ⟨5, .data⟩ (by simp) rfl
      refine step_good _ (wanted_none rfl) ?_
      intro K hK
      show K (a.put (some 53) (a.eval (.tmp 52))) w
      rw [show a.eval (.tmp 52) = .bool true from d5]
      exact hK _ _ ⟨Below.refl _ _, hW, rfl⟩
    | 7, ho, haf =>
      obtain rfl := Option.some.inj ho
      have gg : a.tmps.getD 53 undef = .bool true := haf ⟨6, .guard⟩ (by simp) rfl
      refine step_good _ (wanted_some rfl (yielded_of (d := 53) rfl (by omega) gg)) ?_
      intro K hK
      show K (a.put (some 54) (a.eval (.tmp 4))) w
      rw [show a.eval (.tmp 4) = .int .i64 14 from e4]
      exact hK _ _ ⟨Below.refl _ _, hW, rfl⟩
    | 8, ho, haf =>
      obtain rfl := Option.some.inj ho
      have gg : a.tmps.getD 53 undef = .bool true := haf ⟨6, .guard⟩ (by simp) rfl
      have g7 := getq (show a.tmps.getD 54 undef = .int .i64 14 from haf ⟨7, .data⟩ (by simp) rfl)
      refine step_good _ (wanted_some rfl (yielded_of (d := 53) rfl (by omega) gg)) ?_
      clear haf ho hsz2
      intro K hK
      simp only [List.getElem_toArray, List.getElem_cons_succ, List.getElem_cons_zero] at hK ⊢
      go_simp
      exact hK _ _ ⟨Below.refl _ _, hW, rfl⟩
    | 9, ho, haf =>
      obtain rfl := Option.some.inj ho
      have g6 := getq (show a.tmps.getD 53 undef = .bool true from haf ⟨6, .data⟩ (by simp) rfl)
      have g8 := getq (show a.tmps.getD 55 undef = .bool true from haf ⟨8, .data⟩ (by simp) rfl)
      refine step_good _ (wanted_none rfl) ?_
      clear haf ho hsz2
      intro K hK
      simp only [List.getElem_toArray, List.getElem_cons_succ, List.getElem_cons_zero] at hK ⊢
      go_simp
      exact hK _ _ ⟨Below.refl _ _, hW, rfl⟩
    | 10, ho, haf =>
      obtain rfl := Option.some.inj ho
      have d9 : a.tmps.getD 56 undef = .bool true := haf ⟨9, .data⟩ (by simp) rfl
      refine step_good _ (wanted_none rfl) ?_
      intro K hK
      show K (a.put (some 57) (a.eval (.tmp 56))) w
      rw [show a.eval (.tmp 56) = .bool true from d9]
      exact hK _ _ ⟨Below.refl _ _, hW, rfl⟩
    | 11, ho, haf =>
      obtain rfl := Option.some.inj ho
      have gg : a.tmps.getD 57 undef = .bool true := haf ⟨10, .guard⟩ (by simp) rfl
      refine step_good _ (wanted_some rfl (yielded_of (d := 57) rfl (by omega) gg)) ?_
      intro K hK
      show K (a.put (some 58) (a.eval (.tmp 5))) w
      rw [show a.eval (.tmp 5) = .int .i64 0 from e5]
      exact hK _ _ ⟨Below.refl _ _, hW, rfl⟩
    | 12, ho, haf =>
      obtain rfl := Option.some.inj ho
      have gg : a.tmps.getD 57 undef = .bool true := haf ⟨10, .guard⟩ (by simp) rfl
      have g11 := getq (show a.tmps.getD 58 undef = .int .i64 0 from haf ⟨11, .data⟩ (by simp) rfl)
      refine step_good _ (wanted_some rfl (yielded_of (d := 57) rfl (by omega) gg)) ?_
      clear haf ho hsz2
      intro K hK
      simp only [List.getElem_toArray, List.getElem_cons_succ, List.getElem_cons_zero] at hK ⊢
      go_simp
      exact hK _ _ ⟨Below.refl _ _, hW, rfl⟩
    | 13, ho, haf =>
      obtain rfl := Option.some.inj ho
      have g10 := getq (show a.tmps.getD 57 undef = .bool true from haf ⟨10, .data⟩ (by simp) rfl)
      have g12 := getq (show a.tmps.getD 59 undef = .bool true from haf ⟨12, .data⟩ (by simp) rfl)
      refine step_good _ (wanted_none rfl) ?_
      clear haf ho hsz2
      intro K hK
      simp only [List.getElem_toArray, List.getElem_cons_succ, List.getElem_cons_zero] at hK ⊢
      go_simp
      exact hK _ _ ⟨Below.refl _ _, hW, rfl⟩
    | 14, ho, haf =>
      obtain rfl := Option.some.inj ho
      have g13 := getq (show a.tmps.getD 60 undef = .bool true from haf ⟨13, .data⟩ (by simp) rfl)
      refine step_good _ (wanted_none rfl) ?_
      clear haf ho hsz2
      intro K hK
      simp only [List.getElem_toArray, List.getElem_cons_succ, List.getElem_cons_zero] at hK ⊢
      go_simp
      exact hK _ _ ⟨Below.refl _ _, hW, rfl⟩
    | n + 15, ho, haf => simp at ho
  · intro a w hW hdf hsz hout hall
    have h0 : a.tmps.getD 0 undef = .bool true := hall 14 (by decide)
    have hdf2 : a.defers = [] := hdf
    clear hall hout hsz hdf
    go_wp2
    refine bodyPost_ret (v := .bool true) ?_ hdf2 ⟨rfl, HB3.out.trans (hW.mono HB3.out.size)⟩
    simp [results, Try.results5, go_sem, getq h0]
end Vt
end Go.Proofs.Ytmcipkogkibkaaa
namespace Go.Proofs.Ytmcipkogkibkaaa
open Go.ChangeShapes Go.WideShapes Go.ChangeAt Go.RowKit
namespace Vt
theorem cell_int {P : Program} {w : World} {r : Reach} {base : Nat} {t : TypeId} {k : IntKind} {v : Value} (ht : P.underlying t = some (.int k)) (h : Cell.okWide P w r base t v) : ∃ n, v = .int k n ∧ k.has n := by
  simp only [Cell.okWide, ht] at h
  cases v <;> simp_all [Cell.ok]
theorem cell_string {P : Program} {w : World} {r : Reach} {base : Nat} {t : TypeId} {v : Value} (ht : P.underlying t = some .string) (h : Cell.okWide P w r base t v) : ∃ s, v = .string s := by
  simp only [Cell.okWide, ht] at h
  cases v <;> simp_all [Cell.ok]
theorem has_u64 {n : Int} (h : IntKind.u64.has n) : 0 ≤ n ∧ n < 18446744073709551616 := by
  have e1 : IntKind.u64.min = 0 := rfl
  have e2 : IntKind.u64.max = 18446744073709551615 := rfl
  unfold IntKind.has at h
  rw [e1, e2] at h
  omega
theorem has_u32 {n : Int} (h : IntKind.u32.has n) : 0 ≤ n ∧ n < 4294967296 := by
  have e1 : IntKind.u32.min = 0 := rfl
  have e2 : IntKind.u32.max = 4294967295 := rfl
  unfold IntKind.has at h
  rw [e1, e2] at h
  omega
theorem cells_fr : Try.prog.cellTypes Try.prog.depth 36 = some [24, 25, 24, 9, 9, 25, 24, 3, 3, 9, 3, 3, 3, 30] := by kernel_rfl
theorem size_fr : Try.prog.cellsOf 36 = 14 := by kernel_rfl
theorem list14 {α : Type} {l : List α} (h : l.length = 14) : ∃ a b c d e f g i j k m n o p, l = [a, b, c, d, e, f, g, i, j, k, m, n, o, p] := by
  match l, h with
  | [a, b, c, d, e, f, g, i, j, k, m, n, o, p], _ => exact ⟨a, b, c, d, e, f, g, i, j, k, m, n, o, p, rfl⟩
theorem okW_struct {P : Program} {w : World} {r : Reach} {base : Nat} {t : TypeId} {fs : Array Field} {v : Value} (ht : P.underlying t = some (.struct fs)) (h : Value.okWide P w r base t v) : ∃ cs, v = .agg cs ∧ cs.size = P.cellsOf t ∧ Row.okWide P w r base t cs := by
  simp only [Value.okWide, ht] at h
  exact h
set_option maxRecDepth 100000 in
/-- a frame that comes in -/
theorem frame_arg {w : World} {r : Reach} {base : Nat} {v : Value} (h : Value.okWide Try.prog w r base 36 v) : ∃ f : Fr, v = .agg (fv f) ∧ f.Wf := by
  obtain ⟨cs, rfl, hsz, ts, hts, _, hcell⟩ := okW_struct Try.underlying36 h
  rw [size_fr] at hsz
  rw [cells_fr] at hts
  injection hts with hts
  subst hts
  obtain ⟨l⟩ := cs
  obtain ⟨v0, v1, v2, v3, v4, v5, v6, v7, v8, v9, v10, v11, v12, v13, rfl⟩ := list14 (l := l) (by simpa using hsz)
  have key : ∀ i v u, (#[v0, v1, v2, v3, v4, v5, v6, v7, v8, v9, v10, v11, v12, v13] : Array Value)[i]? = some v → [24, 25, 24, 9, 9, 25, 24, 3, 3, 9, 3, 3, 3, 30][i % 14]? = some u → Cell.okWide Try.prog w r base u v := by
    intro i v u hv hu
    obtain ⟨u', hu', hc⟩ := hcell i v hv
    have e : some u' = some u := hu'.symm.trans hu
    injection e with e
    subst e
    exact hc
  obtain ⟨n0, rfl, _⟩ := cell_int Try.underlying24 (key 0 _ _ rfl rfl)
  obtain ⟨n1, rfl, b1⟩ := cell_int Try.underlying25 (key 1 _ _ rfl rfl)
  obtain ⟨n2, rfl, _⟩ := cell_int Try.underlying24 (key 2 _ _ rfl rfl)
  obtain ⟨s3, rfl⟩ := cell_string Try.underlying9 (key 3 _ _ rfl rfl)
  obtain ⟨s4, rfl⟩ := cell_string Try.underlying9 (key 4 _ _ rfl rfl)
  obtain ⟨n5, rfl, b5⟩ := cell_int Try.underlying25 (key 5 _ _ rfl rfl)
  obtain ⟨n6, rfl, _⟩ := cell_int Try.underlying24 (key 6 _ _ rfl rfl)
  obtain ⟨n7, rfl, _⟩ := cell_int Try.underlying3 (key 7 _ _ rfl rfl)
  obtain ⟨n8, rfl, _⟩ := cell_int Try.underlying3 (key 8 _ _ rfl rfl)
  obtain ⟨s9, rfl⟩ := cell_string Try.underlying9 (key 9 _ _ rfl rfl)
  obtain ⟨n10, rfl, _⟩ := cell_int Try.underlying3 (key 10 _ _ rfl rfl)
  obtain ⟨n11, rfl, _⟩ := cell_int Try.underlying3 (key 11 _ _ rfl rfl)
  obtain ⟨n12, rfl, _⟩ := cell_int Try.underlying3 (key 12 _ _ rfl rfl)
  obtain ⟨n13, rfl, b13⟩ := cell_int Try.underlying30 (key 13 _ _ rfl rfl)
  have u1 : 0 ≤ n1 ∧ n1 < 18446744073709551616 := has_u64 b1
  have u5 : 0 ≤ n5 ∧ n5 < 18446744073709551616 := has_u64 b5
  have u13 : 0 ≤ n13 ∧ n13 < 4294967296 := has_u32 b13
  obtain ⟨m1, rfl⟩ : ∃ m : Nat, n1 = (m : Int) := ⟨n1.toNat, by omega⟩
  obtain ⟨m5, rfl⟩ : ∃ m : Nat, n5 = (m : Int) := ⟨n5.toNat, by omega⟩
  obtain ⟨m13, rfl⟩ : ∃ m : Nat, n13 = (m : Int) := ⟨n13.toNat, by omega⟩
  exact ⟨⟨n0, ⟨m1, n2, s3, s4⟩, ⟨m5, n6, n7, n8, s9⟩, ⟨n10, n11, n12, m13⟩⟩, rfl, by show m1 < _; omega, by show m5 < _; omega, by show m13 < _; omega⟩
end Vt
end Go.Proofs.Ytmcipkogkibkaaa
