/-
  PROVED: for all texts b of bulk at most 1048576, all numbers at and bytes by, the Go law ScanHurt answers true and changes nothing that came in: damage stays where it was done.
-/
import Derived.Test.YtbcibgjphjlffaaSpa
import Derived.Test.YtbcibgjphjlffaaSp
namespace Go.Proofs.Ytbcibgjphjlffaa
open Go.ChangeShapes Go.WideShapes Go.ChangeAt Go.RowKit Go.Shelf
namespace Vt
set_option maxRecDepth 100000 in
theorem shurt_nil (a : Option Addr) (c : Nat) (z y : Int) (w : World) :
    Calls Try.prog 9 #[.slice a 0 c, .int .i64 z, .int .u8 y] w fun e w' => e = .returned (.bool true) ∧ Below w.heap.size w w' := by
  go_enter Try.func9, Try.ntmps9
  go_wp2_with fail
  refine Calls.mono (works_is w) ?_
  rintro e w1 ⟨rfl, b1⟩
  have B1 := hd b1
  clear b1
  go_wp2_with fail
  go_ret
  exact ⟨rfl, B1.out⟩
set_option maxRecDepth 100000 in
set_option maxHeartbeats 4000000 in
theorem shurt_row (v : Value) (l : List Nat) (z : Int) (yb : Nat) (w : World) (hI : IsB w v l) (hm : l.length ≤ 1048576) (hl0 : l ≠ []) (hz : (Lit.int .i64 z).wf = true) (hyb : yb < 256) :
    Calls Try.prog 9 #[v, .int .i64 z, .int .u8 (yb : Int)] w fun e w' => e = .returned (.bool true) ∧ Below w.heap.size w w' := by
  obtain ⟨a, c, rfl⟩ := hI.shape
  have HI := hd hI
  have HBY := hd hI.1
  have hsl := sps_len hI.1
  clear hI
  have hlp : 0 < l.length := by
    cases l with
    | nil => exact absurd rfl hl0
    | cons x r => simp
  have hne : ((l.length : Int) == 0) = false := by rw [beq_eq_false_iff_ne]; omega
  go_enter Try.func9, Try.ntmps9
  go_wp2_with fail
  refine Calls.mono (works_is w) ?_
  rintro e w1 ⟨rfl, b1⟩
  have B1 := hd b1
  have HI1 := hd (HI.out.below b1)
  clear b1 HI
  go_wp2_with fail
  refine Calls.mono (pick_is z l.length w1 hlp (by omega) hz) ?_
  rintro e w' ⟨i, hi, rfl, hw'⟩
  have hw2 := hw'.symm
  subst hw2
  clear hw'
  go_wp2_with fail
  refine Calls.mono (lent_is _ l w1 HI1.out (by omega)) ?_
  rintro e w2 ⟨rfl, j2, b2⟩
  have HI2 := hd (HI1.out.below b2)
  have B2 := hd (B1.out.trans (b2.mono B1.out.size))
  obtain ⟨N, hN⟩ : ∃ N, N = w1.heap.size := ⟨_, rfl⟩
  have hNw : w.heap.size ≤ N := by rw [hN]; exact B1.out.size
  have HLO : Hid (∀ b off n c0, l ≠ [] → Value.slice a l.length c = .slice (some ⟨b, off, none⟩) n c0 → b < N) := by
    intro b0 off n c0 hne e
    obtain ⟨_, _, ⟨rfl, _⟩ | ⟨nb, no, nc, e1, _, _, hnb, hnr⟩⟩ := HI1.out
    · exact absurd rfl hne
    · rw [e] at e1; injection e1 with e1 e2 e3; injection e1 with e1; injection e1 with e1 e4; omega
  rw [← hN] at j2 ⊢
  clear hN b2 HI1 B1
  have hcell := j2.buf.cell (j := i) (by rw [mk8_len]; omega)
  have hfro := j2.buf.2.2.2.2.2 i (by rw [mk8_len]; omega)
  rw [mk8_lo hi] at hcell
  have hp := getD_lt HBY.out i
  obtain ⟨q, hq⟩ : ∃ q, q = l.getD i 0 ^^^ yb := ⟨_, rfl⟩
  have hq2 : q < 256 := by rw [hq]; exact Nat.xor_lt_two_pow (n := 8) hp hyb
  have hx := u8_xor_nat (l.getD i 0) yb hp hyb
  rw [← hq] at hx
  have hgN : N < w2.heap.size := j2.buf.2.2.1
  have HJ3 := hd (j2.buf.set (j := i) (y := q) (by rw [mk8_len]; omega) hq2)
  have HST : Hid (((mk8 l).set i q).take l.length = l.set i q) := by
    show ((mk8 l).set i q).take l.length = l.set i q
    unfold mk8
    rw [List.set_append_left _ _ hi, List.take_left' (by rw [List.length_set])]
  clear hq j2
  generalize l.getD i 0 = pp at *
  by_cases hq7 : q = 167
  · subst hq7
    go_wp2_with fail
    go_ret
    exact ⟨rfl, B2.out.setCell (p := ⟨N, i, none⟩) hNw _⟩
  · have hq8 : ((q : Int) == 167) = false := by rw [beq_eq_false_iff_ne]; omega
    have hb3 : Below N w2 (w2.setCell ⟨N, i, none⟩ (.int .u8 (q : Int))) := (Below.refl _ _).setCell (p := ⟨N, i, none⟩) (Nat.le_refl _) _
    have HI3 : Hid (IsB (w2.setCell ⟨N, i, none⟩ (.int .u8 (q : Int))) (.slice a l.length c) l) := HI2.out.setO (fun b0 off n c0 e => by have := HLO.out b0 off n c0 hl0 e; show b0 ≠ N; omega) _
    have HIC : Hid (IsB (w2.setCell ⟨N, i, none⟩ (.int .u8 (q : Int))) (.slice (some ⟨N, 0, none⟩) l.length (l.length + 8)) (l.set i q)) := by
      have h1 := (HJ3.out.isB rfl).take l.length (by rw [List.length_set, mk8_len]; omega)
      rw [HST.out] at h1
      exact h1
    have HB3 := hd (B2.out.setCell (p := ⟨N, i, none⟩) hNw (.int .u8 (q : Int)))
    obtain ⟨W3, hW3⟩ : ∃ W3, W3 = w2.setCell ⟨N, i, none⟩ (.int .u8 (q : Int)) := ⟨_, rfl⟩
    rw [← hW3] at HI3 HIC HB3
    have HW3 := hd hW3
    clear hb3 hW3 HI2 HJ3
    have H1 : Hid (∀ s ∈ sps l, ¬ (s.1 ≤ i ∧ i < s.1 + s.2) → s ∈ sps (l.set i q)) := fun s hs h => sps_hurt HBY.out hs h
    have H2 : Hid (∀ s ∈ sps (l.set i q), ¬ (s.1 ≤ i ∧ i < s.1 + s.2) → s ∈ sps l) := fun s hs h => by
      have h1 := sps_hurt HIC.out.1 (i := i) (c := l.getD i 0) hs h
      rw [List.set_set] at h1
      have h2 : l.set i (l.getD i 0) = l := by
        rw [List.getD_eq_getElem?_getD, List.getElem?_eq_getElem hi]; exact List.set_getElem_self hi
      rwa [h2] at h1
    have HSB := hd (sps_bound HBY.out)
    have HTB := hd (sps_bound HIC.out.1)
    have htl := sps_len HIC.out.1
    rw [List.length_set] at HTB htl
    go_wp2_with fail
    rw [← HW3.out]
    refine Calls.mono (spots_is _ l W3 HI3.out (by omega)) ?_
    rintro e w4 ⟨u4, rfl, j4, b4⟩
    obtain ⟨S, hS⟩ : ∃ S, S = sps l := ⟨_, rfl⟩
    rw [← hS] at j4 hsl H1 H2 HSB
    clear hS
    obtain ⟨a4, c4, rfl, hc4⟩ := j4.shape
    rw [List.length_map] at hc4 j4 ⊢
    have J4 := hd j4
    have HIC4 := hd (HIC.out.below b4)
    have B4 := hd (HB3.out.trans (b4.mono HB3.out.size))
    clear j4 b4 HI3 HIC HB3 HW3
    go_wp2_with fail
    refine Calls.mono (spots_is _ (l.set i q) w4 HIC4.out (by rw [List.length_set]; omega)) ?_
    rintro e w5 ⟨u5, rfl, j5, b5⟩
    obtain ⟨T, hT⟩ : ∃ T, T = sps (l.set i q) := ⟨_, rfl⟩
    rw [← hT] at j5 htl H1 H2 HTB
    clear hT
    obtain ⟨a5, c5, rfl, hc5⟩ := j5.shape
    rw [List.length_map] at hc5 j5 ⊢
    have JT := hd j5
    have JS := hd (J4.out.keepAll b5)
    have B5 := hd (B4.out.trans (b5.mono B4.out.size))
    clear j5 b5 J4 B4 HIC4
    go_wp2_with fail
    go_loopw [12] (fun p wr => ∃ k : Nat, k ≤ S.length ∧ p = .int .i64 (k : Int) ∧ Below w5.heap.size w5 wr) (fun p _ => S.length - (intOf p).toNat)
    case atStart => exact ⟨0, by omega, rfl, Below.refl _ _⟩
    case round =>
      obtain ⟨k, hk, rfl, hbr⟩ := hrel
      have HBR := hd hbr
      have hsr := hbr.size
      by_cases hlt : k < S.length
      · obtain ⟨⟨p1, n1⟩, hx2⟩ : ∃ x, S[k]? = some x := ⟨S[k], List.getElem?_eq_getElem hlt⟩
        have hxb := HSB.out _ (List.mem_of_getElem? hx2)
        simp only at hxb
        have hxm : (S.map spv)[k]? = some [.int .i64 (p1 : Int), .int .i64 (n1 : Int)] := by rw [List.getElem?_map, hx2]; rfl
        have hne2 : S.map spv ≠ [] := by intro e; rw [e] at hxm; simp at hxm
        have jr := JS.out.keepAll hbr
        have jo := JT.out.keepAll hbr
        obtain ⟨g, c1', hv, hgc, hgm⟩ := jr.nn hne2
        injection hv with e1 e2 e3
        subst e1 e3
        have r0 : wr.cell? ⟨g, k * 2, none⟩ = some (.int .i64 (p1 : Int)) := jr.at k _ 0 _ hxm rfl
        have r1 : wr.cell? ⟨g, k * 2 + 1, none⟩ = some (.int .i64 (n1 : Int)) := jr.at k _ 1 _ hxm rfl
        obtain ⟨bb, hbb, hcs⟩ : ∃ bb : Bool, (bb = true ↔ (p1, n1) ∈ T) ∧ ∀ m : Nat, Calls Try.prog 36 #[.slice a5 T.length c5, .agg #[.int .i64 (p1 : Int), .int .i64 (n1 : Int)]] (wr.drewN m) fun e w' => e = .returned (.bool bb) ∧ Below wr.heap.size wr w' := by
          refine ⟨@decide ((p1, n1) ∈ T) (Classical.propDecidable _), @decide_eq_true_iff _ (Classical.propDecidable _), fun m => ?_⟩
          refine Calls.mono (has_is _ T p1 n1 (wr.drewN m) _ (jo.drewN m)) ?_
          rintro e w' ⟨rfl, hb⟩
          exact ⟨by congr, ⟨hb.os, hb.tape, hb.output, hb.size, hb.block⟩⟩
        have HCS := hd hcs
        have HIN : Hid (¬ (p1 ≤ i ∧ i < p1 + n1) → bb = true) := fun h => hbb.2 (H1.out _ (List.mem_of_getElem? hx2) h)
        clear hxm hne2 e2 hx2 jr jo hbr hcs hbb
        by_cases hlo : p1 ≤ i
        · by_cases hhi : i < p1 + n1
          · have q1 : decide ((p1 : Int) ≤ (i : Int)) = true := by rw [decide_eq_true_iff]; omega
            have q2 : decide ((i : Int) < (p1 : Int) + (n1 : Int)) = true := by rw [decide_eq_true_iff]; omega
            clear HIN
            go_wp2_with fail
            go_quiet (fail)
            go_wp2_with fail
            refine Calls.mono (HCS.out _) ?_
            rintro e w9 ⟨rfl, b9⟩
            have HB9 := hd b9
            clear b9 HCS
            go_wp2_with fail
            go_roundw
            case rel => first | exact ⟨k + 1, by omega, by go_num, HBR.out.trans (HB9.out.mono hsr)⟩ | ((repeat apply Exists.intro); exact ⟨⟨k + 1, by omega, by go_num, HBR.out.trans (HB9.out.mono hsr)⟩, rfl⟩)
            case measure => simp [intOf]; omega
          · have hb1 := HIN.out (by omega)
            subst hb1
            have q1 : decide ((p1 : Int) ≤ (i : Int)) = true := by rw [decide_eq_true_iff]; omega
            have q2 : decide ((i : Int) < (p1 : Int) + (n1 : Int)) = false := by rw [decide_eq_false_iff_not]; omega
            clear HIN
            go_wp2_with fail
            go_quiet (fail)
            go_wp2_with fail
            refine Calls.mono (HCS.out _) ?_
            rintro e w9 ⟨rfl, b9⟩
            have HB9 := hd b9
            clear b9 HCS
            go_wp2_with fail
            go_roundw
            case rel => first | exact ⟨k + 1, by omega, by go_num, HBR.out.trans (HB9.out.mono hsr)⟩ | ((repeat apply Exists.intro); exact ⟨⟨k + 1, by omega, by go_num, HBR.out.trans (HB9.out.mono hsr)⟩, rfl⟩)
            case measure => simp [intOf]; omega
        · have hb1 := HIN.out (by omega)
          subst hb1
          have q1 : decide ((p1 : Int) ≤ (i : Int)) = false := by rw [decide_eq_false_iff_not]; omega
          clear HIN
          go_wp2_with fail
          go_quiet (fail)
          go_wp2_with fail
          refine Calls.mono (HCS.out _) ?_
          rintro e w9 ⟨rfl, b9⟩
          have HB9 := hd b9
          clear b9 HCS
          go_wp2_with fail
          go_roundw
          case rel => first | exact ⟨k + 1, by omega, by go_num, HBR.out.trans (HB9.out.mono hsr)⟩ | ((repeat apply Exists.intro); exact ⟨⟨k + 1, by omega, by go_num, HBR.out.trans (HB9.out.mono hsr)⟩, rfl⟩)
          case measure => simp [intOf]; omega
      · obtain rfl : k = S.length := by omega
        have JS6 := hd (JS.out.keepAll hbr)
        have JT6 := hd (JT.out.keepAll hbr)
        have B6 := hd (B5.out.trans (hbr.mono B5.out.size))
        clear JS JT B5 HBR hbr hsr
        obtain ⟨w6, hw6⟩ : ∃ w6, w6 = wr := ⟨_, rfl⟩
        rw [← hw6] at JS6 JT6 B6 ⊢
        clear hw6
        go_wp2_with fail
        go_loopw [15] (fun p wr => ∃ k : Nat, k ≤ T.length ∧ p = .int .i64 (k : Int) ∧ Below w6.heap.size w6 wr) (fun p _ => T.length - (intOf p).toNat)
        case atStart => exact ⟨0, by omega, rfl, Below.refl _ _⟩
        case round =>
          obtain ⟨k, hk, rfl, hbr⟩ := hrel
          have HBR := hd hbr
          have hsr := hbr.size
          by_cases hlt : k < T.length
          · obtain ⟨⟨p1, n1⟩, hx2⟩ : ∃ x, T[k]? = some x := ⟨T[k], List.getElem?_eq_getElem hlt⟩
            have hxb := HTB.out _ (List.mem_of_getElem? hx2)
            simp only at hxb
            have hxm : (T.map spv)[k]? = some [.int .i64 (p1 : Int), .int .i64 (n1 : Int)] := by rw [List.getElem?_map, hx2]; rfl
            have hne2 : T.map spv ≠ [] := by intro e; rw [e] at hxm; simp at hxm
            have jr := JT6.out.keepAll hbr
            have jo := JS6.out.keepAll hbr
            obtain ⟨g, c1', hv, hgc, hgm⟩ := jr.nn hne2
            injection hv with e1 e2 e3
            subst e1 e3
            have r0 : wr.cell? ⟨g, k * 2, none⟩ = some (.int .i64 (p1 : Int)) := jr.at k _ 0 _ hxm rfl
            have r1 : wr.cell? ⟨g, k * 2 + 1, none⟩ = some (.int .i64 (n1 : Int)) := jr.at k _ 1 _ hxm rfl
            obtain ⟨bb, hbb, hcs⟩ : ∃ bb : Bool, (bb = true ↔ (p1, n1) ∈ S) ∧ ∀ m : Nat, Calls Try.prog 36 #[.slice a4 S.length c4, .agg #[.int .i64 (p1 : Int), .int .i64 (n1 : Int)]] (wr.drewN m) fun e w' => e = .returned (.bool bb) ∧ Below wr.heap.size wr w' := by
              refine ⟨@decide ((p1, n1) ∈ S) (Classical.propDecidable _), @decide_eq_true_iff _ (Classical.propDecidable _), fun m => ?_⟩
              refine Calls.mono (has_is _ S p1 n1 (wr.drewN m) _ (jo.drewN m)) ?_
              rintro e w' ⟨rfl, hb⟩
              exact ⟨by congr, ⟨hb.os, hb.tape, hb.output, hb.size, hb.block⟩⟩
            have HCS := hd hcs
            have HIN : Hid (¬ (p1 ≤ i ∧ i < p1 + n1) → bb = true) := fun h => hbb.2 (H2.out _ (List.mem_of_getElem? hx2) h)
            clear hxm hne2 e2 hx2 jr jo hbr hcs hbb
            by_cases hlo : p1 ≤ i
            · by_cases hhi : i < p1 + n1
              · have q1 : decide ((p1 : Int) ≤ (i : Int)) = true := by rw [decide_eq_true_iff]; omega
                have q2 : decide ((i : Int) < (p1 : Int) + (n1 : Int)) = true := by rw [decide_eq_true_iff]; omega
                clear HIN
                go_wp2_with fail
                go_quiet (fail)
                go_wp2_with fail
                refine Calls.mono (HCS.out _) ?_
                rintro e w9 ⟨rfl, b9⟩
                have HB9 := hd b9
                clear b9 HCS
                go_wp2_with fail
                go_roundw
                case rel => first | exact ⟨k + 1, by omega, by go_num, HBR.out.trans (HB9.out.mono hsr)⟩ | ((repeat apply Exists.intro); exact ⟨⟨k + 1, by omega, by go_num, HBR.out.trans (HB9.out.mono hsr)⟩, rfl⟩)
                case measure => simp [intOf]; omega
              · have hb1 := HIN.out (by omega)
                subst hb1
                have q1 : decide ((p1 : Int) ≤ (i : Int)) = true := by rw [decide_eq_true_iff]; omega
                have q2 : decide ((i : Int) < (p1 : Int) + (n1 : Int)) = false := by rw [decide_eq_false_iff_not]; omega
                clear HIN
                go_wp2_with fail
                go_quiet (fail)
                go_wp2_with fail
                refine Calls.mono (HCS.out _) ?_
                rintro e w9 ⟨rfl, b9⟩
                have HB9 := hd b9
                clear b9 HCS
                go_wp2_with fail
                go_roundw
                case rel => first | exact ⟨k + 1, by omega, by go_num, HBR.out.trans (HB9.out.mono hsr)⟩ | ((repeat apply Exists.intro); exact ⟨⟨k + 1, by omega, by go_num, HBR.out.trans (HB9.out.mono hsr)⟩, rfl⟩)
                case measure => simp [intOf]; omega
            · have hb1 := HIN.out (by omega)
              subst hb1
              have q1 : decide ((p1 : Int) ≤ (i : Int)) = false := by rw [decide_eq_false_iff_not]; omega
              clear HIN
              go_wp2_with fail
              go_quiet (fail)
              go_wp2_with fail
              refine Calls.mono (HCS.out _) ?_
              rintro e w9 ⟨rfl, b9⟩
              have HB9 := hd b9
              clear b9 HCS
              go_wp2_with fail
              go_roundw
              case rel => first | exact ⟨k + 1, by omega, by go_num, HBR.out.trans (HB9.out.mono hsr)⟩ | ((repeat apply Exists.intro); exact ⟨⟨k + 1, by omega, by go_num, HBR.out.trans (HB9.out.mono hsr)⟩, rfl⟩)
              case measure => simp [intOf]; omega
          · obtain rfl : k = T.length := by omega
            have B7 := hd (B6.out.trans (hbr.mono B6.out.size))
            clear hbr HBR
            go_wp2_with fail
            go_ret
            exact ⟨rfl, B7.out⟩
end Vt
namespace Shu
open Vt
theorem walk (a0 : Option Addr) (len0 cap0 : Nat) (z0 : List Int) (a1 a2 : Int) (w : World) (w0 : IsRow .u8 w a0 len0 cap0 z0) (w1 : (Lit.int .i64 a1).wf = true) (w2 : (Lit.int .u8 a2).wf = true) (hm : len0 ≤ 1048576) :
    Calls Try.prog 9 #[.slice a0 len0 cap0, .int .i64 a1, .int .u8 a2] w fun e w' => e = .returned (.bool true) ∧ Below w.heap.size w w' := by
  obtain ⟨l, hl, hI⟩ := w0.isB
  subst hl
  by_cases hl0 : l = []
  · subst hl0
    exact shurt_nil a0 cap0 a1 a2 w
  · have hb := wf_u8 w2
    obtain ⟨y, rfl⟩ : ∃ y : Nat, a2 = (y : Int) := ⟨a2.toNat, by omega⟩
    exact shurt_row _ l a1 y w hI hm hl0 w1 (by omega)
/-- numbers weigh one each -/
theorem lits_bulk {H : Type} (k : IntKind) (zs : List Int) : zs.length ≤ Rows.uptoBulkAll (lits (H := H) k zs) := by
  induction zs with
  | nil => exact Nat.zero_le _
  | cons z r ih =>
    rw [show lits (H := H) k (z :: r) = .lit (.int k z) :: lits k r from rfl]
    simp only [Rows.uptoBulkAll, Rows.uptoBulk, List.length_cons]
    omega
set_option linter.unusedVariables false
set_option maxRecDepth 100000 in
theorem lifted (os : Os) (started : os.Started) (H : Type) (enc : TypeId × Value → H) (F : Stop.Interp) :
    ReturnsInHanded {} Try.checked os 9 .any ((Rows.OpenSpec.upto Rows.scanHurtSpec).pre6 enc Try.prog Try.f9 Rows.scanHurtUptoRow.domain false) (((Rows.OpenSpec.upto Rows.scanHurtSpec).at F).post enc Try.prog Try.f9 false true false false) := by
  refine returnsInHanded_of_cond (C := Try.checked) (s := Rows.OpenSpec.upto Rows.scanHurtSpec) (k := Rows.uptoSmall) rfl own started (by kernel_rfl) Try.func9
    (OpenSpec.witness (enc := enc) (C := Try.checked) (s := Rows.OpenSpec.upto Rows.scanHurtSpec) (k := Rows.uptoSmall) rfl false ⟨#[], #[.slice none 0 0, .int .i64 0, .int .u8 0], []⟩ 8 (by kernel_rfl) (by kernel_rfl) (by kernel_rfl)
      (x := ([.nil, .lit (.int .i64 0), .lit (.int .u8 0)], [], [])) (by kernel_rfl) rfl (by kernel_rfl)) ?_
  intro W base args ds gs before hval0 hW _ hk0 _
  have hk : Rows.uptoBulkAll (ds ++ gs) ≤ 1048576 := of_decide_eq_true hk0
  clear hk0
  have hval : ∀ (j : Nat) t v, Try.f9.params[j]? = some t → args[j]? = some v → Value.okWide Try.prog W .any base t v := hval0
  have hW' := hW
  obtain ⟨p, q, hA0, hV, rfl, hfz, hnd⟩ := hW
  have hA : DataW.TrodAll enc Try.prog W 0 (fun _ => true) true Try.f9.params.toList args.toList ds p := hA0
  rw [Try.params9] at hA hval
  obtain ⟨v0, vs0, d0, ds0, p0, q0, hargs, rfl, rfl, h0, r0⟩ := trodAll_cons hA
  obtain ⟨v1, vs1, d1, ds1, p1, q1, rfl, rfl, rfl, h1, r1⟩ := trodAll_cons r0
  obtain ⟨v2, vs2, d2, ds2, p2, q2, rfl, rfl, rfl, h2, r2⟩ := trodAll_cons r1
  obtain ⟨rfl, rfl, rfl⟩ := trodAll_nil r2
  obtain rfl : args = #[v0, v1, v2] := by cases args; simp_all
  obtain ⟨rfl, rfl⟩ := trodVars_none hV
  have opens_u8 : ∀ (v : Value) (d : DataW H) (pl : List MemPlace) (a : Option Addr) (len cap : Nat), v = .slice a len cap → DataW.Trod enc Try.prog W 0 (fun _ => true) true 22 v d pl → ∃ zs, IsRow .u8 W a len cap zs ∧ len ≤ Rows.uptoBulk d := by
    rintro v d pl a len cap rfl ⟨fuel, hf⟩
    rcases open_ints Try.underlying22 Try.underlying5 (by kernel_rfl) hf with ⟨hcs, _⟩ | ⟨x, l, c, zs, hcs, _, hl, hm, hz, hx, hcell, hwz⟩
    · simp [Value.cells] at hcs
      obtain ⟨rfl, rfl, rfl⟩ := hcs
      exact ⟨[], .inl ⟨rfl, rfl, rfl, rfl⟩, by omega⟩
    · simp [Value.cells] at hcs
      obtain ⟨rfl, rfl, rfl⟩ := hcs
      have hz2 : zs.length = cap := by simpa using hz
      simp only [Prod.mk.injEq] at hx
      refine ⟨zs, .inr ⟨_, rfl, hl, hm, hz2, hcell, hwz⟩, ?_⟩
      rw [hx.1]
      have h1 := lits_bulk (H := H) .u8 (zs.take len)
      rw [List.length_take] at h1
      simp only [Rows.uptoBulk]
      omega
  obtain ⟨a0, len0, cap0, rfl⟩ := okWide_slice Try.underlying22 (hval 0 22 v0 rfl rfl)
  have k0 := h0
  have lt0 : ∀ x ∈ p0, x.block < W.heap.size := by obtain ⟨m, hm⟩ := k0; exact DataW.trod_lt m _ _ _ hm
  obtain ⟨z0, w0, b0⟩ := opens_u8 _ d0 p0 a0 len0 cap0 rfl h0
  have hm : len0 ≤ 1048576 := by
    simp only [List.cons_append, Rows.uptoBulkAll] at hk
    omega
  obtain ⟨a1, rfl, rfl, rfl, w1⟩ := open_int Try.underlying3 (hval 1 3 v1 rfl rfl) h1
  obtain ⟨a2, rfl, rfl, rfl, w2⟩ := open_int Try.underlying5 (hval 2 5 v2 rfl rfl) h2
  clear hA0 hval0
  refine (walk a0 len0 cap0 z0 a1 a2 W w0 w1 w2 hm).mono fun e W' ⟨he, bel⟩ => ?_
  subst he
  exact ⟨_, rfl, _, _, _, [], _, [], hW', trodAll_mk1 (shut_bool Try.underlying4 _), (trodAll_cons_mk (Below.trod laidOut (by kernel_rfl) (of_decide_eq_true (by kernel_rfl)) k0 bel lt0) (trodAll_cons_mk (shut_int Try.underlying3 w1) (trodAll_cons_mk (shut_int Try.underlying5 w2) trodAll_mk0))), rfl, bel.frame _, fun h => by cases h⟩
theorem over : Rows.ScanHurtUptoSaid :=
  OpenClaim.holds_of_cond 9 Try.f9 rfl rfl rfl rfl rfl rfl rfl ⟨rfl, rfl, rfl, rfl, rfl⟩ rfl rfl rfl rfl rfl (by kernel_rfl) Try.func9 (by kernel_rfl)
    (of_decide_eq_true (by kernel_rfl)) (by unfold Func.isWrapper; first | (rw [if_pos (by decide +kernel)]; kernel_rfl) | (rw [if_neg (by decide +kernel)]; exact ⟨rfl, rfl⟩))
    (fun os started H enc _ F => lifted os started H enc F)
end Shu

theorem scanHurt_upto : Rows.ScanHurtUptoSaid := Shu.over
#print axioms scanHurt_upto
end Go.Proofs.Ytbcibgjphjlffaa
