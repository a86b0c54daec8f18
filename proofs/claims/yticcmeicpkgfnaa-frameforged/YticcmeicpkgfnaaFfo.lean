/-
  PROVED: for every body the Go law FrameForged answers true and changes nothing that came in: any body, framed by hand, is read if it is one. No condition.
-/
import Derived.Test.YticcmeicpkgfnaaM2
namespace Go.Proofs.Yticcmeicpkgfnaa
open Go.ChangeShapes Go.WideShapes Go.ChangeAt Go.RowKit
namespace Ffo
open Vt
set_option maxRecDepth 100000 in
set_option maxHeartbeats 1000000 in
theorem walk_long (a : Option Addr) (n c : Nat) (w : World) (h : 16000 < n) :
    Calls Try.prog 8 #[.slice a n c] w fun e w' => e = .returned (.bool true) ∧ Below w.heap.size w w' := by
  go_enter Try.func8, Try.ntmps8
  go_wp2_with fail
  refine Calls.mono (known_is w) ?_
  rintro e w1 ⟨rfl, hb⟩
  have HB1 := hd hb
  clear hb
  go_wp2_with fail
  go_ret
  exact ⟨rfl, HB1.out⟩
set_option maxRecDepth 100000 in
set_option maxHeartbeats 2000000 in
theorem walk_row (b off c : Nat) (l : List Nat) (w : World) (hI : Vt.IsB w (.slice (some ⟨b, off, none⟩) l.length c) l) (h : l.length ≤ 16000) :
    Calls Try.prog 8 #[.slice (some ⟨b, off, none⟩) l.length c] w fun e w' => e = .returned (.bool true) ∧ Below w.heap.size w w' := by
  have hwl := wr_len l
  have HI := hd hI
  clear hI
  go_enter Try.func8, Try.ntmps8
  go_wp2_with fail
  refine Calls.mono (known_is w) ?_
  rintro e w1 ⟨rfl, hb⟩
  have HB1 := hd hb
  have HI1 := hd (HI.out.below hb)
  clear hb HI
  go_wp2_with fail
  go_loop [4, 5] (fun s i => ∃ k n : Nat, k ≤ l.length ∧ i = .int .i64 (k : Int) ∧ s = .int .i64 (n : Int) ∧ n + k = (wr (l.take k)).length) (fun _ i => l.length - (intOf i).toNat)
  case atStart => exact ⟨0, 0, by omega, rfl, rfl, by simp [wr]⟩
  case round =>
    obtain ⟨k, n, hk, rfl, rfl, hn⟩ := hrel
    by_cases hlt : k < l.length
    · have hc := HI1.out.row k hlt
      have hx := getD_lt HI1.out.1 k
      have hs := congrArg List.length (wr_succ hlt)
      rw [List.length_append] at hs
      have hw := (wr_len (l.take k)).2
      rw [List.length_take, show min k l.length = k by omega] at hw
      generalize l.getD k 0 = x at *
      have HS : Hid (x = 167 → n + 1 + (k + 1) = (wr (l.take (k + 1))).length) := by
        show x = 167 → _
        intro h; subst h; rw [hs, e1_lead]; simp; omega
      have HS2 : Hid (x = 166 → n + 1 + (k + 1) = (wr (l.take (k + 1))).length) := by
        show x = 166 → _
        intro h; subst h; rw [hs, e1_esc]; simp; omega
      have HS3 : Hid (x ≠ 167 → x ≠ 166 → n + (k + 1) = (wr (l.take (k + 1))).length) := by
        show x ≠ 167 → x ≠ 166 → _
        intro h h2; rw [hs, e1_any h h2]; simp; omega
      have hn2 : n ≤ 20000 := by omega
      clear hs hw hn
      by_cases c1 : x = 167
      · have HZ := hd (HS.out c1)
        subst c1
        clear HS HS2 HS3
        go_wp2_with fail
        go_round
        case rel => exact ⟨k + 1, n + 1, by omega, by go_num, by go_num, HZ.out⟩
        case measure => simp [intOf]; omega
      · by_cases c2 : x = 166
        · have HZ := hd (HS2.out c2)
          subst c2
          clear HS HS2 HS3
          go_wp2_with fail
          go_round
          case rel => exact ⟨k + 1, n + 1, by omega, by go_num, by go_num, HZ.out⟩
          case measure => simp [intOf]; omega
        · have HZ := hd (HS3.out c1 c2)
          have q1 : ((x : Int) == 167) = false := by simp; omega
          have q2 : ((x : Int) == 166) = false := by simp; omega
          clear HS HS2 HS3
          go_wp2_with fail
          go_round
          case rel => exact ⟨k + 1, n, by omega, by go_num, by go_num, HZ.out⟩
          case measure => simp [intOf]; omega
    · obtain rfl : k = l.length := by omega
      rw [List.take_length] at hn
      obtain ⟨N, hN⟩ : ∃ N, N = (wr l).length := ⟨_, rfl⟩
      rw [← hN] at hn hwl
      have HN := hd hN
      have hN2 : (n : Int) + (l.length : Int) = (N : Int) := by omega
      have hNl : N ≤ 32000 := by omega
      have HNN := hd hn
      clear hN hn
      go_wp2_with fail
      have HJ0 : Hid (JB (w1.alloc (.cells #[.int .u8 ((N : Int) / 16384), .int .u8 ((N : Int) / 128 % 128), .int .u8 ((N : Int) % 128)] 5)) w1.heap.size (.slice (some ⟨w1.heap.size, 0, none⟩) 3 3) (dg 3 N)) := jb_lit w1 w1.heap.size (dg 3 N) _ 3 _ rfl (by rw [dg3_eq N (by omega)]; rfl) (by rw [dg_len]) (dg_byt _ _) (by rw [dg_len]; simp [maxLen]) (Nat.le_refl _)
      have HB0 : Hid (Below w1.heap.size w1 (w1.alloc (.cells #[.int .u8 ((N : Int) / 16384), .int .u8 ((N : Int) / 128 % 128), .int .u8 ((N : Int) % 128)] 5))) := (Below.refl _ _).alloc (Nat.le_refl _) _
      go_loopw [6, 7] (fun v i W => ∃ j : Nat, j ≤ l.length ∧ i = .int .i64 (j : Int) ∧ JB W w1.heap.size v (dg 3 N ++ Vt.wr (l.take j)) ∧ Below w1.heap.size w1 W) (fun _ i _ => l.length - (intOf i).toNat)
      case atStart => exact ⟨0, by omega, rfl, by simpa [Vt.wr] using HJ0.out, HB0.out⟩
      case round =>
        clear HJ0 HB0
        obtain ⟨j, hj, rfl, hJ, hB⟩ := hrel
        have HJ := hd hJ
        have HBB := hd hB
        have hsz := hB.size
        clear hJ hB
        by_cases hlt : j < l.length
        · have hc : wr.cell? ⟨b, off + j, none⟩ = some (.int .u8 ((l.getD j 0 : Nat) : Int)) := by
            have hr := HI1.out.row j hlt
            rw [HBB.out.cell (p := ⟨b, off + j, none⟩) (lt_of_cell hr)]; exact hr
          have hx := getD_lt HI1.out.1 j
          have hbl : b < wr.heap.size := lt_of_cell hc
          have n1 : ¬ b = wr.heap.size := by omega
          have n2 : ¬ wr.heap.size = b := by omega
          have HE0 := wr_succ hlt
          have hacc : (dg 3 N ++ Vt.wr (l.take j)).length ≤ 40000 := by
            have := (wr_len (l.take j)).2
            rw [List.length_take, show min j l.length = j by omega] at this
            rw [List.length_append, dg_len]; omega
          have HE : Hid (dg 3 N ++ Vt.wr (l.take (j + 1)) = (dg 3 N ++ Vt.wr (l.take j)) ++ e1 (l.getD j 0)) := by
            show dg 3 N ++ Vt.wr (l.take (j + 1)) = _
            rw [HE0, List.append_assoc]
          clear HE0
          generalize l.getD j 0 = x at *
          obtain ⟨acc, hac⟩ : ∃ acc, acc = dg 3 N ++ Vt.wr (l.take j) := ⟨_, rfl⟩
          rw [← hac] at HJ hacc HE
          clear hac
          by_cases c1 : x = 167
          · subst c1
            rw [e1_lead] at HE
            go_wp2_with (at_builtin; refine wpList_append_jb _ rfl _ _ rfl w1.heap.size _ _ _ [166, 1] rfl rfl (HJ.out.alloc _) (lit_isK .u8 256 _ #[.int .u8 166, .int .u8 1] 5 [166, 1] 2 rfl rfl (by simp) (by simp [maxLen])) (acc.length + 2) rfl _ rfl (by omega) (by rw [World.size_alloc]; omega) ?_; intro a2 cap2 w2 hJ2 hg2 hc2)
            have HJ2 := hd hJ2
            have HB2 := hd ((HJ.out.alloc _).grown (HBB.out.alloc hsz _) (Nat.le_refl _) (by rw [World.size_alloc]; omega) hg2)
            rw [← HE.out] at HJ2
            clear hJ2 hg2
            go_roundw
            case rel => exact ⟨j + 1, by omega, by go_num, HJ2.out, HB2.out⟩
            case measure => simp [intOf]; omega
          · by_cases c2 : x = 166
            · subst c2
              rw [e1_esc] at HE
              go_wp2_with (at_builtin; refine wpList_append_jb _ rfl _ _ rfl w1.heap.size _ _ _ [166, 0] rfl rfl (HJ.out.alloc _) (lit_isK .u8 256 _ #[.int .u8 166, .int .u8 0] 5 [166, 0] 2 rfl rfl (by simp) (by simp [maxLen])) (acc.length + 2) rfl _ rfl (by omega) (by rw [World.size_alloc]; omega) ?_; intro a2 cap2 w2 hJ2 hg2 hc2)
              have HJ2 := hd hJ2
              have HB2 := hd ((HJ.out.alloc _).grown (HBB.out.alloc hsz _) (Nat.le_refl _) (by rw [World.size_alloc]; omega) hg2)
              rw [← HE.out] at HJ2
              clear hJ2 hg2
              go_roundw
              case rel => exact ⟨j + 1, by omega, by go_num, HJ2.out, HB2.out⟩
              case measure => simp [intOf]; omega
            · rw [e1_any c1 c2] at HE
              have q1 : ((x : Int) == 167) = false := by simp; omega
              have q2 : ((x : Int) == 166) = false := by simp; omega
              go_wp2_with (at_builtin; refine wpList_append_jb _ rfl _ _ rfl w1.heap.size _ _ _ [x] rfl rfl (HJ.out.alloc _) (lit_isK .u8 256 _ #[.int .u8 (x : Int)] 5 [x] 1 rfl rfl (by intro y hy; simp at hy; omega) (by simp [maxLen])) (acc.length + 1) rfl _ rfl (by omega) (by rw [World.size_alloc]; omega) ?_; intro a2 cap2 w2 hJ2 hg2 hc2)
              have HJ2 := hd hJ2
              have HB2 := hd ((HJ.out.alloc _).grown (HBB.out.alloc hsz _) (Nat.le_refl _) (by rw [World.size_alloc]; omega) hg2)
              rw [← HE.out] at HJ2
              clear hJ2 hg2
              go_roundw
              case rel => exact ⟨j + 1, by omega, by go_num, HJ2.out, HB2.out⟩
              case measure => simp [intOf]; omega
        · obtain rfl : j = l.length := by omega
          rw [List.take_length] at HJ
          obtain ⟨va, vc, rfl, hvc⟩ := HJ.out.shape
          have hil : (dg 3 N ++ Vt.wr l).length = N + 3 := by rw [List.length_append, dg_len, ← HN.out]; omega
          rw [hil] at HJ hvc ⊢
          have HS1 := hd (sum_one wr wr.heap.size rfl _ _ HJ.out.isB)
          have hS := Crc.go_lt 0 (dg 3 N ++ Vt.wr l)
          obtain ⟨S, hSe⟩ : ∃ S, S = Crc.go 0 (dg 3 N ++ Vt.wr l) := ⟨_, rfl⟩
          rw [← hSe] at HS1 hS
          have HSE := hd hSe
          have HIL := hd hil
          clear hSe hil
          go_wp2_with fail
          refine Calls.mono HS1.out ?_
          rintro e w2 ⟨rfl, hb⟩
          have HB2 : Hid (Below w1.heap.size w1 w2) := HBB.out.trans (hb.mono hsz)
          have HJ2 := hd (HJ.out.keepAll hb)
          have hs2 := HB2.out.size
          clear hb HS1 HJ HBB
          have HL0 : Hid (JB (w2.alloc (.cells #[.int .u8 167] 5)) w1.heap.size (.slice (some ⟨w2.heap.size, 0, none⟩) 1 1) [167]) := jb_lit w2 w1.heap.size [167] _ 1 _ rfl rfl rfl (by intro x hx; simp at hx; omega) (by simp [maxLen]) hs2
          have HI2 := hd ((HJ2.out.alloc (.cells #[.int .u8 167] 5)).isB)
          have HB2a := hd (HB2.out.alloc hs2 (.cells #[.int .u8 167] 5))
          have HL5 : Hid (∀ X : World, Vt.IsB (X.alloc (.cells #[.int .u8 ((S : Int) / 268435456), .int .u8 ((S : Int) / 2097152 % 128), .int .u8 ((S : Int) / 16384 % 128), .int .u8 ((S : Int) / 128 % 128), .int .u8 ((S : Int) % 128)] 5)) (.slice (some ⟨X.heap.size, 0, none⟩) 5 5) (dg 5 S)) := fun X => lit_isK .u8 256 X _ 5 (dg 5 S) 5 (by rw [dg_len]) (by rw [dg5_eq S hS]; rfl) (dg_byt _ _) (by rw [dg_len]; simp [maxLen])
          go_wp2_with (first
            | (at_builtin; refine wpList_append_jb _ rfl _ _ rfl w1.heap.size _ _ [167] _ rfl rfl HL0.out HI2.out (N + 4) (by rw [HIL.out]; simp; omega) _ rfl (by omega) (by rw [World.size_alloc]; omega) ?_; intro a3 c3 w3 hJ3 hg3 hc3; have HJ3 := hd hJ3; have HB3 := hd (HL0.out.grown HB2a.out (Nat.le_refl _) HB2a.out.size hg3); clear hJ3 hg3; have hs3 := HB3.out.size)
            | (at_builtin; refine wpList_append_jb _ rfl _ _ rfl w1.heap.size _ _ _ (dg 5 S) rfl rfl (HJ3.out.alloc _) (HL5.out _) (N + 9) (by rw [List.length_append, HIL.out, dg_len]; simp; omega) _ rfl (by omega) (by rw [World.size_alloc]; omega) ?_; intro a4 c4 w4 hJ4 hg4 hc4; have HJ4 := hd hJ4; have HB4 := hd ((HJ3.out.alloc _).grown (HB3.out.alloc hs3 _) (Nat.le_refl _) (by rw [World.size_alloc]; omega) hg4); clear hJ4 hg4))
          have hdr := dcd_raw (Vt.wr l) S (wr_no l) (by rw [← HN.out]; omega) (by rw [← HN.out]; exact HSE.out.symm)
          rw [← HN.out] at hdr
          have hel : [167] ++ (dg 3 N ++ Vt.wr l) ++ dg 5 S = 167 :: (dg 3 N ++ (Vt.wr l ++ dg 5 S)) := by simp
          rw [← hel] at hdr
          clear hel
          have HDD := hd (decode_all _ _ 0 w4 HJ4.out.isB)
          have HB4w : Hid (Below w.heap.size w w4) := HB1.out.trans (HB4.out.mono HB1.out.size)
          have HIb4 := hd (HI1.out.below HB4.out)
          have hbl := HI1.out.1
          cases ho : opF (Vt.wr l) with
          | none =>
            rw [ho] at hdr
            simp only at hdr
            rw [hdr, dval_zf] at HDD
            clear hdr ho HL5 HL0 HI2 HB2a HJ2 HJ3 HB3
            refine Calls.mono HDD.out ?_
            rintro e w5 ⟨rfl, hb⟩
            have HB5 : Hid (Below w.heap.size w w5) := HB4w.out.trans (hb.mono HB4w.out.size)
            clear hb HDD
            go_wp2_with fail
            go_ret
            exact ⟨rfl, HB5.out.alloc HB5.out.size _⟩
          | some f =>
            obtain ⟨g1, g2, g3⟩ := opF_wr hbl ho
            rw [ho] at hdr
            simp only at hdr
            rw [hdr] at HDD
            have HBO := hd (bodyOk g2 g1)
            unfold BodyOk at HBO
            rw [g3] at HBO
            obtain ⟨k, ⟨rl, rk, rkey, rval⟩, ⟨pl, pk, pa, pn, pkey⟩, ⟨ec, eb, ef, es⟩⟩ := f
            simp only [dval, fv] at HDD HBO
            clear hdr ho HL5 HL0 HI2 HB2a HJ2 HJ3 HB3 g1 g2 g3 hbl
            refine Calls.mono HDD.out ?_
            rintro e w5 ⟨rfl, hb⟩
            have HB5 : Hid (Below w.heap.size w w5) := HB4w.out.trans (hb.mono HB4w.out.size)
            have HIb5 := hd (HIb4.out.below hb)
            clear hb HDD HIb4
            go_wp2_with fail
            refine Calls.mono (HBO.out _) ?_
            rintro e w6 ⟨u, rfl, hj, hb⟩
            have HB6 : Hid (Below w.heap.size w w6) := HB5.out.trans ((below_alloc1 hb).mono HB5.out.size)
            have HIb6 := hd (HIb5.out.below (below_alloc1 hb))
            have HU6 := hd hj.isB
            clear hb hj HIb5 HBO HB5
            go_wp2_with fail
            refine Calls.mono (fsame_is _ _ _ _ _ HU6.out HIb6.out) ?_
            rw [decide_eq_true rfl]
            rintro e w7 ⟨rfl, m, hw7⟩
            have HB7 : Hid (Below w.heap.size w w7) := by rw [hw7]; exact below_drewN HB6.out m
            clear hw7
            go_wp2_with fail
            go_ret
            exact ⟨rfl, HB7.out⟩
set_option maxRecDepth 100000 in
set_option maxHeartbeats 2000000 in
theorem walk_nil (a : Option Addr) (c : Nat) (w : World) :
    Calls Try.prog 8 #[.slice a 0 c] w fun e w' => e = .returned (.bool true) ∧ Below w.heap.size w w' := by
  go_enter Try.func8, Try.ntmps8
  go_wp2_with fail
  refine Calls.mono (known_is w) ?_
  rintro e w1 ⟨rfl, hb⟩
  have HB1 := hd hb
  clear hb
  go_wp2_with fail
  go_loop [4, 5] (fun s i => i = .int .i64 0 ∧ s = .int .i64 0) (fun _ _ => 0)
  case atStart => exact ⟨rfl, rfl⟩
  case round =>
    obtain ⟨rfl, rfl⟩ := hrel
    go_wp2_with fail
    have HJ0 : Hid (JB (w1.alloc (.cells #[.int .u8 0, .int .u8 0, .int .u8 0] 5)) w1.heap.size (.slice (some ⟨w1.heap.size, 0, none⟩) 3 3) [0, 0, 0]) := jb_lit w1 w1.heap.size [0, 0, 0] _ 3 _ rfl rfl rfl (by intro x hx; simp at hx; omega) (by simp [maxLen]) (Nat.le_refl _)
    have HB0 : Hid (Below w1.heap.size w1 (w1.alloc (.cells #[.int .u8 0, .int .u8 0, .int .u8 0] 5))) := (Below.refl _ _).alloc (Nat.le_refl _) _
    go_loopw [6, 7] (fun v i W => i = .int .i64 0 ∧ v = .slice (some ⟨w1.heap.size, 0, none⟩) 3 3 ∧ JB W w1.heap.size v [0, 0, 0] ∧ Below w1.heap.size w1 W) (fun _ _ _ => 0)
    case atStart => exact ⟨rfl, rfl, HJ0.out, HB0.out⟩
    case round =>
      clear HJ0 HB0
      obtain ⟨rfl, rfl, hJ, hB⟩ := hrel
      have HJ := hd hJ
      have HBB := hd hB
      have hsz := hB.size
      clear hJ hB
      have HS1 := hd (sum_one wr wr.heap.size rfl _ _ HJ.out.isB)
      have hS := Crc.go_lt 0 [0, 0, 0]
      obtain ⟨S, hSe⟩ : ∃ S, S = Crc.go 0 [0, 0, 0] := ⟨_, rfl⟩
      rw [← hSe] at HS1 hS
      have HSE := hd hSe
      clear hSe
      go_wp2_with fail
      refine Calls.mono HS1.out ?_
      rintro e w2 ⟨rfl, hb⟩
      have HB2 : Hid (Below w1.heap.size w1 w2) := HBB.out.trans (hb.mono hsz)
      have HJ2 := hd (HJ.out.keepAll hb)
      have hs2 := HB2.out.size
      clear hb HS1 HJ HBB
      have HL0 : Hid (JB (w2.alloc (.cells #[.int .u8 167] 5)) w1.heap.size (.slice (some ⟨w2.heap.size, 0, none⟩) 1 1) [167]) := jb_lit w2 w1.heap.size [167] _ 1 _ rfl rfl rfl (by intro x hx; simp at hx; omega) (by simp [maxLen]) hs2
      have HI2 := hd ((HJ2.out.alloc (.cells #[.int .u8 167] 5)).isB)
      have HB2a := hd (HB2.out.alloc hs2 (.cells #[.int .u8 167] 5))
      have HL5 : Hid (∀ X : World, Vt.IsB (X.alloc (.cells #[.int .u8 ((S : Int) / 268435456), .int .u8 ((S : Int) / 2097152 % 128), .int .u8 ((S : Int) / 16384 % 128), .int .u8 ((S : Int) / 128 % 128), .int .u8 ((S : Int) % 128)] 5)) (.slice (some ⟨X.heap.size, 0, none⟩) 5 5) (dg 5 S)) := fun X => lit_isK .u8 256 X _ 5 (dg 5 S) 5 (by rw [dg_len]) (by rw [dg5_eq S hS]; rfl) (dg_byt _ _) (by rw [dg_len]; simp [maxLen])
      go_wp2_with (first
        | (at_builtin; refine wpList_append_jb _ rfl _ _ rfl w1.heap.size _ _ [167] _ rfl rfl HL0.out HI2.out 4 rfl _ rfl (by omega) (by rw [World.size_alloc]; omega) ?_; intro a3 c3 w3 hJ3 hg3 hc3; have HJ3 := hd hJ3; have HB3 := hd (HL0.out.grown HB2a.out (Nat.le_refl _) HB2a.out.size hg3); clear hJ3 hg3; have hs3 := HB3.out.size)
        | (at_builtin; refine wpList_append_jb _ rfl _ _ rfl w1.heap.size _ _ _ (dg 5 S) rfl rfl (HJ3.out.alloc _) (HL5.out _) 9 (by rw [List.length_append, dg_len]; rfl) _ rfl (by omega) (by rw [World.size_alloc]; omega) ?_; intro a4 c4 w4 hJ4 hg4 hc4; have HJ4 := hd hJ4; have HB4 := hd ((HJ3.out.alloc _).grown (HB3.out.alloc hs3 _) (Nat.le_refl _) (by rw [World.size_alloc]; omega) hg4); clear hJ4 hg4))
      have HDE : Hid (decF ([167] ++ [0, 0, 0] ++ dg 5 S) 0 = (zf, 0, 45)) := by
        show decF ([167] ++ [0, 0, 0] ++ dg 5 S) 0 = _
        have h0 : opF ([] : List Nat) = none := by
          cases ho : opF ([] : List Nat) with
          | none => rfl
          | some f =>
            obtain ⟨g1, g2, g3⟩ := opF_wr (l := []) byt_nil ho
            have := (bd_len g2 g1).2
            rw [g3] at this
            simp at this
        have := dcd_raw [] S (by intro x hx; simp at hx) (by simp) HSE.out.symm
        rw [h0] at this
        exact this
      have HDD := hd (decode_all _ _ 0 w4 HJ4.out.isB)
      rw [HDE.out, dval_zf] at HDD
      have HB4w : Hid (Below w.heap.size w w4) := HB1.out.trans (HB4.out.mono HB1.out.size)
      clear HDE HL5 HL0 HI2 HB2a HJ2 HJ3 HB3
      refine Calls.mono HDD.out ?_
      rintro e w5 ⟨rfl, hb⟩
      have HB5 : Hid (Below w.heap.size w w5) := HB4w.out.trans (hb.mono HB4w.out.size)
      clear hb HDD
      go_wp2_with fail
      go_ret
      exact ⟨rfl, HB5.out.alloc HB5.out.size _⟩
theorem walk (a0 : Option Addr) (len0 cap0 : Nat) (z0 : List Int) (w : World) (w0 : IsRow .u8 w a0 len0 cap0 z0) :
    Calls Try.prog 8 #[.slice a0 len0 cap0] w fun e w' => e = .returned (.bool true) ∧ Below w.heap.size w w' := by
  obtain ⟨l, hl, hI⟩ := w0.isB
  by_cases hn : 16000 < len0
  · exact walk_long a0 len0 cap0 w hn
  · subst hl
    by_cases h0 : l = []
    · subst h0
      exact walk_nil a0 cap0 w
    · obtain ⟨_, _, ⟨q, _⟩ | ⟨b, off, c, e, _⟩⟩ := id hI
      · exact absurd q h0
      · injection e with i1 i2 i3
        subst i1 i3
        exact walk_row b off cap0 l w hI (by omega)
set_option linter.unusedVariables false
set_option maxRecDepth 100000 in
theorem lifted (os : Os) (started : os.Started) (H : Type) (enc : TypeId × Value → H) :
    ReturnsInHanded {} Try.checked os 8 .any (Rows.frameForgedSpec.pre6 enc Try.prog Try.f8 Rows.frameForgedRow.domain false) (Rows.frameForgedSpec.post enc Try.prog Try.f8 false true false false) := by
  refine returnsInHanded_of_change (C := Try.checked) own started (by kernel_rfl) Try.func8
    (ChangeSpec.witness6 (enc := enc) (C := Try.checked) false ⟨#[], #[.slice none 0 0], []⟩ 8 (by kernel_rfl) (by kernel_rfl) (by kernel_rfl) (by kernel_rfl)) ?_
  intro W base args ds gs before hval0 hW hcnd _
  have hval : ∀ (j : Nat) t v, Try.f8.params[j]? = some t → args[j]? = some v → Value.okWide Try.prog W .any base t v := hval0
  have hW' := hW
  obtain ⟨p, q, hA0, hV, rfl, hfz, hnd⟩ := hW
  have hA : DataW.TrodAll enc Try.prog W 0 (fun _ => true) true Try.f8.params.toList args.toList ds p := hA0
  rw [Try.params8] at hA hval
  obtain ⟨v0, vs0, d0, ds0, p0, q0, hargs, rfl, rfl, h0, r0⟩ := trodAll_cons hA
  obtain ⟨rfl, rfl, rfl⟩ := trodAll_nil r0
  obtain rfl : args = #[v0] := by cases args; simp_all
  obtain ⟨rfl, rfl⟩ := trodVars_none hV
  obtain ⟨a0, len0, cap0, rfl⟩ := okWide_slice Try.underlying35 (hval 0 35 v0 rfl rfl)
  have k0 := h0
  have lt0 : ∀ x ∈ p0, x.block < W.heap.size := by obtain ⟨m, hm⟩ := k0; exact DataW.trod_lt m _ _ _ hm
  obtain ⟨z0, w0⟩ : ∃ zs, IsRow .u8 W a0 len0 cap0 zs := by
    obtain ⟨fuel, hf⟩ := h0
    rcases open_ints Try.underlying35 Try.underlying5 (by kernel_rfl) hf with ⟨hcs, _⟩ | ⟨x, l, c, zs, hcs, _, hl, hm, hz, _, hcell, hwz⟩
    · simp [Value.cells] at hcs
      obtain ⟨rfl, rfl, rfl⟩ := hcs
      exact ⟨[], .inl ⟨rfl, rfl, rfl, rfl⟩⟩
    · simp [Value.cells] at hcs
      obtain ⟨rfl, rfl, rfl⟩ := hcs
      exact ⟨zs, .inr ⟨_, rfl, hl, hm, by simpa using hz, hcell, hwz⟩⟩
  clear hA0 hval0
  refine (walk a0 len0 cap0 z0 W w0).mono fun e W' ⟨he, bel⟩ => ?_
  subst he
  exact ⟨_, rfl, _, _, _, [], _, [], hW', trodAll_mk1 (shut_bool Try.underlying4 _), (trodAll_cons_mk (Below.trod laidOut (by kernel_rfl) (of_decide_eq_true (by kernel_rfl)) k0 bel lt0) trodAll_mk0), rfl, bel.frame _, fun h => by cases h⟩

theorem over : Rows.frameForgedRow.holds Try.pinned (OpenSpec.ofChange Rows.frameForgedSpec) :=
  OpenClaim.holds_of_wide 8 Try.f8 rfl rfl rfl rfl rfl rfl rfl ⟨rfl, rfl, rfl, rfl, rfl⟩ rfl rfl rfl rfl rfl (by kernel_rfl) Try.func8 (by kernel_rfl)
    (of_decide_eq_true (by kernel_rfl)) (by unfold Func.isWrapper; first | (rw [if_pos (by decide +kernel)]; kernel_rfl) | (rw [if_neg (by decide +kernel)]; exact ⟨rfl, rfl⟩))
    (fun os started H enc _ => lifted os started H enc)
end Ffo

theorem frameForged_holds : Rows.FrameForgedSaid := Ffo.over
#print axioms frameForged_holds
end Go.Proofs.Yticcmeicpkgfnaa
